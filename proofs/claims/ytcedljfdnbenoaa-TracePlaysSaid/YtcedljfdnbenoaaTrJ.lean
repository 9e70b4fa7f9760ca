/-
  Package trace: a book beside other memory; rows that come in.
-/
import Derived.Test.YtcedljfdnbenoaaTrI
import Derived.ProofKit
import Derived.Deep.Slices
import Derived.OpenShut
import Derived.ChangeOld
namespace Go.Proofs.Ytcedljfdnbenoaa
open Go.ChangeShapes Go.WideShapes Go.ChangeAt Go.RowKit
open Go.Deep (open_slice choose_lt)
set_option linter.unusedVariables false
set_option linter.unusedSimpArgs false
set_option maxRecDepth 100000
set_option maxRecDepth 100000
def intR : RowT Int := ⟨3, 22, 1, 8, fun z => [.int .i64 z], 0⟩
theorem int_facts : (Try.prog.info? 3).map (fun i => (i.zero.map (·.cells), i.size, i.bytes)) = some (some #[.int .i64 0], 1, 8) := by kernel_rfl
theorem int_info : ∃ i v, Try.prog.info? 3 = some i ∧ i.zero = some v ∧ i.size = 1 ∧ i.bytes = 8 ∧ v.cells = #[.int .i64 0] := by
  obtain ⟨i, hi, hs⟩ := Option.map_eq_some_iff.1 int_facts
  simp only [Prod.mk.injEq, Option.map_eq_some_iff] at hs
  obtain ⟨⟨v, hv, hc⟩, h1, h2⟩ := hs
  exact ⟨i, v, hi, hv, h1, h2, hc⟩
theorem intR_ok : intR.Ok where
  ht := Try.underlying22
  info := int_info
  len := fun x => rfl
  one := fun x v hv => by
    rw [List.mem_singleton.1 hv]
    rfl
  pos := by decide
  bys := by decide
theorem rowsF_trod {α : Type} {R : RowT α} (hR : R.Ok) (Pr : α → Prop) {H : Type} {enc : TypeId × Value → H} {w : World} {base f : Nat} {spare : Nat → Bool} {held : Bool} {cs0 : List Value} {d : DataW H × List MemPlace}
    (hce : Try.prog.cellsOf R.e = R.k) (hel : ∀ n cs d, cs.length = R.k → DataW.trod enc Try.prog w base spare held n R.e cs = some d → ∃ x, Pr x ∧ cs = R.c x)
    (hf : DataW.trod enc Try.prog w base spare held f R.t cs0 = some d) : ∃ s L c, cs0 = [.slice s L.length c] ∧ RowV R w w.heap.size (.slice s L.length c) L ∧ ∀ x ∈ L, Pr x := by
  rcases open_slice hR.ht hf with ⟨hcs, _⟩ | ⟨a, len, cap, m, n, D, Pl, hcs, _, hlc, hcm, hm, _, hx⟩
  · exact ⟨none, [], 0, hcs, ⟨none, 0, rfl, Nat.le_refl _, by omega, fun h => absurd rfl h⟩, fun x hx => by cases hx⟩
  · have hlm : len ≤ m := by rw [hm]; split <;> omega
    have hk : ∀ i, i < len → ∃ x, Pr x ∧ ∀ j u, (R.c x)[j]? = some u → w.cell? ((a.add (i * R.k)).add j) = some u := by
      intro i hi
      obtain ⟨cs, hc, ht⟩ := hx i (by omega)
      rw [hce] at hc
      obtain ⟨_, hl, hcell⟩ := World.cells?_some hc
      obtain ⟨x, hx1, rfl⟩ := hel _ _ _ hl ht
      refine ⟨x, hx1, fun j u hj => ?_⟩
      have hjl := (List.getElem?_eq_some_iff.1 hj).1
      rw [hcell j (by omega)]
      exact hj
    haveI : Inhabited α := ⟨R.z⟩
    obtain ⟨g, hg⟩ := choose_lt hk
    have hll : ((List.range len).map g).length = len := by simp
    refine ⟨some a, (List.range len).map g, cap, by rw [hll]; exact hcs, ⟨some a, cap, rfl, by omega, by unfold maxLen at hcm; omega, fun hne => ?_⟩, fun x hx => ?_⟩
    · have hpos : 0 < len := by
        rcases Nat.eq_zero_or_pos len with h0 | h0
        · subst h0; simp at hne
        · exact h0
      obtain ⟨u0, hu0⟩ : ∃ u, (R.c (g 0))[0]? = some u := ⟨_, List.getElem?_eq_getElem (by rw [hR.len]; exact hR.pos)⟩
      have c0 := (hg 0 hpos).2 0 _ hu0
      obtain ⟨b, o, spot⟩ := a
      have hspot : spot = none := by simpa [Addr.add] using World.cell?_spot c0
      subst hspot
      refine ⟨b, o, rfl, ?_, fun i x hxi => ?_⟩
      · exact block_lt_of_cell (a := ⟨b, o, none⟩) (by have := c0; simpa [Go.WideShapes.add_plain] using this)
      · have hil : i < len := by
          have := (List.getElem?_eq_some_iff.1 hxi).1
          simpa using this
        have hxe : x = g i := by simp [hil] at hxi; exact hxi.symm
        subst hxe
        intro j u hu
        have h3 := (hg i hil).2 j u hu
        simp only [Go.WideShapes.add_plain] at h3
        exact h3
    · obtain ⟨i, hi, rfl⟩ := List.mem_map.1 hx
      exact (hg i (by simpa using hi)).1
theorem wf_i64r {z : Int} (h : (Lit.int .i64 z).wf = true) : -9223372036854775808 ≤ z ∧ z ≤ 9223372036854775807 := by
  simp [Lit.wf, IntKind.min, IntKind.max, IntKind.signed, IntKind.bits] at h
  omega
section
variable {H : Type} {enc : TypeId × Value → H} {P : Program} {w : World} {base : Nat} {spare : Nat → Bool} {held : Bool}
theorem i64_of_trod {t : TypeId} {f o : Nat} {cs : List Value} {d : DataW H × List MemPlace} (ht : P.underlying t = some (.int .i64)) (ho : o < cs.length)
    (h : DataW.trod enc P w base spare held f t ((cs.drop o).take 1) = some d) : ∃ n : Int, (-9223372036854775808 ≤ n ∧ n ≤ 9223372036854775807) ∧ cs[o]? = some (.int .i64 n) := by
  obtain ⟨z, e1, _, hw⟩ := DataW.trod_int ht h
  rw [List.drop_eq_getElem_cons ho] at e1
  simp only [List.take_succ_cons, List.take_zero, List.cons.injEq, and_true] at e1
  exact ⟨z, wf_i64r hw, by rw [List.getElem?_eq_getElem ho, e1]⟩
end
section
variable {H : Type} {enc : TypeId × Value → H} {P : Program} {w : World} {base : Nat} {spare : Nat → Bool} {held : Bool}
theorem open_ints_arr {r : Reach} {b0 : Nat} {t e : TypeId} {n : Nat} {k : IntKind} {v : Value} {d : DataW H} {p : List MemPlace} (ht : P.underlying t = some (.array n e)) (he : P.underlying e = some (.int k)) (hce : P.cellsOf e = 1) (hct : P.cellsOf t = n)
    (hv : Value.okWide P w r b0 t v) (h : DataW.Trod enc P w base spare held t v d p) :
    ∃ zs : List Int, zs.length = n ∧ v = .agg (zs.map (Value.int k)).toArray ∧ ∀ z ∈ zs, (Lit.int k z).wf = true := by
  obtain ⟨cs, rfl, hsz, _⟩ : ∃ cs, v = .agg cs ∧ cs.size = P.cellsOf t ∧ Row.okWide P w r b0 t cs := by simpa [Value.okWide, ht] using hv
  obtain ⟨fuel, hf⟩ := h
  obtain ⟨xs, m, _, _, hcl, hxl, hi⟩ := DataW.trod_array ht hf
  have hz : ∀ i, i < n → ∃ z, cs[i]? = some (.int k z) ∧ (Lit.int k z).wf = true := by
    intro i hin
    have h1 := hi i hin
    rw [hce, List.getElem?_eq_getElem (by omega)] at h1
    obtain ⟨z, e1, _, hw⟩ := DataW.trod_int he h1
    refine ⟨z, ?_, hw⟩
    have hl : i < cs.size := by omega
    simp only [Nat.mul_one, Value.cells] at e1
    rw [List.drop_eq_getElem_cons (by simpa using hl)] at e1
    simp only [List.take_succ_cons, List.take_zero, List.cons.injEq, and_true] at e1
    rw [Array.getElem?_eq_getElem hl]
    simpa using e1
  refine ⟨(List.range n).map (fun i => intOf ((cs[i]?).getD (.int k 0))), by simp, ?_, ?_⟩
  · congr 1
    apply Array.ext_getElem?
    intro i
    by_cases hin : i < n
    · obtain ⟨z, hc, _⟩ := hz i hin
      simp [hin, hc, intOf]
    · rw [Array.getElem?_eq_none (by omega)]
      simp [hin]
  · intro z hzm
    simp only [List.mem_map, List.mem_range] at hzm
    obtain ⟨i, hin, rfl⟩ := hzm
    obtain ⟨z, hc, hw⟩ := hz i hin
    rw [hc]
    exact hw
end

theorem drop_one {cs : List Value} {o : Nat} {v : Value} (h : cs[o]? = some v) : cs.drop o = v :: cs.drop (o + 1) := by
  obtain ⟨ho, hv⟩ := List.getElem?_eq_some_iff.1 h
  rw [List.drop_eq_getElem_cons ho, hv]
theorem ints_arg {H : Type} {enc : TypeId × Value → H} {w : World} {base b0 : Nat} {spare : Nat → Bool} {held : Bool} {r : Reach} {v : Value} {d : DataW H} {p : List MemPlace}
    (hv : Value.okWide Try.prog w r b0 22 v) (h : DataW.Trod enc Try.prog w base spare held 22 v d p) : ∃ L : List Int, RowV intR w w.heap.size v L ∧ ∀ z ∈ L, -9223372036854775808 ≤ z ∧ z ≤ 9223372036854775807 := by
  obtain ⟨s0, len, cap, rfl⟩ := okWide_slice Try.underlying22 hv
  obtain ⟨fuel, hf⟩ := h
  obtain ⟨s, L, c, h1, h2, h3⟩ := rowsF_trod intR_ok (fun z => -9223372036854775808 ≤ z ∧ z ≤ 9223372036854775807) (by kernel_rfl) (fun n cs d h1 h2 => by
    obtain ⟨z, e1, _, hw⟩ := DataW.trod_int Try.underlying3 h2
    exact ⟨z, wf_i64r hw, e1⟩) hf
  simp [Value.cells] at h1
  obtain ⟨rfl, rfl, rfl⟩ := h1
  exact ⟨L, h2, h3⟩

/-- A book of the call's own, beside blocks F. -/
def HasF (w W : World) (F : Nat → Prop) (g N : Nat) (M : BkM) : Prop := ∃ S, BkI W S g N M ∧ (∀ k, S k → w.heap.size ≤ k) ∧ (∀ k, F k → k < W.heap.size ∧ ¬ S k) ∧ Below w.heap.size w W
def SameF (F : Nat → Prop) (W W' : World) : Prop := ∀ k, F k → W'.heap[k]? = W.heap[k]?
theorem SameF.keep {F : Nat → Prop} {W W' : World} (h : SameF F W W') {k : Nat} (hk : F k) {t : TypeId} {cs : Array Value} (K : Bk W k t cs) : Bk W' k t cs := (h k hk).trans K
theorem Goes.hasF {w W W' : World} {S F : Nat → Prop} {g N : Nat} {M : BkM} (h : Goes S W g N M W') (hs : ∀ k, S k → w.heap.size ≤ k) (hF : ∀ k, F k → k < W.heap.size ∧ ¬ S k) (hb : Below w.heap.size w W) : HasF w W' F g N M ∧ SameF F W W' := by
  obtain ⟨S', r1, r2, r3⟩ := h
  refine ⟨⟨S', r1, fun k hk => (r2 k hk).elim (hs k) (fun h => Nat.le_trans hb.size h), fun k hk => ⟨Nat.lt_of_lt_of_le (hF k hk).1 r3.size, fun hk' => ?_⟩, hb.trans (r3.below hb.size hs)⟩, fun k hk => r3.block k (hF k hk).1 (hF k hk).2⟩
  have := (hF k hk).1
  rcases r2 k hk' with h | h
  · exact (hF k hk).2 h
  · omega
theorem HasF.new (w : World) (N : Nat) : HasF w (w.alloc (.cells #[.map none, .map none] 27)) (fun _ => False) w.heap.size N bk0 :=
  ⟨_, bk_new w N, fun k hk => by rw [hk]; exact Nat.le_refl _, fun k h => h.elim, (Below.refl _ _).alloc (Nat.le_refl _) _⟩
theorem HasF.more {w W W' : World} {F F' : Nat → Prop} {g N : Nat} {M : BkM} (h : HasF w W F g N M) (hb : Below W.heap.size W W') (hF : ∀ k, F' k → F k ∨ (W.heap.size ≤ k ∧ k < W'.heap.size)) : HasF w W' F' g N M := by
  obtain ⟨S, r1, r2, r3, r4⟩ := h
  refine ⟨_, r1.tight.keep hb, fun k hk => r2 k hk.1, fun k hk => ?_, r4.trans (hb.mono r4.size)⟩
  rcases hF k hk with h | ⟨h1, h2⟩
  · exact ⟨Nat.lt_of_lt_of_le (r3 k h).1 hb.size, fun hk => (r3 k h).2 hk.1⟩
  · exact ⟨h2, fun hk => by have := hk.2; omega⟩
theorem HasF.keep {w W W' : World} {F : Nat → Prop} {g N : Nat} {M : BkM} (h : HasF w W F g N M) (hb : Below W.heap.size W W') : HasF w W' F g N M := h.more hb (fun k hk => .inl hk)
/-- A block that isn't the book's is written. -/
theorem HasF.but {w W W' : World} {F G : Nat → Prop} {g N : Nat} {M : BkM} (h : HasF w W F g N M) (hb : But G W W') (hG : ∀ k, G k → k < W.heap.size → F k ∧ w.heap.size ≤ k) : HasF w W' F g N M := by
  obtain ⟨S, r1, r2, r3, r4⟩ := h
  refine ⟨S, r1.but hb (fun k hk hs hg => (r3 k (hG k hg hk).1).2 hs), r2, fun k hk => ⟨Nat.lt_of_lt_of_le (r3 k hk).1 hb.size, (r3 k hk).2⟩, r4.trans ?_⟩
  exact ⟨hb.os, hb.tape, hb.output, hb.size, fun k hk => hb.block k (Nat.lt_of_lt_of_le hk r4.size) (fun hg => by have := (hG k hg (Nat.lt_of_lt_of_le hk r4.size)).2; omega)⟩
theorem HasF.below {w W : World} {F : Nat → Prop} {g N : Nat} {M : BkM} (h : HasF w W F g N M) : Below w.heap.size w W := by obtain ⟨_, _, _, _, h⟩ := h; exact h
theorem HasF.came {w W : World} {F : Nat → Prop} {g N : Nat} {M : BkM} (h : HasF w W F g N M) (id : Int) (hid : InI id) (hN : M.n < 1000000) :
    Calls Try.prog 8 #[bkP g, .int .i64 id] W fun e W' => e = .returned (.int .i64 (cameE M id)) ∧ HasF w W' F g N (cameM M id) ∧ SameF F W W' := by
  obtain ⟨S, r1, r2, r3, r4⟩ := h
  refine (came_any r1 id hid hN).mono ?_
  rintro e W' ⟨rfl, hg⟩
  exact ⟨rfl, hg.hasF r2 r3 r4⟩
theorem HasF.said {w W : World} {F : Nat → Prop} {g N : Nat} {M : BkM} (h : HasF w W F g N M) (id : Int) (hid : InI id) (MS : Array Value) (kd : Int) (nv : Value) (L : List I32) (h0 : MS[0]? = some (.int .i64 kd)) (h3 : MS[3]? = some nv)
    (hL : kd = 6 → RowV idR W W.heap.size nv L ∧ L.length ≤ 1000000) (hN : N ≤ 1000000) (hA : (M.L id).length ≤ 1000000) :
    Calls Try.prog 9 #[bkP g, .int .i64 id, .agg MS] W fun e W' => e = .returned (.int .i64 (saidE M id kd L)) ∧ HasF w W' F g (N + 16) (saidM M id kd L) ∧ SameF F W W' := by
  obtain ⟨S, r1, r2, r3, r4⟩ := h
  refine (said_any r1 id hid MS kd nv L h0 h3 hL hN hA).mono ?_
  rintro e W' ⟨rfl, hg⟩
  exact ⟨rfl, hg.hasF r2 r3 r4⟩
theorem HasF.heard {w W : World} {F : Nat → Prop} {g N : Nat} {M : BkM} (h : HasF w W F g N M) (id : Int) (hid : InI id) (MS : Array Value) (kd : Int) (nv : Value) (x : I32) (L : List I32) (h0 : MS[0]? = some (.int .i64 kd)) (h3 : MS[3]? = some nv)
    (hL : kd = 8 → RowV idR W W.heap.size nv L ∧ (∀ k, slb nv k → F k) ∧ L.length ≤ 1000000) :
    Calls Try.prog 10 #[bkP g, .int .i64 id, .agg MS, idV x] W fun e W' => e = .returned (.tuple #[]) ∧ HasF w W' F g N (heardM M id kd x L) ∧ SameF F W W' := by
  obtain ⟨S, r1, r2, r3, r4⟩ := h
  refine (heard_any r1 id hid MS kd nv x L h0 h3 (fun e => ⟨(hL e).1, fun k hk => (r3 k ((hL e).2.1 k hk)).2, (hL e).2.2⟩)).mono ?_
  rintro e W' ⟨rfl, hg⟩
  exact ⟨rfl, hg.hasF r2 r3 r4⟩
theorem HasF.asked {w W : World} {F : Nat → Prop} {g N : Nat} {M : BkM} (h : HasF w W F g N M) (id : Int) (hL : (M.L id).length < 4611686018427387904) :
    Calls Try.prog 14 #[bkP g, .int .i64 id] W fun e W' => e = .returned (.int .i64 ((M.L id).length : Nat)) ∧ HasF w W' F g N M ∧ Below W.heap.size W W' := by
  have h' := h
  obtain ⟨S, r1, r2, r3, r4⟩ := h
  refine (asked_any r1 id hL).mono ?_
  rintro e W' ⟨rfl, hb⟩
  exact ⟨rfl, h'.keep hb, hb⟩
theorem HasF.len {w W : World} {F : Nat → Prop} {g N : Nat} {M : BkM} (h : HasF w W F g N M) :
    Calls Try.prog 11 #[bkP g] W fun e W' => e = .returned (.int .i64 (M.n : Int)) ∧ W' = W := by
  obtain ⟨S, r1, r2, r3, r4⟩ := h
  exact len_any r1
theorem HasF.gone {w W : World} {F : Nat → Prop} {g N : Nat} {M : BkM} (h : HasF w W F g N M) (id : Int) (hid : InI id) :
    Calls Try.prog 13 #[bkP g, .int .i64 id] W fun e W' => e = .returned (.tuple #[]) ∧ HasF w W' F g N (goneM M id) ∧ SameF F W W' := by
  obtain ⟨S, r1, r2, r3, r4⟩ := h
  refine (gone_any r1 id hid).mono ?_
  rintro e W' ⟨rfl, hg⟩
  exact ⟨rfl, hg.hasF r2 r3 r4⟩
theorem updT_same (T : Int → Option TkM) (i : Int) (y : Option TkM) : updT T i y i = y := if_pos rfl
theorem updT_two (T : Int → Option TkM) (i : Int) (x y : Option TkM) : updT (updT T i x) i y = updT T i y := by
  funext j
  unfold updT
  by_cases e : j = i
  · rw [if_pos e, if_pos e]
  · rw [if_neg e, if_neg e, if_neg e]
end Go.Proofs.Ytcedljfdnbenoaa
