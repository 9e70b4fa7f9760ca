/-
  Package trace's laws: bytes as rows; is a byte among some?
-/
import Derived.Test.YtcedljfdnbenoaaTrJ
import Derived.Test.YtcedljfdnbenoaaByA
namespace Go.Proofs.Ytcedljfdnbenoaa
open Go.RowKit
set_option linter.unusedVariables false
set_option linter.unusedSimpArgs false
set_option maxRecDepth 100000

def byR : RowT Nat := ⟨5, 48, 1, 1, fun z => [.int .u8 (z : Int)], 0⟩
theorem by_facts : (Try.prog.info? 5).map (fun i => (i.zero.map (·.cells), i.size, i.bytes)) = some (some #[.int .u8 0], 1, 1) := by kernel_rfl
theorem by_info : ∃ i v, Try.prog.info? 5 = some i ∧ i.zero = some v ∧ i.size = 1 ∧ i.bytes = 1 ∧ v.cells = #[.int .u8 0] := by
  obtain ⟨i, hi, hs⟩ := Option.map_eq_some_iff.1 by_facts
  simp only [Prod.mk.injEq, Option.map_eq_some_iff] at hs
  obtain ⟨⟨v, hv, hc⟩, h1, h2⟩ := hs
  exact ⟨i, v, hi, hv, h1, h2, hc⟩
theorem byR_ok : byR.Ok where
  ht := Try.underlying48
  info := by_info
  len := fun x => rfl
  one := fun x v hv => by
    rw [List.mem_singleton.1 hv]
    rfl
  pos := by decide
  bys := by decide
theorem byR_of {w : World} {B : Nat} {v : Value} {xs : List Nat} (h : BsV w B v xs) : RowV byR w B v xs := by
  obtain ⟨s, cap, rfl, h1, h2, h3, h4⟩ := h
  refine ⟨s, cap, rfl, h1, h2, fun hne => ?_⟩
  obtain ⟨b, o, e, hb, hc⟩ := h4 hne
  refine ⟨b, o, e, hb, fun i x hx j v hv => ?_⟩
  obtain ⟨hi, hx'⟩ := List.getElem?_eq_some_iff.1 hx
  have := hc i hi
  have hj : j = 0 := by
    have := (List.getElem?_eq_some_iff.1 hv).1
    simp [byR] at this
    exact this
  subst hj
  have hv : v = .int .u8 (x : Int) := by simpa [byR] using hv.symm
  rw [hv, show o + i * byR.k + 0 = o + i by show o + i * 1 + 0 = _; omega, this]
  unfold nth
  rw [List.getD, hx]
  rfl
/-- A part of a slice, from its beginning. -/
theorem rowV_take {w : World} {B n c : Nat} {s : Option Addr} {xs : List Nat} (h : RowV byR w B (.slice s n c) xs) {i : Nat} (hi : i ≤ n) : (Instr.slice 48 (.slice s n c) none (some (.int .i64 (i : Int))) none).run Try.prog w = .ok (.slice s i c) w ∧ RowV byR w B (.slice s i c) (xs.take i) := by
  obtain ⟨s', cap, e, h1, h2, h4⟩ := h
  cases e
  have hl : (xs.take i).length = i := by rw [List.length_take]; omega
  have hic : i ≤ c := by omega
  constructor
  · have hsz : ∀ w, (Go.sizeOf 5).run Try.prog w = .ok 1 w := fun w => by
      obtain ⟨i', v, hi', hz, hs, _⟩ := by_info
      simp [Go.sizeOf, typeInfo, hi', hs]
    have h0 : (0 : Int) ≤ (i : Int) ∧ (i : Int) ≤ (c : Int) := by omega
    cases s <;> simp [Instr.slice, Instr.sliceBounds, Instr.sliceBound, asIntOf, run_underlying Try.underlying48, hsz, Addr.add, hic]
  · refine ⟨s, c, by rw [hl], by omega, h2, fun hne => ?_⟩
    obtain ⟨b, o, e, hb, hc⟩ := h4 (fun e => hne (by rw [e]; simp))
    exact ⟨b, o, e, hb, fun j x hx => hc j x (by
      rw [List.getElem?_take] at hx
      split at hx
      · exact hx
      · cases hx)⟩
theorem byR_cell {w : World} {B : Nat} {s : Option Addr} {n c : Nat} {L : List Nat} (h : RowV byR w B (.slice s n c) L) : ∀ k, k < L.length → ∃ x b o, L[k]? = some x ∧ s = some ⟨b, o, none⟩ ∧ b < B ∧ w.cell? ⟨b, o + k, none⟩ = some (.int .u8 (x : Int)) := by
  intro k hk
  obtain ⟨x, b, o, e1, e2, e3, e4⟩ := row_at h k hk
  have := e4 0 _ rfl
  change w.cell? ⟨b, o + k * 1 + 0, none⟩ = some (.int .u8 (x : Int)) at this
  rw [Nat.mul_one, Nat.add_zero] at this
  exact ⟨x, b, o, e1, e2, e3, this⟩
set_option maxHeartbeats 4000000 in
theorem has_any (l : List Nat) (x : Nat) (v : Value) (w : World) (h : RowV byR w w.heap.size v l) :
    Calls Try.prog 12 #[v, .int .u8 (x : Int)] w fun e w' => e = .returned (.bool (decide (x ∈ l))) ∧ w' = w := by
  have h63 : l.length < 9223372036854775808 := by obtain ⟨_, _, _, h1, h2, _⟩ := h; omega
  obtain ⟨s0, c, rfl⟩ : ∃ s c, v = .slice s l.length c := h.slice
  have hrow := byR_cell h
  obtain ⟨n, hn⟩ : ∃ n, n = l.length := ⟨_, rfl⟩
  rw [← hn] at hrow h63 ⊢
  have HL := Lib.hid hrow
  have HN := Lib.hid hn
  obtain ⟨res, hres⟩ : ∃ r, r = decide (x ∈ l) := ⟨_, rfl⟩
  have HR := Lib.hid hres
  rw [← hres]
  clear hrow hn h hres
  go_enter Try.func12, Try.ntmps12
  go_wp2_with fail
  go_loopw [9] (fun i wr => ∃ k : Nat, k ≤ n ∧ i = .int .i64 k ∧ Hid (x ∉ l.take k) ∧ Hid (wr = w)) (fun i _ => n - (intOf i).toNat)
  case atStart => exact ⟨0, Nat.zero_le _, rfl, by show _ ∉ _; simp, rfl⟩
  case round =>
    obtain ⟨k, hk, rfl, HX, HW⟩ := hrel
    by_cases hlt : k < n
    · obtain ⟨y, b, o, hky, rfl, hbw, hcy⟩ := HL.out k hlt
      have j1 : decide ((k : Int) < (n : Int)) = true := decide_eq_true (by omega)
      rw [← HW.out] at hcy hbw
      by_cases e : x = y
      · have d1 : ((x : Int) == (y : Int)) = true := by simp [e]
        have hr : res = true := by
          rw [HR.out, e]
          exact decide_eq_true (List.mem_of_getElem? hky)
        clear hky HX
        go_wp2_with fail
        go_ret
        exact ⟨by rw [hr]; rfl, HW.out⟩
      · have d1 : ((x : Int) == (y : Int)) = false := by
          simp
          omega
        have HX' : Hid (x ∉ l.take (k + 1)) := by
          show _ ∉ _
          rw [List.take_add_one, hky]
          have := HX.out
          simp [this, e]
        clear hky HX
        go_wp2_with fail
        go_roundw
        case rel => exact ⟨k + 1, by omega, by go_num, HX', HW⟩
        case measure => simp [intOf]; omega
    · obtain rfl : k = n := by omega
      have j1 : decide ((k : Int) < (k : Int)) = false := decide_eq_false (by omega)
      have hr : res = false := by
        have := HX.out
        rw [HN.out, List.take_length] at this
        rw [HR.out]
        exact decide_eq_false this
      clear hlt HX
      go_wp2_with fail
      go_ret
      exact ⟨by rw [hr]; rfl, HW.out⟩
/-- Names of bytes. -/
def idN (x : Nat) : I32 := if h : x < 256 then idB x h else i0
theorem idN_lt {x : Nat} (h : x < 256) : idN x = idB x h := dif_pos h
theorem idN_inj {x y : Nat} (hx : x < 256) (hy : y < 256) (h : idN x = idN y) : x = y := by
  rw [idN_lt hx, idN_lt hy] at h
  have := congrArg Subtype.val h
  simp [idB] at this
  exact this
theorem wpList_ap {ops : Array Oper} {rest : List Oper} {o : Oper} {a : Act} {w W : World} {Q : Exit → Act → World → Prop} {v1 v2 v : Value} (t : TypeId) (hg : o.guard = none) (s x : Operand)
    (hop : o.op = Op.call { callee := Callee.builtin Builtin.append, args := #[s, x], argTypes := #[t, t] }) (hty : o.type = t) (hs : a.eval s = v1) (hx : a.eval x = v2)
    (hrun : (Builtin.append_ #[t, t] t #[v1, v2]).run Try.prog w = .ok v W) (hK : wpList Try.prog ops Q rest (a.put o.dst v) W) : wpList Try.prog ops Q (o :: rest) a w := by
  refine wpList_plain hg fun K hK' => ?_
  unfold Oper.wp
  simp [execOp, hop, resolve, invoke, builtin, hs, hx, hty, hrun, Result.andThen]
  exact hK' _ _ hK
theorem step_bsR1 {α : Type} {R : RowT α} (h : R.Ok) (hk : R.k ≤ 1000) {ops : Array Oper} {o : Oper} {a : Act} {w : World} {K : Act → World → Prop} {Q : Exit → Act → World → Prop} {E : Prop} (hg : o.guard = none) (k : Operand) (ho : o.op = .buildSlice R.t 1 #[(0, k)])
    (x : α) (hev : a.eval k = .agg (R.c x).toArray) (hK : K (a.put o.dst (.slice (some ⟨w.heap.size, 0, none⟩) 1 1)) (w.alloc (.cells (R.flat [x]).toArray R.e))) :
    if Region.wanted o (yielded ops a.tmps) = true then Oper.wp Try.prog o a w K Q else E := by
  have hw : Region.wanted o (yielded ops a.tmps) = true := by simp [Region.wanted, hg]
  rw [if_pos hw]
  obtain ⟨i, v, hi, hz, hs, hby, _⟩ := h.info
  have hb := h.bys
  refine wp_buildSlice R.t R.e 1 #[(0, k)] ho _ i _ h.ht hi hz (by rw [hs]; omega) (by rw [hs]; have := h.pos; omega) ?_ hK
  have e1 : ((#[(0, k)] : Array (Nat × Operand)).map fun (i, x) => (i, a.eval x)).toList = (([x].map fun x => Value.agg (R.c x).toArray).zipIdx 0).map fun x => (x.2, x.1) := by
    rw [Array.toList_map]
    simp [hev]
  have e2 : (R.flat [x]).toArray = (([x].map fun x => Value.agg (R.c x).toArray).flatMap fun v => v.cells.toList).toArray := by
    unfold RowT.flat
    simp [Value.cells]
  rw [e1, hs, e2]
  refine Great.fill_whole (by have := h.pos; omega) _ _ ?_ ?_
  · intro v hv
    simp only [List.map_cons, List.map_nil, List.mem_singleton] at hv
    subst hv
    show (R.c x).toArray.size = R.k
    rw [List.size_toArray, h.len]
  · simp
theorem wpList_bsR1 {α : Type} {R : RowT α} (h : R.Ok) (hk : R.k ≤ 1000) {ops : Array Oper} {rest : List Oper} {o : Oper} {a : Act} {w : World} {Q : Exit → Act → World → Prop} (hg : o.guard = none) (k : Operand) (ho : o.op = .buildSlice R.t 1 #[(0, k)])
    (x : α) (hev : a.eval k = .agg (R.c x).toArray) (hK : wpList Try.prog ops Q rest (a.put o.dst (.slice (some ⟨w.heap.size, 0, none⟩) 1 1)) (w.alloc (.cells (R.c x).toArray R.e))) : wpList Try.prog ops Q (o :: rest) a w :=
  wpList_plain hg fun K hh => by
    have s := step_bsR1 (Q := Q) (E := True) (ops := ops) h hk hg k ho x hev (K := K) (by rw [flat_sing]; exact hh _ _ hK)
    have hw : Region.wanted o (yielded ops a.tmps) = true := by simp [Region.wanted, hg]
    rw [if_pos hw] at s
    exact s
theorem HasF.rebase {w w1 W : World} {F : Nat → Prop} {g N : Nat} {M : BkM} (h : HasF w1 W F g N M) (hb : Below w.heap.size w w1) : HasF w W F g N M := by
  obtain ⟨S, r1, r2, r3, r4⟩ := h
  exact ⟨S, r1, fun k hk => Nat.le_trans hb.size (r2 k hk), r3, hb.trans (r4.mono hb.size)⟩
theorem HasF.before {w W : World} {F F' : Nat → Prop} {g N : Nat} {M : BkM} (h : HasF w W F g N M) (hF : ∀ k, F' k → k < w.heap.size) : HasF w W F' g N M := by
  obtain ⟨S, r1, r2, r3, r4⟩ := h
  exact ⟨S, r1, r2, fun k hk => ⟨Nat.lt_of_lt_of_le (hF k hk) r4.size, fun hs => by have := hF k hk; have := r2 k hs; omega⟩, r4⟩
theorem HasF.mono {w W : World} {F : Nat → Prop} {g N N' : Nat} {M : BkM} (h : HasF w W F g N M) (hN : N ≤ N') : HasF w W F g N' M := by
  obtain ⟨S, r1, r2, r3, r4⟩ := h
  exact ⟨S, r1.mono hN, r2, r3, r4⟩
theorem HasF.glt {w W : World} {F : Nat → Prop} {g N : Nat} {M : BkM} (h : HasF w W F g N M) : g < W.heap.size := by obtain ⟨_, r1, _⟩ := h; exact r1.lt
theorem RowV.same {α : Type} {R : RowT α} {W W' : World} {F : Nat → Prop} {B : Nat} {v : Value} {L : List α} (h : RowV R W B v L) (hs : SameF F W W') (hF : ∀ k, slb v k → F k) : RowV R W' B v L := by
  obtain ⟨s, cap, rfl, h1, h2, h4⟩ := h
  refine ⟨s, cap, rfl, h1, h2, fun hne => ?_⟩
  obtain ⟨b, o, e, hb, hc⟩ := h4 hne
  refine ⟨b, o, e, hb, fun i x hx j v hv => ?_⟩
  have := hc i x hx j v hv
  rw [← this]
  exact World.cell?_of_block (hs b (hF b (by rw [e]; exact slb_mk b o _ _)))
theorem RowV.bound {α : Type} {R : RowT α} {w W : World} {B g N : Nat} {M : BkM} {v : Value} {L : List α} (h : RowV R W B v L) (hF : HasF w W (slb v) g N M) : RowV R W W.heap.size v L := by
  obtain ⟨s, cap, rfl, h1, h2, h4⟩ := h
  refine ⟨s, cap, rfl, h1, h2, fun hne => ?_⟩
  obtain ⟨b, o, e, hb, hc⟩ := h4 hne
  obtain ⟨S, _, _, r3, _⟩ := hF
  exact ⟨b, o, e, (r3 b (by rw [e]; exact slb_mk b o _ _)).1, hc⟩
end Go.Proofs.Ytcedljfdnbenoaa
