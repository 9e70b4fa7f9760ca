/-
  A slice of parts as an argument.
-/
import Derived.Test.YtfflgimbgmbpaaaWfH
import Derived.Test.YtfflgimbgmbpaaaByA
import Derived.Deep.Slices
namespace Go.Proofs.Ytfflgimbgmbpaaa
open Go.ChangeShapes Go.WideShapes Go.ChangeAt Go.RowKit
open Go.Deep (open_slice choose_lt)
set_option linter.unusedVariables false
set_option maxRecDepth 100000

/-- 32 bytes. -/
def IsI (x : List Nat) : Prop := x.length = 32 ∧ ∀ b ∈ x, b < 256
theorem wf_u64p {z : Int} (h : (Lit.int .u64 z).wf = true) : 0 ≤ z ∧ z < 18446744073709551616 := by
  simp [Lit.wf, IntKind.min, IntKind.max, IntKind.signed, IntKind.bits] at h
  omega
theorem wf_i64p {z : Int} (h : (Lit.int .i64 z).wf = true) : -9223372036854775808 ≤ z ∧ z ≤ 9223372036854775807 := by
  simp [Lit.wf, IntKind.min, IntKind.max, IntKind.signed, IntKind.bits] at h
  omega
section
variable {H : Type} {enc : TypeId × Value → H} {P : Program} {w : World} {base : Nat} {spare : Nat → Bool} {held : Bool}
theorem i_of_trod {t e : TypeId} {f : Nat} {cs : List Value} {d : DataW H} {p : List MemPlace} (ht : P.underlying t = some (.array 32 e)) (he : P.underlying e = some (.int .u8)) (hce : P.cellsOf e = 1)
    (hlen : cs.length = 32) (h : DataW.trod enc P w base spare held f t cs = some (d, p)) : ∃ x, IsI x ∧ cs = (idA x).toList := by
  obtain ⟨xs, m, _, _, hcl, hxl, hi⟩ := DataW.trod_array ht h
  have hz : ∀ i, i < 32 → ∃ z : Nat, cs[i]? = some (.int .u8 (z : Int)) ∧ z < 256 := by
    intro i hin
    have h1 := hi i hin
    rw [hce, List.getElem?_eq_getElem (by omega)] at h1
    obtain ⟨z, e1, _, hw⟩ := DataW.trod_int he h1
    have hl : i < cs.length := by omega
    simp only [Nat.mul_one] at e1
    rw [List.drop_eq_getElem_cons hl] at e1
    simp only [List.take_succ_cons, List.take_zero, List.cons.injEq, and_true] at e1
    have hb := wf_byte hw
    obtain ⟨n, rfl⟩ := Int.eq_ofNat_of_zero_le hb.1
    refine ⟨n, ?_, by omega⟩
    rw [List.getElem?_eq_getElem hl]
    simpa using e1
  obtain ⟨g, hg⟩ := choose_lt hz
  refine ⟨(List.range 32).map g, ⟨by simp, fun b hb => ?_⟩, ?_⟩
  · obtain ⟨i, hi, rfl⟩ := List.mem_map.1 hb
    exact (hg i (by simpa using hi)).2
  · apply List.ext_getElem?
    intro i
    rw [show (idA ((List.range 32).map g)).toList = ((List.range 32).map g).map byteV from rfl, List.getElem?_map, List.getElem?_map]
    by_cases hi : i < 32
    · rw [(hg i hi).1, List.getElem?_range hi]
      rfl
    · rw [List.getElem?_eq_none (by omega), List.getElem?_eq_none (by simp; omega)]
      rfl
theorem u64_of_trod {t : TypeId} {f o : Nat} {cs : List Value} {d : DataW H × List MemPlace} (ht : P.underlying t = some (.int .u64)) (ho : o < cs.length)
    (h : DataW.trod enc P w base spare held f t ((cs.drop o).take 1) = some d) : ∃ n : Nat, n < 18446744073709551616 ∧ cs[o]? = some (.int .u64 (n : Int)) := by
  obtain ⟨z, e1, _, hw⟩ := DataW.trod_int ht h
  rw [List.drop_eq_getElem_cons ho] at e1
  simp only [List.take_succ_cons, List.take_zero, List.cons.injEq, and_true] at e1
  have hb := wf_u64p hw
  obtain ⟨n, rfl⟩ := Int.eq_ofNat_of_zero_le hb.1
  exact ⟨n, by omega, by rw [List.getElem?_eq_getElem ho, e1]⟩
theorem i64_of_trod {t : TypeId} {f o : Nat} {cs : List Value} {d : DataW H × List MemPlace} (ht : P.underlying t = some (.int .i64)) (ho : o < cs.length)
    (h : DataW.trod enc P w base spare held f t ((cs.drop o).take 1) = some d) : ∃ n : Int, (-9223372036854775808 ≤ n ∧ n ≤ 9223372036854775807) ∧ cs[o]? = some (.int .i64 n) := by
  obtain ⟨z, e1, _, hw⟩ := DataW.trod_int ht h
  rw [List.drop_eq_getElem_cons ho] at e1
  simp only [List.take_succ_cons, List.take_zero, List.cons.injEq, and_true] at e1
  exact ⟨z, wf_i64p hw, by rw [List.getElem?_eq_getElem ho, e1]⟩
end
theorem bytes_trod {H : Type} {enc : TypeId × Value → H} {w : World} {base f : Nat} {spare : Nat → Bool} {held : Bool} {cs : List Value} {x : DataW H × List MemPlace}
    (hf : DataW.trod enc Try.prog w base spare held f 24 cs = some x) : ∃ (v : Value) (xs : List Nat), cs = [v] ∧ BsV w w.heap.size v xs := by
  rcases open_ints Try.underlying24 Try.underlying5 (by kernel_rfl) hf with ⟨rfl, _⟩ | ⟨a, len, cap, zs, rfl, _, hl, hm, hz, _, hcell, hwz⟩
  · exact ⟨_, [], rfl, none, 0, rfl, Nat.le_refl _, by omega, by simp, fun h => absurd rfl h⟩
  · have hlz : len ≤ zs.length := by rw [hz]; split <;> omega
    have hxl : ((zs.take len).map Int.toNat).length = len := by rw [List.length_map, List.length_take]; omega
    refine ⟨_, (zs.take len).map Int.toNat, rfl, some a, cap, by rw [hxl], by omega, by unfold maxLen at hm; omega, ?_, ?_⟩
    · intro x hx
      simp only [List.mem_map] at hx
      obtain ⟨z, hzm, rfl⟩ := hx
      have := wf_byte (hwz z (List.mem_of_mem_take hzm))
      omega
    · intro hne
      have hpos : 0 < len := by
        rcases Nat.eq_zero_or_pos len with h0 | h0
        · subst h0; simp at hne
        · exact h0
      have c0 := hcell 0 (by omega)
      obtain ⟨b, o, spot⟩ := a
      have hspot : spot = none := by simpa [Addr.add] using World.cell?_spot c0
      subst hspot
      refine ⟨b, o, rfl, ?_, fun i hi => ?_⟩
      · exact block_lt_of_cell (a := ⟨b, o, none⟩) (by have := c0; simpa [Go.WideShapes.add_plain] using this)
      · have hi' : i < len := by rw [hxl] at hi; exact hi
        have ci := hcell i (by omega)
        rw [Addr.add_mid] at ci
        rw [ci]
        have hzi : zs[i]? = some (zs[i]'(by omega)) := List.getElem?_eq_getElem (by omega)
        have hw := wf_byte (hwz _ (List.getElem_mem (show i < zs.length by omega)))
        have e1 : zs.getD i 0 = zs[i]'(by omega) := by rw [List.getD, hzi]; rfl
        have e2 : nth ((zs.take len).map Int.toNat) i = (zs[i]'(by omega)).toNat := by
          unfold nth
          rw [List.getD, List.getElem?_map, List.getElem?_take_of_lt hi', hzi]; rfl
        rw [e1, e2]
        congr 2
        omega
/-- One part: what it says. -/
structure Pt where
  kind : Int
  size : Int
  n : Nat
  most : Nat
  dv : Value
  data : List Nat
  id : List Nat
instance : Inhabited Pt := ⟨⟨0, 0, 0, 0, undef, [], []⟩⟩
def ptL (x : Pt) : List Value := .int .i64 x.kind :: .int .i64 x.size :: .int .u64 (x.n : Int) :: .int .u64 (x.most : Int) :: x.dv :: (idA x.id).toList
def IsPt (w : World) (x : Pt) : Prop := (-9223372036854775808 ≤ x.kind ∧ x.kind ≤ 9223372036854775807) ∧ (-9223372036854775808 ≤ x.size ∧ x.size ≤ 9223372036854775807) ∧ x.n < 18446744073709551616 ∧ x.most < 18446744073709551616 ∧ BsV w w.heap.size x.dv x.data ∧ IsI x.id
def PtsV (w : World) (v : Value) (L : List Pt) : Prop := ∃ s cap, v = .slice s L.length cap ∧ L.length ≤ cap ∧ cap < 9223372036854775808 ∧
  (L ≠ [] → ∃ b o, s = some ⟨b, o, none⟩ ∧ b < w.heap.size ∧ ∀ i x, L[i]? = some x → IsPt w x ∧ ∀ j u, (ptL x)[j]? = some u → w.cell? ⟨b, o + i * 37 + j, none⟩ = some u)
theorem pt_trod {H : Type} {enc : TypeId × Value → H} {w : World} {base f : Nat} {spare : Nat → Bool} {held : Bool} {cs : List Value} {d : DataW H × List MemPlace} (hl : cs.length = 37)
    (hf : DataW.trod enc Try.prog w base spare held f 31 cs = some d) : ∃ x, IsPt w x ∧ cs = ptL x := by
  obtain ⟨d, p⟩ := d
  have h32 : Try.prog.cellsOf 29 = 32 := by kernel_rfl
  have h1 : Try.prog.cellsOf 27 = 1 := by kernel_rfl
  have hi1 : Try.prog.cellsOf 3 = 1 := by kernel_rfl
  have hs1 : Try.prog.cellsOf 24 = 1 := by kernel_rfl
  obtain ⟨xs, n, _, _, _, hxl, hi⟩ := DataW.trod_struct Try.underlying31 hf
  have e0 : DataW.trod enc Try.prog w base spare held n 3 ((cs.drop 0).take (Try.prog.cellsOf 3)) = xs[0]? := hi 0 _ rfl
  rw [hi1, List.getElem?_eq_getElem (by rw [hxl]; decide)] at e0
  have e1 : DataW.trod enc Try.prog w base spare held n 3 ((cs.drop 1).take (Try.prog.cellsOf 3)) = xs[1]? := hi 1 _ rfl
  rw [hi1, List.getElem?_eq_getElem (by rw [hxl]; decide)] at e1
  have e2 : DataW.trod enc Try.prog w base spare held n 27 ((cs.drop 2).take (Try.prog.cellsOf 27)) = xs[2]? := hi 2 _ rfl
  rw [h1, List.getElem?_eq_getElem (by rw [hxl]; decide)] at e2
  have e3 : DataW.trod enc Try.prog w base spare held n 27 ((cs.drop 3).take (Try.prog.cellsOf 27)) = xs[3]? := hi 3 _ rfl
  rw [h1, List.getElem?_eq_getElem (by rw [hxl]; decide)] at e3
  have e4 : DataW.trod enc Try.prog w base spare held n 24 ((cs.drop 4).take (Try.prog.cellsOf 24)) = xs[4]? := hi 4 _ rfl
  rw [hs1, List.getElem?_eq_getElem (by rw [hxl]; decide)] at e4
  have e5 : DataW.trod enc Try.prog w base spare held n 29 ((cs.drop 5).take (Try.prog.cellsOf 29)) = xs[5]? := hi 5 _ rfl
  rw [h32, List.getElem?_eq_getElem (by rw [hxl]; decide)] at e5
  obtain ⟨a0, b0, c0⟩ := i64_of_trod Try.underlying3 (by rw [hl]; decide) e0
  obtain ⟨a1, b1, c1⟩ := i64_of_trod Try.underlying3 (by rw [hl]; decide) e1
  obtain ⟨a2, b2, c2⟩ := u64_of_trod Try.underlying27 (by rw [hl]; decide) e2
  obtain ⟨a3, b3, c3⟩ := u64_of_trod Try.underlying27 (by rw [hl]; decide) e3
  obtain ⟨a4, d4, c4, b4_⟩ := bytes_trod e4
  obtain ⟨a5, b5, c5⟩ := i_of_trod Try.underlying29 Try.underlying5 (by kernel_rfl) (by rw [List.length_take, List.length_drop, hl]; decide) e5
  refine ⟨⟨a0, a1, a2, a3, a4, d4, a5⟩, ⟨b0, b1, b2, b3, b4_, b5⟩, ?_⟩
  have one : ∀ o v, cs[o]? = some v → cs.drop o = v :: cs.drop (o + 1) := fun o v h => by
    obtain ⟨ho, hv⟩ := List.getElem?_eq_some_iff.1 h
    rw [List.drop_eq_getElem_cons ho, hv]
  have c4' : cs.drop 4 = a4 :: cs.drop 5 := by
    have ho : 4 < cs.length := by rw [hl]; decide
    rw [List.drop_eq_getElem_cons ho] at c4 ⊢
    simp only [List.take_succ_cons, List.take_zero, List.cons.injEq, and_true] at c4
    rw [c4]
  have c5' : cs.drop 5 = (idA a5).toList := by rw [← c5]; exact (List.take_of_length_le (by rw [List.length_drop, hl]; decide)).symm
  rw [← List.drop_zero (l := cs), one 0 _ c0, one 1 _ c1, one 2 _ c2, one 3 _ c3, c4', c5']
  rfl
theorem pts_arg {H : Type} {enc : TypeId × Value → H} {w : World} {base b0 : Nat} {spare : Nat → Bool} {held : Bool} {r : Reach} {v : Value} {d : DataW H} {p : List MemPlace}
    (hv : Value.okWide Try.prog w r b0 22 v) (h : DataW.Trod enc Try.prog w base spare held 22 v d p) : ∃ L, PtsV w v L := by
  obtain ⟨s, len, cap, rfl⟩ := okWide_slice Try.underlying22 hv
  obtain ⟨f, hf⟩ := h
  rcases open_slice Try.underlying22 hf with ⟨hcs, _⟩ | ⟨a, len', cap', m, n, D, Pl, hcs, _, hlc, hcm, hm, _, hx⟩
  · simp [Value.cells] at hcs
    obtain ⟨rfl, rfl, rfl⟩ := hcs
    exact ⟨[], none, 0, rfl, Nat.le_refl _, by omega, fun h => absurd rfl h⟩
  · simp [Value.cells] at hcs
    obtain ⟨rfl, rfl, rfl⟩ := hcs
    have hlm : len ≤ m := by rw [hm]; split <;> omega
    have hce : Try.prog.cellsOf 31 = 37 := by kernel_rfl
    have hk : ∀ i, i < len → ∃ x, IsPt w x ∧ ∀ j u, (ptL x)[j]? = some u → w.cell? ((a.add (i * 37)).add j) = some u := by
      intro i hi
      obtain ⟨cs, hc, ht⟩ := hx i (by omega)
      rw [hce] at hc
      obtain ⟨_, hl, hcell⟩ := World.cells?_some hc
      obtain ⟨x, hx1, rfl⟩ := pt_trod hl ht
      refine ⟨x, hx1, fun j u hj => ?_⟩
      have hjl := (List.getElem?_eq_some_iff.1 hj).1
      rw [hcell j (by omega)]
      exact hj
    obtain ⟨g, hg⟩ := choose_lt hk
    have hll : ((List.range len).map g).length = len := by simp
    refine ⟨(List.range len).map g, some a, cap, by rw [hll], by omega, by unfold maxLen at hcm; omega, fun hne => ?_⟩
    have hpos : 0 < len := by
      rcases Nat.eq_zero_or_pos len with h0 | h0
      · subst h0; simp at hne
      · exact h0
    have c0 := (hg 0 hpos).2 0 _ rfl
    obtain ⟨b, o, spot⟩ := a
    have hspot : spot = none := by simpa [Addr.add] using World.cell?_spot c0
    subst hspot
    refine ⟨b, o, rfl, ?_, fun i x hxi => ?_⟩
    · exact block_lt_of_cell (a := ⟨b, o, none⟩) (by have := c0; simpa [Go.WideShapes.add_plain] using this)
    · have hil : i < len := by
        have := (List.getElem?_eq_some_iff.1 hxi).1
        simpa using this
      have hxe : x = g i := by simp [hil] at hxi; exact hxi.symm
      subst hxe
      refine ⟨(hg i hil).1, fun j u hu => ?_⟩
      have h3 := (hg i hil).2 j u hu
      simp only [Go.WideShapes.add_plain] at h3
      exact h3
end Go.Proofs.Ytfflgimbgmbpaaa
