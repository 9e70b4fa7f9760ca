/-
  A slice of names that comes in, and a name.
-/
import Derived.Test.YtpemljbdmbinlaaDoorMerZ
import Derived.Test.YtpemljbdmbinlaaDoorHashZ
import Derived.Deep.Slices
namespace Go.Proofs.YtpemljbdmbinlaaDoor
open Go.ChangeShapes Go.WideShapes Go.ChangeAt Go.RowKit
open Go.Deep (open_slice choose_lt)
set_option linter.unusedVariables false
set_option maxRecDepth 100000

section
variable {H : Type} {enc : TypeId × Value → H} {P : Program} {w : World} {base : Nat} {spare : Nat → Bool} {held : Bool}
theorem id_of_trod {t e : TypeId} {f : Nat} {cs : List Value} {d : DataW H} {p : List MemPlace} (ht : P.underlying t = some (.array 32 e)) (he : P.underlying e = some (.int .u8)) (hce : P.cellsOf e = 1)
    (hlen : cs.length = 32) (h : DataW.trod enc P w base spare held f t cs = some (d, p)) : ∃ x, IsId x ∧ cs = (idA x).toList := by
  obtain ⟨xs, m, _, _, hcl, hxl, hi⟩ := DataW.trod_array ht h
  have hz : ∀ i, i < 32 → ∃ z : Nat, cs[i]? = some (.int .u8 (z : Int)) ∧ z < 256 := by
    intro i hin
    have h1 := hi i hin
    rw [hce, List.getElem?_eq_getElem (by omega)] at h1
    obtain ⟨z, e1, _, hw⟩ := DataW.trod_int he h1
    have hl : i < cs.length := by omega
    simp only [Nat.mul_one] at e1
    rw [List.drop_eq_getElem_cons hl] at e1
    simp only [List.take_succ_cons, List.take_zero, List.cons.injEq, and_true] at e1
    have hb := wf_byte hw
    obtain ⟨n, rfl⟩ := Int.eq_ofNat_of_zero_le hb.1
    refine ⟨n, ?_, by omega⟩
    rw [List.getElem?_eq_getElem hl]
    simpa using e1
  obtain ⟨g, hg⟩ := choose_lt hz
  refine ⟨(List.range 32).map g, ⟨by simp, fun b hb => ?_⟩, ?_⟩
  · obtain ⟨i, hi, rfl⟩ := List.mem_map.1 hb
    exact (hg i (by simpa using hi)).2
  · apply List.ext_getElem?
    intro i
    rw [show (idA ((List.range 32).map g)).toList = ((List.range 32).map g).map byteV from rfl, List.getElem?_map, List.getElem?_map]
    by_cases hi : i < 32
    · rw [(hg i hi).1, List.getElem?_range hi]
      rfl
    · rw [List.getElem?_eq_none (by omega), List.getElem?_eq_none (by simp; omega)]
      rfl
end
/-- A name that comes in. -/
theorem id_arg {H : Type} {enc : TypeId × Value → H} {w : World} {base b0 : Nat} {spare : Nat → Bool} {held : Bool} {r : Reach} {v : Value} {d : DataW H} {p : List MemPlace}
    (hv : Value.okWide Tryd.prog w r b0 26 v) (h : DataW.Trod enc Tryd.prog w base spare held 26 v d p) : ∃ x, IsId x ∧ v = idv x := by
  obtain ⟨cs, rfl, hsz, _⟩ : ∃ cs, v = .agg cs ∧ cs.size = Tryd.prog.cellsOf 26 ∧ Row.okWide Tryd.prog w r b0 26 cs := by simpa [Value.okWide, Tryd.underlying26] using hv
  obtain ⟨fuel, hf⟩ := h
  have h32 : Tryd.prog.cellsOf 26 = 32 := by kernel_rfl
  obtain ⟨x, hx, e⟩ := id_of_trod Tryd.underlying26 Tryd.underlying5 (by kernel_rfl) (by rw [h32] at hsz; simpa [Value.cells] using hsz) hf
  refine ⟨x, hx, ?_⟩
  have e2 : cs.toList = (idA x).toList := e
  rw [Array.toList_inj.1 e2]
/-- A slice of names that comes in. -/
theorem ids_arg {H : Type} {enc : TypeId × Value → H} {w : World} {base b0 : Nat} {spare : Nat → Bool} {held : Bool} {r : Reach} {v : Value} {d : DataW H} {p : List MemPlace}
    (hv : Value.okWide Tryd.prog w r b0 69 v) (h : DataW.Trod enc Tryd.prog w base spare held 69 v d p) : ∃ L, IdsV w w.heap.size v L := by
  obtain ⟨s, len, cap, rfl⟩ := okWide_slice Tryd.underlying69 hv
  obtain ⟨f, hf⟩ := h
  rcases open_slice Tryd.underlying69 hf with ⟨hcs, _⟩ | ⟨a, len', cap', m, n, D, Pl, hcs, _, hlc, hcm, hm, _, hx⟩
  · simp [Value.cells] at hcs
    obtain ⟨rfl, rfl, rfl⟩ := hcs
    exact ⟨[], IdsV.nil _ _⟩
  · simp [Value.cells] at hcs
    obtain ⟨rfl, rfl, rfl⟩ := hcs
    have hlm : len ≤ m := by rw [hm]; split <;> omega
    have hce : Tryd.prog.cellsOf 26 = 32 := by kernel_rfl
    have hk : ∀ i, i < len → ∃ x, IsId x ∧ ∀ j, j < 32 → w.cell? ((a.add (i * 32)).add j) = some (byteV (x.getD j 0)) := by
      intro i hi
      obtain ⟨cs, hc, ht⟩ := hx i (by omega)
      rw [hce] at hc
      obtain ⟨_, hl, hcell⟩ := World.cells?_some hc
      obtain ⟨x, hx1, rfl⟩ := id_of_trod Tryd.underlying26 Tryd.underlying5 (by kernel_rfl) hl ht
      refine ⟨x, hx1, fun j hj => ?_⟩
      have h1 := hcell j hj
      have h2 := idA_get x j (by rw [hx1.1]; exact hj)
      rw [h1]
      simp [idA, byteV, List.getD, List.getElem?_eq_getElem (show j < x.length by rw [hx1.1]; exact hj)]
    obtain ⟨g, hg⟩ := choose_lt hk
    have hids : IsIds ((List.range len).map g) := by
      intro x hx
      obtain ⟨i, hi, rfl⟩ := List.mem_map.1 hx
      exact (hg i (by simpa using hi)).1
    have hll : ((List.range len).map g).length = len := by simp
    refine ⟨(List.range len).map g, some a, cap, by rw [hll], by omega, by unfold maxLen at hcm; omega, hids, fun hne => ?_⟩
    have hpos : 0 < len := by
      rcases Nat.eq_zero_or_pos len with h0 | h0
      · subst h0; simp at hne
      · exact h0
    have c0 := (hg 0 hpos).2 0 (by omega)
    obtain ⟨b, o, spot⟩ := a
    have hspot : spot = none := by simpa [Addr.add] using World.cell?_spot c0
    subst hspot
    refine ⟨b, o, rfl, ?_, fun i x hxi j u hu => ?_⟩
    · exact block_lt_of_cell (a := ⟨b, o, none⟩) (by have := c0; simpa [Go.WideShapes.add_plain] using this)
    · have hil : i < len := by
        have := (List.getElem?_eq_some_iff.1 hxi).1
        simpa using this
      have hxe : x = g i := by simp [hil] at hxi; exact hxi.symm
      subst hxe
      obtain ⟨h1, h2⟩ := hg i hil
      have hj : j < 32 := by
        have := (List.getElem?_eq_some_iff.1 hu).1
        simp [idA_size, h1.1] at this
        exact this
      have h3 := h2 j hj
      simp only [Go.WideShapes.add_plain] at h3
      rw [h3]
      have hj2 : j < (g i).length := by rw [h1.1]; exact hj
      have h4 := idA_get (g i) j hj2
      rw [Array.getElem?_toList] at hu
      rw [hu] at h4
      rw [← Option.some.inj h4.symm]
      rfl
end Go.Proofs.YtpemljbdmbinlaaDoor
