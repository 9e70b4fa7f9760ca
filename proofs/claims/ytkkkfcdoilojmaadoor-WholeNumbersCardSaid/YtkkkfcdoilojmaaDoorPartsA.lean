/-
  A slice of slices of bytes as an argument.
-/
import Derived.Test.YtkkkfcdoilojmaaDoorHashW
import Derived.Deep.Slices
namespace Go.Proofs.YtkkkfcdoilojmaaDoor
open Go.ChangeShapes Go.WideShapes Go.ChangeAt Go.RowKit
open Go.Deep (open_slice choose_lt)
set_option linter.unusedVariables false

/-- What reads as a slice of bytes is one. -/
theorem bytes_trod {H : Type} {enc : TypeId × Value → H} {w : World} {base f : Nat} {spare : Nat → Bool} {held : Bool} {cs : List Value} {x : DataW H × List MemPlace}
    (hf : DataW.trod enc Tryd.prog w base spare held f 49 cs = some x) : ∃ (v : Value) (xs : List Nat), cs = [v] ∧ BsV w w.heap.size v xs := by
  rcases open_ints Tryd.underlying49 Tryd.underlying5 (by kernel_rfl) hf with ⟨rfl, _⟩ | ⟨a, len, cap, zs, rfl, _, hl, hm, hz, _, hcell, hwz⟩
  · exact ⟨_, [], rfl, none, 0, rfl, Nat.le_refl _, by omega, by simp, fun h => absurd rfl h⟩
  · have hlz : len ≤ zs.length := by rw [hz]; split <;> omega
    have hxl : ((zs.take len).map Int.toNat).length = len := by rw [List.length_map, List.length_take]; omega
    refine ⟨_, (zs.take len).map Int.toNat, rfl, some a, cap, by rw [hxl], by omega, by unfold maxLen at hm; omega, ?_, ?_⟩
    · intro x hx
      simp only [List.mem_map] at hx
      obtain ⟨z, hzm, rfl⟩ := hx
      have := wf_byte (hwz z (List.mem_of_mem_take hzm))
      omega
    · intro hne
      have hpos : 0 < len := by
        rcases Nat.eq_zero_or_pos len with h0 | h0
        · subst h0; simp at hne
        · exact h0
      have c0 := hcell 0 (by omega)
      obtain ⟨b, o, spot⟩ := a
      have hspot : spot = none := by simpa [Addr.add] using World.cell?_spot c0
      subst hspot
      refine ⟨b, o, rfl, ?_, fun i hi => ?_⟩
      · exact block_lt_of_cell (a := ⟨b, o, none⟩) (by have := c0; simpa [Go.WideShapes.add_plain] using this)
      · have hi' : i < len := by rw [hxl] at hi; exact hi
        have ci := hcell i (by omega)
        rw [Addr.add_mid] at ci
        rw [ci]
        have hzi : zs[i]? = some (zs[i]'(by omega)) := List.getElem?_eq_getElem (by omega)
        have hw := wf_byte (hwz _ (List.getElem_mem (show i < zs.length by omega)))
        have e1 : zs.getD i 0 = zs[i]'(by omega) := by rw [List.getD, hzi]; rfl
        have e2 : nth ((zs.take len).map Int.toNat) i = (zs[i]'(by omega)).toNat := by
          unfold nth
          rw [List.getD, List.getElem?_map, List.getElem?_take_of_lt hi', hzi]; rfl
        rw [e1, e2]
        congr 2
        omega

theorem parts_arg {H : Type} {enc : TypeId × Value → H} {w : World} {base b0 : Nat} {spare : Nat → Bool} {held : Bool} {r : Reach} {v : Value} {d : DataW H} {p : List MemPlace}
    (hv : Value.okWide Tryd.prog w r b0 41 v) (h : DataW.Trod enc Tryd.prog w base spare held 41 v d p) :
    ∃ (s : Option Addr) (cap : Nat) (ps : List (List Nat)), v = .slice s ps.length cap ∧ ps.length ≤ cap ∧ cap < 9223372036854775808 ∧ PartsV w s ps := by
  obtain ⟨s, len, cap, rfl⟩ := okWide_slice Tryd.underlying41 hv
  obtain ⟨f, hf⟩ := h
  rcases open_slice Tryd.underlying41 hf with ⟨hcs, _⟩ | ⟨a, len', cap', m, n, D, Pl, hcs, _, hlc, hmx, hm, _, hx⟩
  · simp [Value.cells] at hcs
    obtain ⟨rfl, rfl, rfl⟩ := hcs
    exact ⟨none, 0, [], rfl, Nat.le_refl _, by omega, fun h => absurd rfl h⟩
  · simp [Value.cells] at hcs
    obtain ⟨rfl, rfl, rfl⟩ := hcs
    unfold maxLen at hmx
    have hlm : len ≤ m := by rw [hm]; split <;> omega
    have hce : Tryd.prog.cellsOf 49 = 1 := by kernel_rfl
    have hk : ∀ i, i < len → ∃ q : Value × List Nat, w.cell? (a.add i) = some q.1 ∧ BsV w w.heap.size q.1 q.2 := by
      intro i hi
      obtain ⟨cs, hc, ht⟩ := hx i (by omega)
      rw [hce, Nat.mul_one] at hc
      obtain ⟨u, xs, rfl, hu⟩ := bytes_trod ht
      exact ⟨(u, xs), cell_of_cells?_one hc, hu⟩
    have : Inhabited (Value × List Nat) := ⟨(undef, [])⟩
    obtain ⟨g, hg⟩ := choose_lt hk
    have hlen : ((List.range len).map fun i => (g i).2).length = len := by simp
    refine ⟨some a, cap, (List.range len).map fun i => (g i).2, by rw [hlen], by rw [hlen]; exact hlc, by omega, fun hne => ?_⟩
    have hpos : 0 < len := by
      rcases Nat.eq_zero_or_pos len with h0 | h0
      · subst h0; simp at hne
      · exact h0
    obtain ⟨b, o, spot⟩ := a
    have hspot : spot = none := by simpa [Addr.add] using World.cell?_spot (hg 0 hpos).1
    subst hspot
    refine ⟨b, o, rfl, block_lt_of_cell (a := ⟨b, o, none⟩) (by have := (hg 0 hpos).1; simpa [Go.WideShapes.add_plain] using this), fun k xs hkx => ?_⟩
    have hkl : k < len := by
      have := (List.getElem?_eq_some_iff.mp hkx).1
      simpa using this
    have hxe : xs = (g k).2 := by
      simp [hkl] at hkx
      exact hkx.symm
    subst hxe
    refine ⟨(g k).1, ?_, (hg k hkl).2⟩
    have := (hg k hkl).1
    simpa [Go.WideShapes.add_plain] using this
end Go.Proofs.YtkkkfcdoilojmaaDoor
