/-
  What is read keeps the state's bounds; a name that was read whole, or not at all.
-/
import Derived.Test.YtccgfjkahdbboaaDoorWfG
namespace Go.Proofs.YtccgfjkahdbboaaDoor
open Go.RowKit
set_option linter.unusedVariables false
set_option linter.unusedSimpArgs false

theorem StI.ok {s : St} (h : StI s) : StOk s := ⟨h.1, h.2.1⟩
theorem StI.fail {s : St} (h : StI s) {c : Nat} (hc : c < 1000) (h0 : c ≠ 0 ∨ s.2 ≠ 0) : StI (rdFail s c) := by
  refine ⟨Nat.zero_le _, ?_, by simp [rdFail], fun _ => rfl⟩
  have := h.2.1
  unfold rdFail
  show (if s.2 = 0 then c else s.2) < 1000
  split <;> omega
theorem num_inv (s : St) (n : Int) (h : StI s) : StI (rdNum s n).2 := (take_inv s n h).1
theorem cnt_inv (s : St) (h : StI s) : StI (rdCnt s).2 := by
  have h1 := num_inv s 1 h
  unfold rdCnt
  split
  · exact num_inv _ 2 h1
  · split
    · exact num_inv _ 4 h1
    · split
      · exact num_inv _ 8 h1
      · exact h1
theorem count_inv (s : St) (m : Nat) (h : StI s) : StI (rdCount s m).2 := by
  have h1 := cnt_inv s h
  unfold rdCount
  split
  · exact h1
  · split
    · exact h1.fail (by decide) (Or.inl (by decide))
    · split
      · exact h1.fail (by decide) (Or.inl (by decide))
      · exact h1
theorem rtext_inv (s : St) (m : Int) (h : StI s) : StI (rdText s m).2 := (take_inv _ _ (count_inv s _ h)).1
theorem take_some (s : St) (k : Nat) : (rdTake s (k : Int)).1 = [] ∨ (rdTake s (k : Int)).1.length = k := by
  unfold rdTake
  split
  · rename_i h
    exact Or.inr (by simp only [List.length_take, Int.toNat_natCast]; omega)
  · exact Or.inl rfl
theorem idOf_whole (ys : List Nat) (h : ys.length = 32) : idOf ys = ys := by unfold idOf zeros; rw [h]; simp
theorem idOf_none : idOf [] = zeros 32 := rfl
theorem idOf_lt (ys : List Nat) (h : ∀ x ∈ ys, x < 256) : ∀ x ∈ idOf ys, x < 256 := by
  unfold idOf
  intro x hx
  rcases List.mem_append.1 hx with hx | hx
  · exact h x hx
  · exact zeros_lt _ x hx
/-- A text is a count and then so many bytes: the two readings are one. -/
theorem text_route (s : St) (m : Int) : rdText s m = rdTake (rdCount s (max m 0).toNat).2 ((rdCount s (max m 0).toNat).1 : Int) := rfl
/-- The end's answer. -/
theorem rdEnd_route (s : St) (h : StI s) : rdEnd s = if s.2 = 0 ∧ s.1 ≠ [] then 70 else s.2 := by
  unfold rdEnd
  congr 1
  simp [List.length_pos_iff]
end Go.Proofs.YtccgfjkahdbboaaDoor
