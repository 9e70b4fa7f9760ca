/- Texts in one: WfA, WfB, WfC, WfD, WfE. -/
import Derived.Test.YtkpffjcdalclmaaDoorZBytZ
import Derived.Test.YtkpffjcdalclmaaDoorZWriZ
import Derived.WalkKit
import Derived.Deep.DeepCutAuto
import Derived.Test.YtkpffjcdalclmaaDoorZReaZ
import Derived.Laws.ResultCell
import Derived.Deep.RegionLaw
namespace Go.Proofs.YtkpffjcdalclmaaDoor
open Go.RowKit
set_option linter.unusedVariables false
set_option linter.unusedSimpArgs false
end Go.Proofs.YtkpffjcdalclmaaDoor
namespace Go.Proofs.YtkpffjcdalclmaaDoor
open Go.RowKit
set_option linter.unusedVariables false
set_option linter.unusedSimpArgs false
end Go.Proofs.YtkpffjcdalclmaaDoor
namespace Go.Proofs.YtkpffjcdalclmaaDoor
open Go.RowKit
set_option linter.unusedVariables false
set_option linter.unusedSimpArgs false
end Go.Proofs.YtkpffjcdalclmaaDoor
namespace Go.Proofs.YtkpffjcdalclmaaDoor
open Go.RowKit
set_option linter.unusedVariables false
set_option linter.unusedSimpArgs false
end Go.Proofs.YtkpffjcdalclmaaDoor
namespace Go.Proofs.YtkpffjcdalclmaaDoor
open Go.RowKit
set_option linter.unusedVariables false
set_option linter.unusedSimpArgs false
def StI (s : St) : Prop := s.1.length ≤ 1000000 ∧ s.2 < 1000 ∧ (∀ x ∈ s.1, x < 256) ∧ (s.2 ≠ 0 → s.1 = [])
theorem take_inv (s : St) (n : Int) (h : StI s) : StI (rdTake s n).2 ∧ (∀ x ∈ (rdTake s n).1, x < 256) ∧ (rdTake s n).1.length ≤ 1000000 := by
  obtain ⟨h1, h2, h3, h4⟩ := h
  unfold rdTake
  split
  · refine ⟨⟨by simp only [List.length_drop]; omega, h2, fun x hx => h3 x (List.mem_of_mem_drop hx), fun he => by simp only; rw [h4 he]; simp⟩, fun x hx => h3 x (List.mem_of_mem_take hx), by simp only [List.length_take]; omega⟩
  · refine ⟨⟨by simp [rdFail], ?_, by simp [rdFail], fun _ => rfl⟩, by simp, by simp⟩
    unfold rdFail
    simp only
    split <;> omega
theorem take_len (s : St) (k : Nat) : (rdTake s (k : Int)).1.length ≤ k := by
  unfold rdTake
  split
  · simp only [List.length_take, Int.toNat_natCast]; omega
  · simp
theorem num_lt (s : St) (k : Nat) (hk : k ≤ 8) (h : StI s) : (rdNum s (k : Int)).1 < 256 ^ k := by
  have h1 := take_inv s k h
  have h2 := take_len s k
  unfold rdNum
  have h3 := ofL_lt (((rdTake s (k : Int)).1).take 8) (fun x hx => h1.2.1 x (List.mem_of_mem_take hx))
  refine Nat.lt_of_lt_of_le h3 (Nat.pow_le_pow_right (by omega) ?_)
  rw [List.length_take]
  omega
end Go.Proofs.YtkpffjcdalclmaaDoor
