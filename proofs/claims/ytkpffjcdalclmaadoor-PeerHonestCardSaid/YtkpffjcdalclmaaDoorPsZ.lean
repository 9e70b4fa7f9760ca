/-
  Texts in one: PsA, PsR.
-/
import Derived.Test.YtkpffjcdalclmaaDoorDeA
import Derived.Test.YtkpffjcdalclmaaDoorPeZ
import Derived.Test.YtkpffjcdalclmaaDoorMsL
import Derived.Test.YtkpffjcdalclmaaDoorStG
import Derived.Test.YtkpffjcdalclmaaDoorFrA
import Derived.Test.YtkpffjcdalclmaaDoorHrB
namespace Go.Proofs.YtkpffjcdalclmaaDoor
open Go.RowKit
set_option linter.unusedVariables false
set_option linter.unusedSimpArgs false
set_option maxRecDepth 100000
/-- Encode, with a slice whatever comes. -/
theorem menc_slice (y : MsM) (w : World) (hV : MsV w w.heap.size y) (hF : MsFit y) (hL : LaidM w) :
    Calls Tryd.prog 28 #[.agg (msL y).toArray] w fun r w' => ∃ s c, r = .returned (.tuple #[.slice s (encB y).length c, .int .i64 ((msE y : Nat) : Int)]) ∧ Below w.heap.size w w' ∧ Mine w' w.heap.size (.slice s (encB y).length c) (encB y) := by
  refine (mencode_any y w hV hF hL).mono ?_
  rintro r w' ⟨v8, rfl, hb8, hg, hbad⟩
  by_cases hm : msE y = 0
  · have hM := hg hm
    have e : encB y = encL (kindL y.kd.toNat) (dataL y) := by unfold encB; rw [if_pos hm]
    rw [← e] at hM
    obtain ⟨s, c, rfl⟩ := hM.slice
    exact ⟨s, c, rfl, hb8, hM⟩
  · have e : encB y = [] := by unfold encB; rw [if_neg hm]
    rw [e, hbad hm]
    exact ⟨none, 0, rfl, hb8, .inl ⟨rfl, rfl⟩⟩
end Go.Proofs.YtkpffjcdalclmaaDoor
namespace Go.Proofs.YtkpffjcdalclmaaDoor
open Go.RowKit
set_option linter.unusedVariables false
set_option linter.unusedSimpArgs false
set_option maxRecDepth 100000
end Go.Proofs.YtkpffjcdalclmaaDoor
