/- What one frame does to a greeting. -/
import Derived.Test.YtkpffjcdalclmaaDoorDeA
namespace Go.Proofs.YtkpffjcdalclmaaDoor
open Go.RowKit
set_option linter.unusedVariables false
set_option linter.unusedSimpArgs false
set_option maxRecDepth 100000
theorem greetF_rd (m : PeM) (k : Int) (n h : Nat) (hr : m.rd = true → m.kn = true) : (greetF m k n h).1.rd = true → (greetF m k n h).1.kn = true := by
  unfold greetF
  split
  · split
    · exact hr
    · exact fun _ => rfl
  · split
    · rename_i h2
      exact fun _ => h2.2.1
    · exact hr
theorem hear1_rd (m : PeM) (f) (hr : m.rd = true → m.kn = true) : (hear1 m f).1.rd = true → (hear1 m f).1.kn = true := by
  unfold hear1
  split
  · exact hr
  split
  · exact hr
  split
  · exact hr
  split
  · exact greetF_rd m _ _ _ hr
  split
  · exact hr
  split
  · rw [(ansF_sc _ _).2.1, (ansF_sc _ _).2.2.1]
    exact hr
  · exact hr
end Go.Proofs.YtkpffjcdalclmaaDoor
