/-
  The document's answer for layer 6: the next count, its contract.
-/
import Derived.Test.YtfflgimbgmbpaaaWfE
namespace Go.Proofs.Ytfflgimbgmbpaaa
open Go.RowKit
set_option linter.unusedVariables false
set_option linter.unusedSimpArgs false
end Go.Proofs.Ytfflgimbgmbpaaa
