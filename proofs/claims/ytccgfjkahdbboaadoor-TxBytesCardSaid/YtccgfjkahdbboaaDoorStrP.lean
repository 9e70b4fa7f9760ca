/-
  Strings as lists of numbers, in a seat that has package hash: all is there.
-/
import Derived.Test.YtccgfjkahdbboaaDoorStr
namespace Go.Proofs.YtccgfjkahdbboaaDoor
end Go.Proofs.YtccgfjkahdbboaaDoor
