/-
  Bytes, in a seat that has package hash: all is there.
-/
import Derived.Test.YtccgfjkahdbboaaDoorHashZ
namespace Go.Proofs.YtccgfjkahdbboaaDoor
end Go.Proofs.YtccgfjkahdbboaaDoor
