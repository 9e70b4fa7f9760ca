/-
  The document's list of numbers, step by step.
-/
import Derived.Test.YtecmgojecjenmaaDoorRnD
namespace Go.Proofs.YtecmgojecjenmaaDoor
open Go.RowKit
set_option linter.unusedVariables false

def cuN (a n : Nat) : Bool := !moN (mulN (mulN (dgN a) (dgN a)) (dgN a)) (mulN (dgN n) [0, 0, 0, 0, 1])
def rdF (p : Nat) : Nat → Nat → Nat
  | a, 0 => a
  | a, k + 1 => rdF p (if cuN (a + 2 ^ k) p then a + 2 ^ k else a) k
def rdN (p : Nat) : Nat := rdF p 0 36 % 4294967296
theorem t2 : rdN 2 = 0x428a2f98 := by decide +kernel
end Go.Proofs.YtecmgojecjenmaaDoor
