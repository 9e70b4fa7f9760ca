/-
  The contracts of package head's number and Read.
-/
import Derived.Test.YtljfhabhenaapaaDoorHeaZ
namespace Go.Proofs.YtljfhabhenaapaaDoor
open Go.RowKit
set_option maxRecDepth 100000
set_option linter.unusedVariables false

theorem four_or (a b c d : Nat) (ha : a < 256) (hb : b < 256) (hc : c < 256) (hd : d < 256) :
    bits BinOp.or IntKind.u32 (bits BinOp.or IntKind.u32 (bits BinOp.or IntKind.u32 (IntKind.u32.wrap (a : Int)) (IntKind.u32.wrap (IntKind.u32.wrap (b : Int) * 256))) (IntKind.u32.wrap (IntKind.u32.wrap (c : Int) * 65536))) (IntKind.u32.wrap (IntKind.u32.wrap (d : Int) * 16777216)) = ((a + 256 * b + 65536 * c + 16777216 * d : Nat) : Int) := by
  have m : m32 = 4294967296 := rfl
  have e0 : IntKind.u32.wrap (a : Int) = ((a : Nat) : Int) := by rw [IntKind.wrap_u32]; omega
  have e1 : IntKind.u32.wrap (IntKind.u32.wrap (b : Int) * 256) = ((b * 256 : Nat) : Int) := by rw [IntKind.wrap_u32, IntKind.wrap_u32]; omega
  have e2 : IntKind.u32.wrap (IntKind.u32.wrap (c : Int) * 65536) = ((c * 65536 : Nat) : Int) := by rw [IntKind.wrap_u32, IntKind.wrap_u32]; omega
  have e3 : IntKind.u32.wrap (IntKind.u32.wrap (d : Int) * 16777216) = ((d * 16777216 : Nat) : Int) := by rw [IntKind.wrap_u32, IntKind.wrap_u32]; omega
  have j1 : a ||| b * 256 = a + b * 256 := by rw [Nat.or_comm, or_join 8 _ _ (by omega) (by omega), Nat.add_comm]
  have j2 : (a + b * 256) ||| c * 65536 = a + b * 256 + c * 65536 := by rw [Nat.or_comm, or_join 16 _ _ (by omega) (by omega), Nat.add_comm]
  have j3 : (a + b * 256 + c * 65536) ||| d * 16777216 = a + b * 256 + c * 65536 + d * 16777216 := by rw [Nat.or_comm, or_join 24 _ _ (by omega) (by omega), Nat.add_comm]
  rw [e0, e1, e2, e3, or32 (by omega) (by omega), j1, or32 (by omega) (by omega), j2, or32 (by omega) (by omega), j3]
  omega
end Go.Proofs.YtljfhabhenaapaaDoor
