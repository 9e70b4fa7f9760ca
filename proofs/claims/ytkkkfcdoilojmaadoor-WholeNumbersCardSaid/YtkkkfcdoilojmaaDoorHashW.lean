/-
  Words for the hash laws' walks: two names that are the same; where a new block lies.
-/
import Derived.Test.YtkkkfcdoilojmaaDoorBytesA
import Derived.Deep.RegionHeld3
import Derived.Deep.DeepCutAuto
import Derived.Deep.DrawnRows
namespace Go.Proofs.YtkkkfcdoilojmaaDoor
open Go.RowKit
set_option linter.unusedVariables false

/-- 'Below' all that was there, under a name of its own. -/
def From (W w : World) : Prop := Below W.heap.size W w
theorem From.out {W w : World} (h : From W w) : Below W.heap.size W w := h
theorem id_same (xs : List Nat) (hl : xs.length = 32) (w : World) : (Op.equalIn 10000 23 (idv xs) (idv xs)).run Tryd.prog w = .ok true w := by
  have h := run_equalIn_arr (P := Tryd.prog) w 9998 23 5 32 .u8 (idA xs) (idA xs) (fun i => ((xs.getD i 0 : Nat) : Int)) (fun i => ((xs.getD i 0 : Nat) : Int)) (by kernel_rfl) (by kernel_rfl) (by kernel_rfl)
    (fun i hi => ⟨idA_get xs i (by omega), idA_get xs i (by omega)⟩)
  rw [h]
  simp
theorem id_guard (xs ys : List Nat) (op : BinOp) (a b : Operand) (w : World) : (eqGuard op 23 a b (idv xs) (idv ys)).run Tryd.prog w = .ok () w :=
  run_eqGuard_agg (P := Tryd.prog) w op 23 a b (idA xs) (idA ys) (by kernel_rfl)
theorem id_bin (xs : List Nat) (hl : xs.length = 32) (w : World) : (binOp .eql 23 (idv xs) (idv xs)).run Tryd.prog w = .ok (.bool true) w := by
  have h := id_same xs hl w
  show (Op.equal 23 (idv xs) (idv xs) >>= fun b => pure (Value.bool b)).run Tryd.prog w = _
  rw [Sem.run_bind]
  show ((Op.equalIn 10000 23 (idv xs) (idv xs)).run Tryd.prog w).andThen _ = _
  rw [h]
  rfl
end Go.Proofs.YtkkkfcdoilojmaaDoor
