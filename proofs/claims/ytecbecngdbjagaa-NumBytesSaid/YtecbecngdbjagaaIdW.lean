/-
  Words for IDs in walks: two that are the same; a load of a whole array in a region that draws its order.
-/
import Derived.Test.YtecbecngdbjagaaNumH
import Derived.Lib.QuietBelow
namespace Go.Proofs.Ytecbecngdbjagaa
open Go.RowKit
set_option linter.unusedVariables false

theorem id_self (xs : List Nat) (hl : xs.length = 32) (w : World) : (Op.equalIn 10000 54 (idv xs) (idv xs)).run Try.prog w = .ok true w := by
  have h := run_equalIn_arr (P := Try.prog) w 9998 54 5 32 .u8 (idA xs) (idA xs) (fun i => ((xs.getD i 0 : Nat) : Int)) (fun i => ((xs.getD i 0 : Nat) : Int)) (by kernel_rfl) (by kernel_rfl) (by kernel_rfl)
    (fun i hi => ⟨idA_get xs i (by omega), idA_get xs i (by omega)⟩)
  rw [h]
  simp

section
variable {P : Program} {C : World → Prop}
theorem quiet_load {K : Act → Prop} {o : Oper} {a : Act} (ty : TypeId) (x : Operand) (ho : o.op = .load ty x) (b off : Nat) (hx : a.eval x = .pointer (some ⟨b, off, none⟩)) (cs : List Value) (d : TypeDesc) (hS : ∀ w, C w → w.rangeAt b off cs)
    (hu : P.underlying ty = some d) (hd : d.isRow = true) (hi : (P.info? ty).map (·.size) = some cs.length) (hk : K (a.put o.dst (.agg cs.toArray))) : o.quiet P a C K :=
  ⟨_, fun w hw => by
    unfold Oper.quietAt execOp
    simp only [ho, hx, Instr.loadAt, Instr.sureAddr, Sem.run_bind, Sem.run_pure, Result.andThen_ok, run_loadVar_mid w b off ty cs d (hS w hw) hu hd hi]
    exact ⟨rfl, rfl⟩, hk⟩
end
theorem Bk.range {w : World} {g : Nat} {t : TypeId} {cs : Array Value} (h : Bk w g t cs) : w.rangeAt g 0 cs.toList := fun j v hv => by
  rw [Nat.zero_add, h.cell]; simpa using hv

end Go.Proofs.Ytecbecngdbjagaa
