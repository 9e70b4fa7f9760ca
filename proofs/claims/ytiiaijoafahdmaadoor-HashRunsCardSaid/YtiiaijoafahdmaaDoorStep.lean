/-
  Steps of a walk whose outcome is known: two strings one behind the other, bytes as a string.
-/
import Derived.Test.YtiiaijoafahdmaaDoorStr
import Derived.Test.YtiiaijoafahdmaaDoorAppW
namespace Go.Proofs.YtiiaijoafahdmaaDoor
open Go.RowKit
set_option linter.unusedVariables false

theorem wpList_cat {ops : Array Oper} {rest : List Oper} {o : Oper} {a : Act} {w : World} {Q : Exit → Act → World → Prop} {s t u : ByteArray} (hg : o.guard = none) (x y : Operand)
    (hop : o.op = Op.binOp BinOp.add 9 x y 9) (hx : a.eval x = .string s) (hy : a.eval y = .string t) (hsz : s.size + t.size ≤ 9223372036854775807) (hst : s ++ t = u)
    (hK : wpList Tryd.prog ops Q rest (a.put o.dst (.string u)) w) : wpList Tryd.prog ops Q (o :: rest) a w := by
  refine wpList_plain hg fun K hK' => ?_
  have h := run_string_add_sum (P := Tryd.prog) w s t hsz
  have hq : (eqGuard BinOp.add 9 x y (.string s) (.string t)).run Tryd.prog w = .ok () w := by simp [eqGuard]
  unfold Oper.wp
  simp [execOp, hop, hx, hy, binOp, hq, h, Result.andThen, hst]
  exact hK' _ _ hK
theorem wpList_cnv {ops : Array Oper} {rest : List Oper} {o : Oper} {a : Act} {w : World} {Q : Exit → Act → World → Prop} {v u : Value} (hg : o.guard = none) (x : Operand) (t t' : TypeId)
    (hop : o.op = Op.convert t t' x) (hx : a.eval x = v) (hrun : (convert t t' v).run Tryd.prog w = .ok u w)
    (hK : wpList Tryd.prog ops Q rest (a.put o.dst u) w) : wpList Tryd.prog ops Q (o :: rest) a w := by
  refine wpList_plain hg fun K hK' => ?_
  unfold Oper.wp
  simp [execOp, hop, hx, hrun, Result.andThen]
  exact hK' _ _ hK
def strLen : Value → Nat
  | .string b => b.size
  | _ => 0
/-- A slice of one byte, just built. -/
theorem bs_one (w : World) (x : Nat) (t : TypeId) (hx : x < 256) : BsV (w.alloc (.cells #[.int .u8 (x : Int)] t)) (w.heap.size + 1) (.slice (some ⟨w.heap.size, 0, none⟩) 1 1) [x] := by
  refine ⟨_, 1, rfl, Nat.le_refl _, by omega, by simpa using hx, fun _ => ⟨w.heap.size, 0, rfl, by omega, fun i hi => ?_⟩⟩
  have : i = 0 := by simp at hi; exact hi
  subst this
  exact (Bk.new w t #[.int .u8 (x : Int)]).cell 0
end Go.Proofs.YtiiaijoafahdmaaDoor
