/-
  The document's answer for layer 6: the next so many bytes.
-/
import Derived.Test.YtfflgimbgmbpaaaWfC
import Derived.Deep.RegionLaw
namespace Go.Proofs.Ytfflgimbgmbpaaa
open Go.RowKit
set_option linter.unusedVariables false
set_option linter.unusedSimpArgs false

/-- What is left of some bytes, and the error's number, as the document has them. -/
def stA (s : St) : Array Value := #[.string (strN s.1), .int .i64 ((s.2 : Nat) : Int)]
def stv (s : St) : Value := .agg (stA s)
theorem results_tmp_cell {fn : Func} {p u : Tmp} {ty : TypeId} (h : fn.results = #[.tmp u, .cell p ty]) (tmps : Array Value) (P : Program) (w : World) :
    (results fn tmps).run P w =
      ((asAddr (tmps.getD p undef)).run P w).andThen fun a w₁ => ((loadVar ty a).run P w₁).andThen fun v w₂ => .ok (.tuple #[tmps.getD u undef, v]) w₂ := by
  simp only [results, h]
  simp [Sem.run_bind, Result.andThen]
theorem st_set2 {w : World} {g : Nat} {t : TypeId} {a b : Value} (h : Bk w g t #[a, b]) (x y : Value) : Bk ((w.setCell ⟨g, 0, none⟩ x).setCell ⟨g, 1, none⟩ y) g t #[x, y] := (h.set_ 0 x).set_ 1 y
end Go.Proofs.Ytfflgimbgmbpaaa
