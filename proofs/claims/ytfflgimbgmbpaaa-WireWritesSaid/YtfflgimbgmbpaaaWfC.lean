/-
  The document's answer for layer 6: what is read.
-/
import Derived.Test.YtfflgimbgmbpaaaWfB
import Derived.Test.YtfflgimbgmbpaaaWma
import Derived.Laws.ResultCell
namespace Go.Proofs.Ytfflgimbgmbpaaa
open Go.RowKit
set_option linter.unusedVariables false
set_option linter.unusedSimpArgs false

theorem wp_any {P : Program} {c : Code} {Q : Exit → Act → World → Prop} {a : Act} {w : World} (S : World → Prop) (hS : S w) (h : ∀ W, S W → c.wp P Q a W) : c.wp P Q a w := h w hS
theorem str_ext (l : List Nat) (a b : Nat) : (strN l).extract a b = strN ((l.drop a).take (b - a)) := by
  apply byteArray_ext
  rw [strN_list]
  simp [ByteArray.data_extract, Array.toList_extract, strN_list, List.extract, List.map_drop, List.map_take]
theorem str_take (l : List Nat) (n : Nat) (hn : n ≤ l.length) (w : World) : (Instr.slice 9 (.string (strN l)) none (some (.int .i64 (n : Int))) none).run Try.prog w = .ok (.string (strN (l.take n))) w := by
  have hz := strN_size l
  have h0 : (0 : Int) ≤ (n : Int) := by omega
  have h1 : (n : Int) ≤ (l.length : Int) := by omega
  go_simp
  rw [str_ext, List.drop_zero, Nat.sub_zero]
theorem str_drop (l : List Nat) (n : Nat) (hn : n ≤ l.length) (w : World) : (Instr.slice 9 (.string (strN l)) (some (.int .i64 (n : Int))) none none).run Try.prog w = .ok (.string (strN (l.drop n))) w := by
  have hz := strN_size l
  have h0 : (0 : Int) ≤ (n : Int) := by omega
  have h1 : (n : Int) ≤ (l.length : Int) := by omega
  go_simp
  rw [str_ext, List.take_of_length_le (by rw [List.length_drop]; omega)]
end Go.Proofs.Ytfflgimbgmbpaaa
