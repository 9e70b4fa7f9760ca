/-
  The law's own size: a number's bytes, at least none, at most eight.
-/
import Derived.Test.YtfflgimbgmbpaaaWfG
namespace Go.Proofs.Ytfflgimbgmbpaaa
open Go.RowKit
set_option linter.unusedVariables false
set_option linter.unusedSimpArgs false

theorem rsize_any (n : Int) (w : World) (hn : -9223372036854775808 ≤ n ∧ n ≤ 9223372036854775807) :
    Calls Try.prog 7 #[.int .i64 n] w fun r w' => r = .returned (.int .i64 ((min n.toNat 8 : Nat) : Int)) ∧ Below w.heap.size w w' := by
  obtain ⟨m, hm⟩ : ∃ m : Int, m = ((min n.toNat 8 : Nat) : Int) := ⟨_, rfl⟩
  rw [← hm]
  have HM := Lib.hid hm
  clear hm
  go_enter Try.func7, Try.ntmps7
  go_upto_region 1 with fail
  go_wp2_with fail
  all_goals
    have h0 := HM.out
    rename_i hx
    first
      | (have e : m = 8 := by split at hx <;> omega
         subst e
         exact bodyPost_ret (results_tmp rfl _ _ _) rfl ⟨rfl, Below.refl _ _⟩)
      | (have e : m = n := by split at hx <;> omega
         rw [e]
         exact bodyPost_ret (results_tmp rfl _ _ _) rfl ⟨rfl, Below.refl _ _⟩)
      | (have e : m = 0 := by split at hx <;> omega
         subst e
         exact bodyPost_ret (results_tmp rfl _ _ _) rfl ⟨rfl, Below.refl _ _⟩)
end Go.Proofs.Ytfflgimbgmbpaaa
