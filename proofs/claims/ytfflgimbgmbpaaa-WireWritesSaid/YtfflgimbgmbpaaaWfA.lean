/-
  The document's answer for layer 6: numbers, counts and texts as strings.
-/
import Derived.Test.YtfflgimbgmbpaaaStrP
import Derived.Test.YtfflgimbgmbpaaaWrj
import Derived.WalkKit
import Derived.Deep.DeepCutAuto
namespace Go.Proofs.Ytfflgimbgmbpaaa
open Go.RowKit
set_option linter.unusedVariables false
set_option linter.unusedSimpArgs false

theorem toL_succ' (n j : Nat) : toL n (j + 1) = toL n j ++ [n / 256 ^ j % 256] := by
  induction j generalizing n with
  | zero => simp [toL]
  | succ j ih =>
    show n % 256 :: toL (n / 256) (j + 1) = (n % 256 :: toL (n / 256) j) ++ _
    rw [ih (n / 256), Nat.div_div_eq_div_mul, Nat.pow_succ, Nat.mul_comm 256]
    rfl
theorem one_bs {w : World} {g n : Nat} {t : TypeId} (hn : n < 256) (h : Bk w g t #[.int .u8 (n : Int)]) : BsV w w.heap.size (.slice (some ⟨g, 0, none⟩) 1 1) [n] :=
  ⟨some ⟨g, 0, none⟩, 1, rfl, Nat.le_refl _, by omega, by intro y hy; rw [List.mem_singleton.1 hy]; exact hn, fun _ => ⟨g, 0, rfl, h.lt, fun i hi => by
    have : i = 0 := by simpa using hi
    subst this
    exact h.cell 0⟩⟩
set_option maxRecDepth 100000 in
set_option maxHeartbeats 2000000 in
theorem rfnum_any (k n : Nat) (w : World) (hk : k ≤ 8) (hn : n < 18446744073709551616) :
    Calls Try.prog 6 #[.int .i64 (k : Int), .int .u64 (n : Int)] w fun e w' => e = .returned (.string (strN (toL n k))) ∧ Below w.heap.size w w' := by
  go_enter Try.func6, Try.ntmps6
  go_wp2_with fail
  go_loopw [1, 5, 6] (fun nv sv iv wr => ∃ (j m : Nat) (str : ByteArray), j ≤ k ∧ .int .u64 (m : Int) = nv ∧ .string str = sv ∧ .int .i64 (j : Int) = iv ∧ Hid (m = n / 256 ^ j) ∧ Hid (str = strN (toL n j)) ∧ m < 18446744073709551616 ∧ Hid (Below w.heap.size w wr)) (fun _ _ iv _ => k - (intOf iv).toNat)
  case atStart => exact ⟨0, n, _, Nat.zero_le _, rfl, rfl, rfl, by show _ = _; rw [Nat.pow_zero, Nat.div_one], rfl, hn, Below.refl _ _⟩
  case round =>
    obtain ⟨j, m, str, hj, e1, e2, e3, HM, HS, hm, hWr⟩ := hrel
    subst e1
    subst e2
    subst e3
    by_cases hlt : j < k
    · have hd : decide ((j : Int) < (k : Int)) = true := decide_eq_true (by omega)
      have hd' : decide (j < k) = true := decide_eq_true hlt
      have hb := one_bs (w := wr.alloc (.cells #[.int .u8 ((m % 256 : Nat) : Int)] 5)) (g := wr.heap.size) (n := m % 256) (Nat.mod_lt _ (by omega)) (Bk.new _ _ _)
      have hcv := conv_bs hb
      have hsz : str.size = j := by rw [HS.out, strN_size, toL_length]
      have hs1 : (strN [m % 256]).size = 1 := by rw [strN_size]; rfl
      have HS2 : Hid (str ++ strN [m % 256] = strN (toL n (j + 1))) := by
        show _ = _
        rw [toL_succ', ← strN_append, HS.out, HM.out]
      have HM2 : Hid (m / 256 = n / 256 ^ (j + 1)) := by
        show _ = _
        rw [HM.out, Nat.pow_succ, Nat.div_div_eq_div_mul]
      have hm2 : m / 256 < 18446744073709551616 := by omega
      have hW := Lib.hid (hWr.out.alloc hWr.out.size (.cells #[.int .u8 ((m % 256 : Nat) : Int)] 5))
      have hmod : (m : Int) % 256 = ((m % 256 : Nat) : Int) := by omega
      have hdiv : (m : Int) / 256 = ((m / 256 : Nat) : Int) := by omega
      have hw8 : IntKind.u8.wrap ((m % 256 : Nat) : Int) = ((m % 256 : Nat) : Int) := by rw [IntKind.wrap_u8]; omega
      generalize m % 256 = r at *
      generalize m / 256 = q at *
      clear hb
      go_wp2_with fail
      go_roundw
      case rel =>
        have hi : Value.int .i64 ((j + 1 : Nat) : Int) = .int .i64 ((j : Int) + 1) := by go_num
        first | exact ⟨j + 1, q, _, by omega, rfl, rfl, hi, HM2, HS2, hm2, hW⟩ | ((repeat apply Exists.intro); exact ⟨⟨j + 1, q, _, by omega, rfl, rfl, hi, HM2, HS2, hm2, hW⟩, rfl⟩)
      case measure => simp [intOf] <;> omega
    · have hd : decide ((j : Int) < (k : Int)) = false := decide_eq_false (by omega)
      have hd' : decide (j < k) = false := decide_eq_false hlt
      obtain rfl : j = k := by omega
      go_wp2_with fail
      go_ret
      exact ⟨congrArg (fun z => Ending.returned (Value.string z)) HS.out, hWr.out⟩
end Go.Proofs.Ytfflgimbgmbpaaa
