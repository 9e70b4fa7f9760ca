/-
  Plain mathematics of counts: what is written is read again.
-/
import Derived.Test.YtfflgimbgmbpaaaWls
namespace Go.Proofs.Ytfflgimbgmbpaaa
open Go.RowKit
set_option linter.unusedVariables false

theorem rdTake_app (xs ys : List Nat) (e : Nat) (n : Int) (hn : n = xs.length) : rdTake (xs ++ ys, e) n = (xs, (ys, e)) := by
  subst hn
  unfold rdTake
  rw [if_pos (by simp only [List.length_append]; omega)]
  simp
theorem rdNum_toL (m n : Nat) (ys : List Nat) (e : Nat) (k : Int) (hk : k = m) (hm : m ≤ 8) (h : n < 256 ^ m) : rdNum (toL n m ++ ys, e) k = (n, (ys, e)) := by
  unfold rdNum
  rw [rdTake_app (toL n m) ys e k (by rw [hk, toL_length])]
  simp only
  rw [List.take_of_length_le (by rw [toL_length]; exact hm), ofL_toL m n h]
theorem rdCnt_countL (n : Nat) (ys : List Nat) (h : n < 18446744073709551616) : ∃ l, l ≤ n ∧ rdCnt (countL n ++ ys, 0) = ((n, l), (ys, 0)) := by
  unfold countL
  by_cases h1 : n < 253
  · rw [if_pos h1]
    refine ⟨0, Nat.zero_le _, ?_⟩
    have e := rdNum_toL 1 n ys 0 1 rfl (by omega) (by omega)
    unfold rdCnt
    rw [e]
    simp only
    rw [if_neg (by omega), if_neg (by omega), if_neg (by omega)]
  · rw [if_neg h1]
    by_cases h2 : n < 65536
    · rw [if_pos h2]
      refine ⟨253, by omega, ?_⟩
      rw [List.append_assoc]
      have e := rdNum_toL 1 253 (toL n 2 ++ ys) 0 1 rfl (by omega) (by omega)
      have e2 := rdNum_toL 2 n ys 0 2 rfl (by omega) (by omega)
      unfold rdCnt
      rw [e]
      simp only
      rw [e2]
      rfl
    · rw [if_neg h2]
      by_cases h3 : n < 4294967296
      · rw [if_pos h3]
        refine ⟨65536, by omega, ?_⟩
        rw [List.append_assoc]
        have e := rdNum_toL 1 254 (toL n 4 ++ ys) 0 1 rfl (by omega) (by omega)
        have e2 := rdNum_toL 4 n ys 0 4 rfl (by omega) (by omega)
        unfold rdCnt
        rw [e]
        simp only
        rw [e2]
        rfl
      · rw [if_neg h3]
        refine ⟨4294967296, by omega, ?_⟩
        rw [List.append_assoc]
        have e := rdNum_toL 1 255 (toL n 8 ++ ys) 0 1 rfl (by omega) (by omega)
        have e2 := rdNum_toL 8 n ys 0 8 rfl (by omega) (by omega)
        unfold rdCnt
        rw [e]
        simp only
        rw [e2]
        rfl
theorem rdCount_fits (n most : Nat) (ys : List Nat) (h : n < 18446744073709551616) (hm : n ≤ most) : rdCount (countL n ++ ys, 0) most = (n, (ys, 0)) := by
  obtain ⟨l, hl, e⟩ := rdCnt_countL n ys h
  unfold rdCount
  rw [e]
  simp only
  rw [if_neg (by omega), if_neg (by omega), if_neg (by omega)]
theorem rdCount_over (n most : Nat) (ys : List Nat) (h : n < 18446744073709551616) (hm : most < n) : rdCount (countL n ++ ys, 0) most = (0, ([], 2)) := by
  obtain ⟨l, hl, e⟩ := rdCnt_countL n ys h
  unfold rdCount
  rw [e]
  simp only
  rw [if_neg (by omega), if_neg (by omega), if_pos hm]
  rfl
end Go.Proofs.Ytfflgimbgmbpaaa
