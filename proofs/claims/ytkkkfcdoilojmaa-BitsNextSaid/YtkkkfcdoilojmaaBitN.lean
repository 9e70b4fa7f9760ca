/-
  Plain mathematics of the short form: what it means when it is read again; the order that it keeps.
-/
import Derived.Test.YtkkkfcdoilojmaaBitM
namespace Go.Proofs.Ytkkkfcdoilojmaa
open Go.RowKit
set_option linter.unusedVariables false

/-- A number with its three highest bytes alone. -/
def trunc (a : Nat) : Nat := if blen a / 8 ≤ 2 then a else a / 2 ^ (8 * (blen a / 8 - 2)) * 2 ^ (8 * (blen a / 8 - 2))
theorem trunc_le (a : Nat) : trunc a ≤ a := by
  unfold trunc
  split
  · exact Nat.le_refl _
  · exact Nat.div_mul_le_self _ _
theorem p23 : (2 : Nat) ^ 23 = 8388608 := by decide
theorem word_lt (m : Nat) (h : m < 8388608) : wd0 m % 4294967296 = m := by
  have e : wd0 m = m := by
    unfold wd0
    exact Nat.mod_eq_of_lt (by rw [B64_pow]; exact Nat.lt_of_lt_of_le (show m < 2 ^ 23 by rw [p23]; exact h) (Nat.pow_le_pow_right (by omega) (by omega)))
  rw [e]
  omega
theorem lay (s m : Nat) (h : m < 8388608) : s * 16777216 ||| m = s * 16777216 + m := by
  have e := Nat.shiftLeft_add_eq_or_of_lt (a := s) (b := m) (i := 24) (by omega)
  rw [Nat.shiftLeft_eq] at e
  exact e.symm
theorem blen_small (m j : Nat) (hm : m < M256) (h : m < 2 ^ j) : blen m ≤ j := by
  obtain ⟨h1, h2, h3⟩ := blen_spec m hm
  by_cases h0 : m = 0
  · rw [h3 h0]; omega
  · have h4 := h2 h0
    have h5 : 2 ^ blen m < 2 ^ (j + 1) := by rw [Nat.pow_succ]; omega
    have := (Nat.pow_lt_pow_iff_right (a := 2) (by omega)).1 h5
    omega
theorem tgt_short (a : Nat) (ha : a < M256) : tgtV (shortN a) = trunc a := by
  obtain ⟨h1, h2, h3⟩ := blen_spec a ha
  have hl := blen_le a ha
  by_cases h0 : a = 0
  · have e1 : shortN a = 0 := by unfold shortN; rw [if_pos h0]
    rw [e1]
    have e2 : trunc a = 0 := by have := trunc_le a; omega
    rw [e2]
    decide +kernel
  · obtain ⟨l, hll⟩ : ∃ l, l = blen a := ⟨_, rfl⟩
    have e0 : shortN a = (l / 8 + 1) * 16777216 ||| (wd0 (mv a (3 - ((l / 8 + 1 : Nat) : Int))) % 4294967296) := by unfold shortN; rw [if_neg h0, hll]
    have et : trunc a = if l / 8 ≤ 2 then a else a / 2 ^ (8 * (l / 8 - 2)) * 2 ^ (8 * (l / 8 - 2)) := by unfold trunc; rw [hll]
    rw [← hll] at h1 h2 hl
    rw [e0, et]
    by_cases hs : l / 8 ≤ 2
    · rw [if_pos hs]
      have hm : mv a (3 - ((l / 8 + 1 : Nat) : Int)) = a * 2 ^ (8 * (2 - l / 8)) := by
        unfold mv
        rw [if_neg (by omega), show (3 - ((l / 8 + 1 : Nat) : Int)).toNat = 2 - l / 8 from by omega]
        apply Nat.mod_eq_of_lt
        rw [M256_pow]
        refine Nat.lt_of_lt_of_le (Nat.mul_lt_mul_of_pos_right h1 (Nat.two_pow_pos _)) ?_
        rw [← Nat.pow_add]
        exact Nat.pow_le_pow_right (by omega) (by omega)
      have hm23 : a * 2 ^ (8 * (2 - l / 8)) < 8388608 := by
        rw [← p23]
        refine Nat.lt_of_lt_of_le (Nat.mul_lt_mul_of_pos_right h1 (Nat.two_pow_pos _)) ?_
        rw [← Nat.pow_add]
        exact Nat.pow_le_pow_right (by omega) (by omega)
      rw [hm]
      have hback : a * 2 ^ (8 * (2 - l / 8)) / 2 ^ (8 * (2 - l / 8)) = a := Nat.mul_div_cancel _ (Nat.two_pow_pos _)
      generalize a * 2 ^ (8 * (2 - l / 8)) = m at *
      have hmM : m < M256 := by rw [M256_pow]; exact Nat.lt_of_lt_of_le (show m < 2 ^ 23 by rw [p23]; exact hm23) (Nat.pow_le_pow_right (by omega) (by omega))
      rw [word_lt m hm23, lay _ m hm23]
      unfold tgtV
      rw [show ((l / 8 + 1) * 16777216 + m) % 16777216 = m from by omega, show ((l / 8 + 1) * 16777216 + m) / 16777216 = l / 8 + 1 from by omega, if_neg (by omega), if_neg (by have := blen_le m hmM; omega)]
      by_cases h3' : l / 8 = 2
      · unfold mv
        rw [if_neg (by omega), show ((((l / 8 + 1 : Nat) : Int) - 3)).toNat = 0 from by omega, Nat.mul_zero, Nat.pow_zero, Nat.mul_one, Nat.mod_eq_of_lt hmM]
        rw [h3'] at hback
        simpa using hback
      · unfold mv
        rw [if_pos (by omega), show (-(((l / 8 + 1 : Nat) : Int) - 3)).toNat = 2 - l / 8 from by omega]
        exact hback
    · rw [if_neg hs]
      have hm : mv a (3 - ((l / 8 + 1 : Nat) : Int)) = a / 2 ^ (8 * (l / 8 - 2)) := by
        unfold mv
        rw [if_pos (by omega), show (-(3 - ((l / 8 + 1 : Nat) : Int))).toNat = l / 8 - 2 from by omega]
      have hmk : a / 2 ^ (8 * (l / 8 - 2)) < 2 ^ (l - 8 * (l / 8 - 2)) := by
        apply Nat.div_lt_of_lt_mul
        rw [← Nat.pow_add, show 8 * (l / 8 - 2) + (l - 8 * (l / 8 - 2)) = l from by omega]
        exact h1
      have hm23 : a / 2 ^ (8 * (l / 8 - 2)) < 8388608 := by
        rw [← p23]
        exact Nat.lt_of_lt_of_le hmk (Nat.pow_le_pow_right (by omega) (by omega))
      have hback : a / 2 ^ (8 * (l / 8 - 2)) * 2 ^ (8 * (l / 8 - 2)) < M256 := Nat.lt_of_le_of_lt (Nat.div_mul_le_self _ _) ha
      rw [hm]
      generalize a / 2 ^ (8 * (l / 8 - 2)) = m at *
      have hmM : m < M256 := by rw [M256_pow]; exact Nat.lt_of_lt_of_le (show m < 2 ^ 23 by rw [p23]; exact hm23) (Nat.pow_le_pow_right (by omega) (by omega))
      have hbl := blen_small m _ hmM hmk
      rw [word_lt m hm23, lay _ m hm23]
      unfold tgtV
      rw [show ((l / 8 + 1) * 16777216 + m) % 16777216 = m from by omega, show ((l / 8 + 1) * 16777216 + m) / 16777216 = l / 8 + 1 from by omega, if_neg (by omega), if_neg (by omega)]
      unfold mv
      rw [if_neg (by omega), show ((((l / 8 + 1 : Nat) : Int) - 3)).toNat = l / 8 - 2 from by omega]
      exact Nat.mod_eq_of_lt hback
theorem blen_mono (a b : Nat) (ha : a < M256) (hb : b < M256) (h : a ≤ b) : blen a ≤ blen b :=
  blen_small a _ ha (Nat.lt_of_le_of_lt h (blen_spec b hb).1)
theorem trunc_mono (a b : Nat) (ha : a < M256) (hb : b < M256) (h : a ≤ b) : trunc a ≤ trunc b := by
  have hl := blen_mono a b ha hb h
  obtain ⟨a1, a2, a3⟩ := blen_spec a ha
  obtain ⟨b1, b2, b3⟩ := blen_spec b hb
  have hta := trunc_le a
  by_cases he : blen a / 8 = blen b / 8
  · unfold trunc
    rw [he]
    split
    · exact h
    · exact Nat.mul_le_mul_right _ (Nat.div_le_div_right h)
  · by_cases hs : blen b / 8 ≤ 2
    · have e : trunc b = b := by unfold trunc; rw [if_pos hs]
      rw [e]; omega
    · have e : trunc b = b / 2 ^ (8 * (blen b / 8 - 2)) * 2 ^ (8 * (blen b / 8 - 2)) := by unfold trunc; rw [if_neg hs]
      have hb0 : b ≠ 0 := by
        intro h0
        have := b3 h0
        omega
      have h4 := b2 hb0
      have hP : 2 ^ (8 * (blen b / 8) - 1) ≤ b := by
        have : 2 ^ (8 * (blen b / 8) - 1) * 2 ≤ 2 ^ blen b := by
          rw [← Nat.pow_succ]
          exact Nat.pow_le_pow_right (by omega) (by omega)
        omega
      have hPa : a < 2 ^ (8 * (blen b / 8) - 1) := Nat.lt_of_lt_of_le a1 (Nat.pow_le_pow_right (by omega) (by omega))
      have hd : 2 ^ (8 * (blen b / 8) - 1) = 2 ^ (15 : Nat) * 2 ^ (8 * (blen b / 8 - 2)) := by
        rw [← Nat.pow_add]
        congr 1
        omega
      have hq : 2 ^ (15 : Nat) ≤ b / 2 ^ (8 * (blen b / 8 - 2)) := by
        rw [Nat.le_div_iff_mul_le (Nat.two_pow_pos _), ← hd]
        exact hP
      have := Nat.mul_le_mul_right (2 ^ (8 * (blen b / 8 - 2))) hq
      rw [← hd] at this
      rw [e]
      omega
theorem shortN_lt (a : Nat) (ha : a < M256) : shortN a < 4294967296 := by
  have hl := blen_le a ha
  unfold shortN
  split
  · omega
  · have h1 : (blen a / 8 + 1) * 16777216 < 2 ^ 32 := by omega
    have h2 : wd0 (mv a (3 - ((blen a / 8 + 1 : Nat) : Int))) % 4294967296 < 2 ^ 32 := by omega
    have := Nat.or_lt_two_pow h1 h2
    omega
end Go.Proofs.Ytkkkfcdoilojmaa
