/-
  Plain mathematics of BitsStays: a short form read again is that form; a target that is scaled by what it should be stays.
-/
import Derived.Test.YtkkkfcdoilojmaaBitN
import Derived.Test.YtkkkfcdoilojmaaBitX
namespace Go.Proofs.Ytkkkfcdoilojmaa
open Go.RowKit
set_option linter.unusedVariables false

theorem short_trunc (a : Nat) (ha : a < M256) : shortN (trunc a) = shortN a := by
  by_cases hs : blen a / 8 ≤ 2
  · have e : trunc a = a := by unfold trunc; rw [if_pos hs]
    rw [e]
  · obtain ⟨h1, h2, h3⟩ := blen_spec a ha
    have hl := blen_le a ha
    have h0 : a ≠ 0 := by
      intro h
      have := h3 h
      omega
    have h2 := h2 h0
    have et : trunc a = a / 2 ^ (8 * (blen a / 8 - 2)) * 2 ^ (8 * (blen a / 8 - 2)) := by unfold trunc; rw [if_neg hs]
    have hle := trunc_le a
    have hd : 2 ^ (blen a - 1) = 2 ^ (blen a - 1 - 8 * (blen a / 8 - 2)) * 2 ^ (8 * (blen a / 8 - 2)) := by
      rw [← Nat.pow_add]
      congr 1
      omega
    have hd2 : 2 ^ blen a = 2 ^ (blen a - 1) * 2 := by
      rw [← Nat.pow_succ]
      congr 1
      omega
    have hq : 2 ^ (blen a - 1 - 8 * (blen a / 8 - 2)) ≤ a / 2 ^ (8 * (blen a / 8 - 2)) := by
      rw [Nat.le_div_iff_mul_le (Nat.two_pow_pos _), ← hd]
      omega
    have hge : 2 ^ (blen a - 1) ≤ trunc a := by
      rw [et, hd]
      exact Nat.mul_le_mul_right _ hq
    have hp := Nat.two_pow_pos (blen a - 1)
    have hb : blen (trunc a) = blen a := by
      obtain ⟨t1, t2, _⟩ := blen_spec (trunc a) (by omega)
      exact len_unique (trunc a) _ _ t1 (t2 (by omega)) (by omega) (by omega)
    have e1 : ∀ x, mv x (3 - ((blen a / 8 + 1 : Nat) : Int)) = x / 2 ^ (8 * (blen a / 8 - 2)) := by
      intro x
      unfold mv
      rw [if_pos (by omega), show (-(3 - ((blen a / 8 + 1 : Nat) : Int))).toNat = blen a / 8 - 2 from by omega]
    have ht0 : trunc a ≠ 0 := by omega
    have e2 : shortN (trunc a) = (blen a / 8 + 1) * 16777216 ||| (wd0 (trunc a / 2 ^ (8 * (blen a / 8 - 2))) % 4294967296) := by
      unfold shortN
      rw [if_neg ht0, hb, e1]
    have e3 : shortN a = (blen a / 8 + 1) * 16777216 ||| (wd0 (a / 2 ^ (8 * (blen a / 8 - 2))) % 4294967296) := by
      unfold shortN
      rw [if_neg h0, e1]
    rw [e2, e3, et, Nat.mul_div_cancel _ (Nat.two_pow_pos _)]
theorem trunc_trunc (a : Nat) (ha : a < M256) : trunc (trunc a) = trunc a := by
  have h := tgt_short (trunc a) (Nat.lt_of_le_of_lt (trunc_le a) ha)
  rw [short_trunc a ha, tgt_short a ha] at h
  exact h.symm
/-- A target of at most 212 bits, scaled by so many seconds, and what comes of it. -/
theorem stays_scale (t c s : Nat) (ht : blen t + 44 ≤ 256) (htM : t < M256) (hs : 1 ≤ s) (hs2 : s ≤ 1099511627776) (hc : c ≤ 4 * s) :
    scaleO t c s = false ∧ scaleV t c s = t * c / s ∧ t * c < M256 := by
  have h1 := (blen_spec t htM).1
  have h2 : t < 2 ^ 212 := Nat.lt_of_lt_of_le h1 (Nat.pow_le_pow_right (by omega) (by omega))
  have h3 : c ≤ 2 ^ 42 := by omega
  have h4 : t * c ≤ 2 ^ 212 * 2 ^ 42 := Nat.mul_le_mul (Nat.le_of_lt h2) h3
  have h5 : t * c < M256 := by
    rw [M256_pow]
    rw [← Nat.pow_add] at h4
    exact Nat.lt_of_le_of_lt h4 (Nat.pow_lt_pow_right (by omega) (by omega))
  unfold scaleO scaleV
  rw [decide_eq_false (show ¬ M256 ≤ t * c by omega), if_neg (show ¬ M256 ≤ t * c by omega)]
  exact ⟨rfl, rfl, h5⟩
theorem quick_le (t c s : Nat) (hs : 1 ≤ s) (h : c ≤ s) : t * c / s ≤ t := by
  have := Nat.div_le_div_right (c := s) (Nat.mul_le_mul_left t h)
  rw [Nat.mul_div_cancel _ hs] at this
  exact this
theorem slow_ge (t c s : Nat) (hs : 1 ≤ s) (h : s ≤ c) : t ≤ t * c / s := by
  have := Nat.div_le_div_right (c := s) (Nat.mul_le_mul_left t h)
  rw [Nat.mul_div_cancel _ hs] at this
  exact this
end Go.Proofs.Ytkkkfcdoilojmaa
