/-
  Plain mathematics of the document's bits: how many bits a number has; what short bits mean; the short form; how much work.
-/
import Derived.Test.YtkkkfcdoilojmaaRbF
import Derived.Test.YtkkkfcdoilojmaaBitN
import Derived.Test.YtkkkfcdoilojmaaBitW
namespace Go.Proofs.Ytkkkfcdoilojmaa
open Go.RowKit
set_option linter.unusedVariables false

/-- How many bits a number has. -/
def lg (X : Nat) : Nat := if X = 0 then 0 else Nat.log2 X + 1
theorem lg_le_iff (X k : Nat) : lg X ≤ k ↔ X < 2 ^ k := by
  unfold lg
  by_cases h : X = 0
  · subst h
    simp [Nat.two_pow_pos]
  · rw [if_neg h, Nat.succ_le_iff]
    exact Nat.log2_lt h
theorem lg_eq (X k : Nat) (h1 : X < 2 ^ k) (h2 : k = 0 ∨ 2 ^ (k - 1) ≤ X) : lg X = k := by
  have a := (lg_le_iff X k).2 h1
  rcases h2 with rfl | h2
  · omega
  · rcases Nat.lt_or_ge (lg X) k with h | h
    · have := (lg_le_iff X (k - 1)).1 (by omega)
      omega
    · omega
theorem lg_zero (X : Nat) : lg X = 0 ↔ X = 0 := by
  have h := lg_le_iff X 0
  rw [Nat.pow_zero] at h
  omega
theorem lg_blen (a : Nat) (h : a < M256) : blen a = lg a := by
  obtain ⟨h1, h2, h3⟩ := blen_spec a h
  refine (lg_eq a _ h1 ?_).symm
  by_cases h0 : a = 0
  · exact .inl (h3 h0)
  · right
    have h4 := h2 h0
    by_cases hb : blen a = 0
    · rw [hb, Nat.pow_zero] at h1
      omega
    · obtain ⟨k, hk⟩ : ∃ k, blen a = k + 1 := ⟨blen a - 1, by omega⟩
      rw [hk, Nat.pow_succ] at h4
      rw [hk, Nat.add_sub_cancel]
      omega
theorem lg_mul (x k : Nat) (h : x ≠ 0) : lg (x * 2 ^ k) = lg x + k := by
  have a1 := (lg_le_iff x (lg x)).1 (Nat.le_refl _)
  refine lg_eq _ _ ?_ (.inr ?_)
  · rw [Nat.pow_add]
    exact Nat.mul_lt_mul_of_pos_right a1 (Nat.two_pow_pos k)
  · have hp : lg x ≠ 0 := fun h0 => h ((lg_zero x).1 h0)
    have a2 : 2 ^ (lg x - 1) ≤ x := by
      rcases Nat.lt_or_ge x (2 ^ (lg x - 1)) with h1 | h1
      · have := (lg_le_iff x (lg x - 1)).2 h1
        omega
      · exact h1
    rw [show lg x + k - 1 = (lg x - 1) + k by omega, Nat.pow_add]
    exact Nat.mul_le_mul_right _ a2
theorem lg_256 (X : Nat) : lg X ≤ 256 ↔ X < M256 := by rw [lg_le_iff, M256_pow]
/-- The word of short bits, at its place. -/
def tw (b : Nat) : Nat := shN (b % 16777216) (8 * (((b / 16777216 : Nat) : Int) - 3))
theorem tgt_none (b : Nat) (h : 8388608 ≤ b % 16777216 ∨ b % 16777216 = 0) : tgtV b = 0 := by
  unfold tgtV
  rcases h with h | h
  · rw [if_pos h]
  · rw [h, if_neg (by omega)]
    split
    · rfl
    · unfold mv
      split
      · exact Nat.zero_div _
      · rw [Nat.zero_mul, Nat.zero_mod]
theorem tgt_some (b : Nat) (h : b % 16777216 < 8388608) (h0 : b % 16777216 ≠ 0) :
    (lg (tw b) = 0 ∨ 256 < lg (tw b) → tgtV b = 0) ∧ (lg (tw b) ≠ 0 → lg (tw b) ≤ 256 → tgtV b = tw b ∧ tw b ≠ 0 ∧ tw b + 1 < M256) := by
  have hxM : b % 16777216 < M256 := by rw [M256_pow]; exact Nat.lt_of_lt_of_le (show b % 16777216 < 2 ^ 24 by omega) (Nat.pow_le_pow_right (by omega) (by omega))
  have hl24 : lg (b % 16777216) ≤ 24 := (lg_le_iff _ 24).2 (by omega)
  unfold tgtV tw
  rw [if_neg (by omega), lg_blen _ hxM]
  generalize b % 16777216 = x at *
  generalize b / 16777216 = y at *
  by_cases hy : 3 ≤ y
  · obtain ⟨k, rfl⟩ : ∃ k, y = k + 3 := ⟨y - 3, by omega⟩
    rw [show (8 * (((k + 3 : Nat) : Int) - 3)) = ((8 * k : Nat) : Int) by omega, shN_nat, show (((k + 3 : Nat) : Int) - 3) = (k : Int) by omega, lg_mul x _ h0]
    have hx1 : lg x ≠ 0 := fun h1 => h0 ((lg_zero x).1 h1)
    unfold mv
    rw [if_neg (show ¬ (k : Int) < 0 by omega), Int.toNat_natCast]
    refine ⟨fun h1 => ?_, fun h1 h2 => ?_⟩
    · rw [if_pos (by omega)]
    · rw [if_neg (by omega)]
      have e := lg_mul x (8 * k) h0
      have h3 : x * 2 ^ (8 * k) < M256 := (lg_256 _).1 (by omega)
      have h4 : x * 2 ^ (8 * k) ≠ 0 := fun h5 => by rw [h5, (lg_zero 0).2 rfl] at e; omega
      refine ⟨Nat.mod_eq_of_lt h3, h4, ?_⟩
      have hx24 : x + 1 < M256 := by rw [M256_pow]; exact Nat.lt_of_lt_of_le (show x + 1 < 2 ^ 24 by omega) (Nat.pow_le_pow_right (by omega) (by omega))
      cases k with
      | zero =>
        rw [Nat.mul_zero, Nat.pow_zero, Nat.mul_one]
        exact hx24
      | succ k =>
        have e2 : x * 2 ^ (8 * (k + 1)) = 2 * (x * 2 ^ (8 * k + 7)) := by
          rw [show 8 * (k + 1) = (8 * k + 7) + 1 by omega, Nat.pow_succ, Nat.mul_comm (2 ^ (8 * k + 7)) 2, Nat.mul_left_comm]
        have e3 : M256 = 2 * 2 ^ 255 := by rw [M256_pow, ← Nat.pow_succ']
        omega
  · have e : shN x (8 * ((y : Int) - 3)) = x / 2 ^ (8 * (3 - y)) := by
      unfold shN
      rw [if_neg (by omega), show (-(8 * ((y : Int) - 3))).toNat = 8 * (3 - y) by omega]
    rw [e, if_neg (by omega)]
    have em : mv x ((y : Int) - 3) = x / 2 ^ (8 * (3 - y)) := by
      unfold mv
      rw [if_pos (by omega), show (-((y : Int) - 3)).toNat = 3 - y by omega]
    rw [em]
    have hle : x / 2 ^ (8 * (3 - y)) ≤ x := Nat.div_le_self _ _
    have h24 : x + 1 < M256 := by rw [M256_pow]; exact Nat.lt_of_lt_of_le (show x + 1 < 2 ^ 24 by omega) (Nat.pow_le_pow_right (by omega) (by omega))
    have h5 : lg (x / 2 ^ (8 * (3 - y))) ≤ 256 := (lg_256 _).2 (by omega)
    have hz := lg_zero (x / 2 ^ (8 * (3 - y)))
    refine ⟨fun h1 => hz.1 (by omega), fun h1 h2 => ⟨rfl, fun h6 => h1 (hz.2 h6), by omega⟩⟩
theorem work_ref (t : Nat) (h : t + 1 < M256) (h0 : t ≠ 0) : workV t = M256 / (t + 1) ∧ M256 / (t + 1) < M256 := by
  have hd : M256 / (t + 1) < M256 := Nat.div_lt_self M256_pos (by omega)
  have e : (M256 - 1 - t) / (t + 1) + 1 = M256 / (t + 1) := by
    have : M256 = (M256 - 1 - t) + (t + 1) := by omega
    rw [this, Nat.add_div_right _ (by omega), ← this]
  refine ⟨?_, hd⟩
  unfold workV
  rw [if_neg (by omega), e, Nat.mod_eq_of_lt hd]
/-- How many bytes the short form says. -/
def szN (t : Nat) : Nat := if lg t = 0 then 0 else lg t / 8 + 1
theorem szN_eq (t : Nat) : szN t = (lg t + 7) / 8 + (if 0 < lg t ∧ lg t % 8 = 0 then 1 else 0) := by
  unfold szN
  split
  · rename_i h
    rw [h]
    rfl
  · split <;> omega
theorem short_ref (t : Nat) (h : t < M256) : shortN t = szN t * 16777216 + wd0 (shN t (-(8 * ((szN t : Int) - 3))) % M256) % 4294967296 ∧ wd0 (shN t (-(8 * ((szN t : Int) - 3))) % M256) < 8388608 ∧ szN t ≤ 33 := by
  have hb := lg_blen t h
  have hbl := blen_le t h
  have hs := tgt_short t h
  by_cases h0 : t = 0
  · subst h0
    have e : szN 0 = 0 := by unfold szN lg; simp
    rw [e]
    decide +kernel
  · have hl0 : lg t ≠ 0 := fun h1 => h0 ((lg_zero t).1 h1)
    have e : szN t = lg t / 8 + 1 := by unfold szN; rw [if_neg hl0]
    rw [e]
    unfold shortN
    rw [if_neg h0, hb]
    rw [hb] at hbl
    have h1 : t < 2 ^ lg t := (lg_le_iff t _).1 (Nat.le_refl _)
    generalize lg t = l at *
    have em : mv t (3 - ((l / 8 + 1 : Nat) : Int)) = shN t (-(8 * (((l / 8 + 1 : Nat) : Int) - 3))) % M256 := by
      unfold mv shN
      by_cases hs : l / 8 ≤ 2
      · rw [if_neg (by omega), if_pos (by omega)]
        congr 3
        omega
      · rw [if_pos (by omega)]
        by_cases hq : (0 : Int) ≤ -(8 * (((l / 8 + 1 : Nat) : Int) - 3))
        · omega
        · rw [if_neg hq, show (-(-(8 * (((l / 8 + 1 : Nat) : Int) - 3)))).toNat = 8 * (-(3 - ((l / 8 + 1 : Nat) : Int))).toNat by omega]
          exact (Nat.mod_eq_of_lt (Nat.lt_of_le_of_lt (Nat.div_le_self _ _) h)).symm
    rw [← em]
    have hm23 : mv t (3 - ((l / 8 + 1 : Nat) : Int)) < 8388608 := by
      rw [← p23]
      unfold mv
      by_cases hs : l / 8 ≤ 2
      · rw [if_neg (by omega), show (3 - ((l / 8 + 1 : Nat) : Int)).toNat = 2 - l / 8 from by omega]
        refine Nat.lt_of_le_of_lt (Nat.mod_le _ _) (Nat.lt_of_lt_of_le (Nat.mul_lt_mul_of_pos_right h1 (Nat.two_pow_pos _)) ?_)
        rw [← Nat.pow_add]
        exact Nat.pow_le_pow_right (by omega) (by omega)
      · rw [if_pos (by omega), show (-(3 - ((l / 8 + 1 : Nat) : Int))).toNat = l / 8 - 2 from by omega]
        apply Nat.div_lt_of_lt_mul
        rw [← Nat.pow_add]
        exact Nat.lt_of_lt_of_le h1 (Nat.pow_le_pow_right (by omega) (by omega))
    generalize mv t (3 - ((l / 8 + 1 : Nat) : Int)) = m at *
    have hw := word_lt m hm23
    have hw0 : wd0 m = m := by
      unfold wd0
      exact Nat.mod_eq_of_lt (by rw [B64_pow]; exact Nat.lt_of_lt_of_le (show m < 2 ^ 23 by rw [p23]; exact hm23) (Nat.pow_le_pow_right (by omega) (by omega)))
    rw [hw, lay _ m hm23, hw0]
    exact ⟨rfl, hm23, by omega⟩
end Go.Proofs.Ytkkkfcdoilojmaa
