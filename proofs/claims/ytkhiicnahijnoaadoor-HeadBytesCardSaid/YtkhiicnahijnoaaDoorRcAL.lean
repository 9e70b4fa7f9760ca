/-
  Plain mathematics of the document's bits: how many bits a number has; what short bits mean; the short form; how much work.
-/
import Derived.Test.YtkhiicnahijnoaaDoorRbDL
import Derived.Test.YtkhiicnahijnoaaDoorNumZ
namespace Go.Proofs.YtkhiicnahijnoaaDoor
open Go.RowKit
set_option linter.unusedVariables false

theorem shN_nat (X k : Nat) : shN X (k : Int) = X * 2 ^ k := by
  unfold shN
  rw [if_pos (by omega), Int.toNat_natCast]
theorem BX.nil (w : World) : BX w (.slice none 0 0) 0 0 := MineO.bx (lo := 0) (bs := []) (.inl ⟨rfl, rfl⟩)
/-- How many bits a number has. -/
def lg (X : Nat) : Nat := if X = 0 then 0 else Nat.log2 X + 1
theorem lg_le_iff (X k : Nat) : lg X ≤ k ↔ X < 2 ^ k := by
  unfold lg
  by_cases h : X = 0
  · subst h
    simp [Nat.two_pow_pos]
  · rw [if_neg h, Nat.succ_le_iff]
    exact Nat.log2_lt h
theorem lg_eq (X k : Nat) (h1 : X < 2 ^ k) (h2 : k = 0 ∨ 2 ^ (k - 1) ≤ X) : lg X = k := by
  have a := (lg_le_iff X k).2 h1
  rcases h2 with rfl | h2
  · omega
  · rcases Nat.lt_or_ge (lg X) k with h | h
    · have := (lg_le_iff X (k - 1)).1 (by omega)
      omega
    · omega
theorem lg_zero (X : Nat) : lg X = 0 ↔ X = 0 := by
  have h := lg_le_iff X 0
  rw [Nat.pow_zero] at h
  omega
theorem lg_blen (a : Nat) (h : a < M256) : blen a = lg a := by
  obtain ⟨h1, h2, h3⟩ := blen_spec a h
  refine (lg_eq a _ h1 ?_).symm
  by_cases h0 : a = 0
  · exact .inl (h3 h0)
  · right
    have h4 := h2 h0
    by_cases hb : blen a = 0
    · rw [hb, Nat.pow_zero] at h1
      omega
    · obtain ⟨k, hk⟩ : ∃ k, blen a = k + 1 := ⟨blen a - 1, by omega⟩
      rw [hk, Nat.pow_succ] at h4
      rw [hk, Nat.add_sub_cancel]
      omega
theorem lg_mul (x k : Nat) (h : x ≠ 0) : lg (x * 2 ^ k) = lg x + k := by
  have a1 := (lg_le_iff x (lg x)).1 (Nat.le_refl _)
  refine lg_eq _ _ ?_ (.inr ?_)
  · rw [Nat.pow_add]
    exact Nat.mul_lt_mul_of_pos_right a1 (Nat.two_pow_pos k)
  · have hp : lg x ≠ 0 := fun h0 => h ((lg_zero x).1 h0)
    have a2 : 2 ^ (lg x - 1) ≤ x := by
      rcases Nat.lt_or_ge x (2 ^ (lg x - 1)) with h1 | h1
      · have := (lg_le_iff x (lg x - 1)).2 h1
        omega
      · exact h1
    rw [show lg x + k - 1 = (lg x - 1) + k by omega, Nat.pow_add]
    exact Nat.mul_le_mul_right _ a2
theorem lg_256 (X : Nat) : lg X ≤ 256 ↔ X < M256 := by rw [lg_le_iff, M256_pow]
/-- The word of short bits, at its place. -/
def tw (b : Nat) : Nat := shN (b % 16777216) (8 * (((b / 16777216 : Nat) : Int) - 3))
theorem tgt_none (b : Nat) (h : 8388608 ≤ b % 16777216 ∨ b % 16777216 = 0) : tgtV b = 0 := by
  unfold tgtV
  rcases h with h | h
  · rw [if_pos h]
  · rw [h, if_neg (by omega)]
    split
    · rfl
    · unfold mv
      split
      · exact Nat.zero_div _
      · rw [Nat.zero_mul, Nat.zero_mod]
theorem tgt_some (b : Nat) (h : b % 16777216 < 8388608) (h0 : b % 16777216 ≠ 0) :
    (lg (tw b) = 0 ∨ 256 < lg (tw b) → tgtV b = 0) ∧ (lg (tw b) ≠ 0 → lg (tw b) ≤ 256 → tgtV b = tw b ∧ tw b ≠ 0 ∧ tw b + 1 < M256) := by
  have hxM : b % 16777216 < M256 := by rw [M256_pow]; exact Nat.lt_of_lt_of_le (show b % 16777216 < 2 ^ 24 by omega) (Nat.pow_le_pow_right (by omega) (by omega))
  have hl24 : lg (b % 16777216) ≤ 24 := (lg_le_iff _ 24).2 (by omega)
  unfold tgtV tw
  rw [if_neg (by omega), lg_blen _ hxM]
  generalize b % 16777216 = x at *
  generalize b / 16777216 = y at *
  by_cases hy : 3 ≤ y
  · obtain ⟨k, rfl⟩ : ∃ k, y = k + 3 := ⟨y - 3, by omega⟩
    rw [show (8 * (((k + 3 : Nat) : Int) - 3)) = ((8 * k : Nat) : Int) by omega, shN_nat, show (((k + 3 : Nat) : Int) - 3) = (k : Int) by omega, lg_mul x _ h0]
    have hx1 : lg x ≠ 0 := fun h1 => h0 ((lg_zero x).1 h1)
    unfold mv
    rw [if_neg (show ¬ (k : Int) < 0 by omega), Int.toNat_natCast]
    refine ⟨fun h1 => ?_, fun h1 h2 => ?_⟩
    · rw [if_pos (by omega)]
    · rw [if_neg (by omega)]
      have e := lg_mul x (8 * k) h0
      have h3 : x * 2 ^ (8 * k) < M256 := (lg_256 _).1 (by omega)
      have h4 : x * 2 ^ (8 * k) ≠ 0 := fun h5 => by rw [h5, (lg_zero 0).2 rfl] at e; omega
      refine ⟨Nat.mod_eq_of_lt h3, h4, ?_⟩
      have hx24 : x + 1 < M256 := by rw [M256_pow]; exact Nat.lt_of_lt_of_le (show x + 1 < 2 ^ 24 by omega) (Nat.pow_le_pow_right (by omega) (by omega))
      cases k with
      | zero =>
        rw [Nat.mul_zero, Nat.pow_zero, Nat.mul_one]
        exact hx24
      | succ k =>
        have e2 : x * 2 ^ (8 * (k + 1)) = 2 * (x * 2 ^ (8 * k + 7)) := by
          rw [show 8 * (k + 1) = (8 * k + 7) + 1 by omega, Nat.pow_succ, Nat.mul_comm (2 ^ (8 * k + 7)) 2, Nat.mul_left_comm]
        have e3 : M256 = 2 * 2 ^ 255 := by rw [M256_pow, ← Nat.pow_succ']
        omega
  · have e : shN x (8 * ((y : Int) - 3)) = x / 2 ^ (8 * (3 - y)) := by
      unfold shN
      rw [if_neg (by omega), show (-(8 * ((y : Int) - 3))).toNat = 8 * (3 - y) by omega]
    rw [e, if_neg (by omega)]
    have em : mv x ((y : Int) - 3) = x / 2 ^ (8 * (3 - y)) := by
      unfold mv
      rw [if_pos (by omega), show (-((y : Int) - 3)).toNat = 3 - y by omega]
    rw [em]
    have hle : x / 2 ^ (8 * (3 - y)) ≤ x := Nat.div_le_self _ _
    have h24 : x + 1 < M256 := by rw [M256_pow]; exact Nat.lt_of_lt_of_le (show x + 1 < 2 ^ 24 by omega) (Nat.pow_le_pow_right (by omega) (by omega))
    have h5 : lg (x / 2 ^ (8 * (3 - y))) ≤ 256 := (lg_256 _).2 (by omega)
    have hz := lg_zero (x / 2 ^ (8 * (3 - y)))
    refine ⟨fun h1 => hz.1 (by omega), fun h1 h2 => ⟨rfl, fun h6 => h1 (hz.2 h6), by omega⟩⟩
end Go.Proofs.YtkhiicnahijnoaaDoor
