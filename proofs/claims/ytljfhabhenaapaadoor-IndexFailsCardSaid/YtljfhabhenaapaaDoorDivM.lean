/-
  Plain mathematics of a quotient, bit by bit.
-/
import Derived.Test.YtljfhabhenaapaaDoorBasZ
import Derived.Test.YtljfhabhenaapaaDoorNumE
namespace Go.Proofs.YtljfhabhenaapaaDoor
open Go.RowKit
set_option maxRecDepth 100000
set_option linter.unusedVariables false

/-- One bit more in a number whose lower bits, and this one, are nought. -/
theorem bit_other (q k i : Nat) (hk : k < 256) (hq : q % 2 ^ (k + 1) = 0) (hi : i ≠ k / 64) : wdi (q + 2 ^ k) i = wdi q i := by
  obtain ⟨m, hm⟩ : ∃ m, q = 2 ^ (k + 1) * m := ⟨q / 2 ^ (k + 1), by have := Nat.div_add_mod q (2 ^ (k + 1)); omega⟩
  subst hm
  obtain ⟨j, r, hr, rfl⟩ : ∃ j r, r < 64 ∧ k = 64 * j + r := ⟨k / 64, k % 64, by omega, by omega⟩
  rw [show (64 * j + r) / 64 = j from by omega] at hi
  have hB : ∀ t, B64 ^ t = 2 ^ (64 * t) := fun t => by rw [Nat.pow_mul, ← B64_pow]
  unfold wdi
  rcases Nat.lt_or_ge i j with h | h
  · have e : (2 : Nat) ^ (64 * j + r) = B64 ^ (i + 1) * 2 ^ (64 * (j - (i + 1)) + r) := by
      rw [hB, ← Nat.pow_add]; congr 1; omega
    rw [e, word_lo]
  · have hji : j < i := by omega
    have hle : 64 * j + r + 1 ≤ 64 * i := by omega
    obtain ⟨d, hd⟩ : ∃ d, 64 * i = (64 * j + r + 1) + d := ⟨64 * i - (64 * j + r + 1), by omega⟩
    have e1 : (2 ^ (64 * j + r + 1) * m + 2 ^ (64 * j + r)) / B64 ^ i = 2 ^ (64 * j + r + 1) * m / B64 ^ i := by
      rw [hB, hd, Nat.pow_add 2 (64 * j + r + 1) d, ← Nat.div_div_eq_div_mul, ← Nat.div_div_eq_div_mul]
      congr 1
      have hp : 0 < 2 ^ (64 * j + r + 1) := Nat.two_pow_pos _
      rw [Nat.mul_add_div hp, Nat.mul_div_cancel_left _ hp, Nat.div_eq_of_lt (by rw [Nat.pow_succ]; have := Nat.two_pow_pos (64 * j + r); omega), Nat.add_zero]
    rw [e1]

theorem bit_word (q k : Nat) (hk : k < 256) (hq : q % 2 ^ (k + 1) = 0) :
    wdi q (k / 64) ||| 2 ^ (k % 64) = wdi (q + 2 ^ k) (k / 64) ∧ 2 ^ (k % 64) < B64 := by
  obtain ⟨m, hm⟩ : ∃ m, q = 2 ^ (k + 1) * m := ⟨q / 2 ^ (k + 1), by have := Nat.div_add_mod q (2 ^ (k + 1)); omega⟩
  subst hm
  obtain ⟨j, r, hr, rfl⟩ : ∃ j r, r < 64 ∧ k = 64 * j + r := ⟨k / 64, k % 64, by omega, by omega⟩
  rw [show (64 * j + r) / 64 = j from by omega, show (64 * j + r) % 64 = r from by omega]
  have hB : B64 ^ j = 2 ^ (64 * j) := by rw [Nat.pow_mul, ← B64_pow]
  have hp : 0 < B64 ^ j := Nat.pow_pos B64_pos
  have hr64 : (2 : Nat) ^ r < B64 := by rw [B64_pow]; exact Nat.pow_lt_pow_right (by omega) hr
  refine ⟨?_, hr64⟩
  have e1 : (2 : Nat) ^ (64 * j + r + 1) * m = B64 ^ j * (2 ^ (r + 1) * m) := by rw [hB, ← Nat.mul_assoc, ← Nat.pow_add]; congr 2
  have e2 : (2 : Nat) ^ (64 * j + r) = B64 ^ j * 2 ^ r := by rw [hB, ← Nat.pow_add]
  unfold wdi
  rw [e1, e2, ← Nat.mul_add, Nat.mul_div_cancel_left _ hp, Nat.mul_div_cancel_left _ hp]
  have hd : B64 = 2 ^ (r + 1) * 2 ^ (63 - r) := by rw [← Nat.pow_add, show r + 1 + (63 - r) = 64 from by omega]; rfl
  have e3 : 2 ^ (r + 1) * m % B64 = 2 ^ (r + 1) * (m % 2 ^ (63 - r)) := by rw [hd, Nat.mul_mod_mul_left]
  have hlt : 2 ^ (r + 1) * (m % 2 ^ (63 - r)) + 2 ^ r < B64 := by
    have h1 : m % 2 ^ (63 - r) < 2 ^ (63 - r) := Nat.mod_lt _ (Nat.two_pow_pos _)
    have h2 := Nat.mul_le_mul_left (2 ^ (r + 1)) (Nat.succ_le_of_lt h1)
    rw [Nat.mul_succ, ← hd] at h2
    have h3 : (2 : Nat) ^ r < 2 ^ (r + 1) := Nat.pow_lt_pow_right (by omega) (by omega)
    omega
  have e4 : (2 ^ (r + 1) * m + 2 ^ r) % B64 = 2 ^ (r + 1) * (m % 2 ^ (63 - r)) + 2 ^ r := by
    have e5 := Nat.mod_add_div (2 ^ (r + 1) * m) B64
    rw [e3] at e5
    rw [show 2 ^ (r + 1) * m + 2 ^ r = 2 ^ (r + 1) * (m % 2 ^ (63 - r)) + 2 ^ r + B64 * (2 ^ (r + 1) * m / B64) from by omega, Nat.add_mul_mod_self_left, Nat.mod_eq_of_lt hlt]
  rw [e3, e4, or_join (r + 1) _ _ (Nat.mul_mod_right _ _) (Nat.pow_lt_pow_right (by omega) (by omega))]

/-- What holds at each round's head: k bits are still to come. -/
structure DivAt (a b k q L : Nat) : Prop where
  sum : L + b * q = a
  low : q % 2 ^ k = 0
  rest : L < b * 2 ^ k
  room : k = 0 ∨ k + blen b ≤ 257

theorem div_start (a b k : Nat) (ha : a < M256) (hb : b < M256) (hb0 : 0 < b) (hk : (k : Int) = (blen a : Int) - (blen b : Int) + 1 ∨ (k = 0 ∧ blen a < blen b)) : DivAt a b k 0 a := by
  obtain ⟨a1, _, _⟩ := blen_spec a ha
  obtain ⟨_, b2, _⟩ := blen_spec b hb
  have b2 := b2 (by omega)
  have la := blen_le a ha
  refine ⟨by simp, by simp, ?_, by omega⟩
  rcases hk with hk | ⟨rfl, hk⟩
  · have e : blen a + 1 = k + blen b := by omega
    have h1 : 2 ^ (blen a + 1) = 2 ^ k * 2 ^ blen b := by rw [e, Nat.pow_add]
    rw [Nat.pow_succ] at h1
    have h2 : 2 ^ k * 2 ^ blen b ≤ 2 ^ k * (2 * b) := Nat.mul_le_mul_left _ b2
    have h3 : 2 ^ k * (2 * b) = 2 * (b * 2 ^ k) := by rw [Nat.mul_left_comm, Nat.mul_comm (2 ^ k)]
    omega
  · have h1 : 2 ^ (blen a + 1) ≤ 2 ^ blen b := Nat.pow_le_pow_right (by omega) (by omega)
    rw [Nat.pow_succ] at h1
    simp; omega

theorem DivAt.fits {a b k q L : Nat} (h : DivAt a b (k + 1) q L) (hb : b < M256) : b * 2 ^ k < M256 ∧ k < 256 := by
  obtain ⟨b1, _, b3⟩ := blen_spec b hb
  have hr := h.room
  have h1 : b * 2 ^ k < 2 ^ blen b * 2 ^ k := Nat.mul_lt_mul_of_pos_right b1 (Nat.two_pow_pos k)
  rw [← Nat.pow_add] at h1
  have h2 : (2 : Nat) ^ (blen b + k) ≤ 2 ^ 256 := Nat.pow_le_pow_right (by omega) (by omega)
  rw [← M256_pow] at h2
  refine ⟨by omega, ?_⟩
  have hb0 : 0 < b := by
    rcases Nat.eq_zero_or_pos b with rfl | hp
    · have := h.rest; simp at this
    · exact hp
  have : blen b ≠ 0 := fun e => by rw [e] at b1; simp at b1; omega
  omega
theorem DivAt.less {a b k q L : Nat} (h : DivAt a b (k + 1) q L) (hl : L < b * 2 ^ k) : DivAt a b k q L := by
  refine ⟨h.sum, ?_, hl, by have := h.room; omega⟩
  obtain ⟨m, hm⟩ : ∃ m, q = 2 ^ (k + 1) * m := ⟨q / 2 ^ (k + 1), by have := Nat.div_add_mod q (2 ^ (k + 1)); have := h.low; omega⟩
  rw [hm, Nat.pow_succ, Nat.mul_assoc, Nat.mul_mod_right]
theorem DivAt.more {a b k q L : Nat} (h : DivAt a b (k + 1) q L) (hl : ¬ L < b * 2 ^ k) : DivAt a b k (q + 2 ^ k) (L - b * 2 ^ k) := by
  have hs := h.sum
  have hr := h.rest
  rw [Nat.pow_succ, ← Nat.mul_assoc] at hr
  refine ⟨by rw [Nat.mul_add]; omega, ?_, by omega, by have := h.room; omega⟩
  obtain ⟨m, hm⟩ : ∃ m, q = 2 ^ (k + 1) * m := ⟨q / 2 ^ (k + 1), by have := Nat.div_add_mod q (2 ^ (k + 1)); have := h.low; omega⟩
  rw [hm, Nat.pow_succ, Nat.mul_assoc, Nat.add_mod, Nat.mul_mod_right, Nat.mod_self]
  rfl
theorem DivAt.done {a b q L : Nat} (h : DivAt a b 0 q L) : q = a / b ∧ L = a % b := by
  have hs := h.sum
  have hr := h.rest
  simp at hr
  obtain ⟨e1, e2⟩ := split_div a b q L (by omega) (by omega) hr
  exact ⟨e2.symm, e1.symm⟩
theorem DivAt.le {a b k q L : Nat} (h : DivAt a b k q L) (hb0 : 0 < b) (ha : a < M256) : q < M256 ∧ L < M256 := by
  have hs := h.sum
  have : q ≤ b * q := Nat.le_mul_of_pos_left q hb0
  omega

end Go.Proofs.YtljfhabhenaapaaDoor
