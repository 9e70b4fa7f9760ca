/-
  The plain laws of shifts, word by word.
-/
import Derived.Test.YtcedljfdnbenoaaNumM
import Derived.Laws.Bits64b
import Derived.Laws.BitsAllLaws
namespace Go.Proofs.Ytcedljfdnbenoaa
open Go.RowKit
set_option linter.unusedVariables false

theorem pq (r : Nat) (h : r < 64) : 2 ^ r * 2 ^ (64 - r) = B64 := by
  rw [← Nat.pow_add, show r + (64 - r) = 64 from by omega]; rfl

theorem or_join (i x y : Nat) (hx : x % 2 ^ i = 0) (hy : y < 2 ^ i) : x ||| y = x + y := by
  have e : x = 2 ^ i * (x / 2 ^ i) := by have := Nat.div_add_mod x (2 ^ i); omega
  rw [e, Nat.two_pow_add_eq_or_of_lt hy]

theorem or64 (x y : Nat) (hx : x < B64) (hy : y < B64) : bits BinOp.or IntKind.u64 (x : Int) (y : Int) = ((x ||| y : Nat) : Int) := bits_or_u64_nat x y hx hy

/-- A word to the left by r, and what is beyond. -/
theorem shl_word (r x : Nat) (h : r < 64) : IntKind.u64.wrap ((x : Int) * 2 ^ ((r : Int)).toNat) = ((2 ^ r * (x % 2 ^ (64 - r)) : Nat) : Int) := by
  rw [IntKind.wrap_u64, Int.toNat_natCast]
  have e : ((x : Int) * 2 ^ r) = ((x * 2 ^ r : Nat) : Int) := by rw [Int.natCast_mul, Int.natCast_pow]; rfl
  rw [e]
  have : (x * 2 ^ r) % 18446744073709551616 = 2 ^ r * (x % 2 ^ (64 - r)) := by
    rw [Nat.mul_comm x, show (18446744073709551616 : Nat) = 2 ^ r * 2 ^ (64 - r) from (pq r h).symm, Nat.mul_mod_mul_left]
  rw [← this]
  omega
theorem shr_word (x s : Nat) : (x : Int) / 2 ^ s = ((x / 2 ^ s : Nat) : Int) := by
  rw [Int.natCast_ediv, Int.natCast_pow]; rfl
theorem sub_toNat (r : Nat) (h : r < 64) : (64 - (r : Int)).toNat = 64 - r := by omega

theorem shl_join (r x y : Nat) (h : r < 64) (hy : y < B64) :
    bits BinOp.or IntKind.u64 (IntKind.u64.wrap ((x : Int) * 2 ^ ((r : Int)).toNat)) ((y : Int) / 2 ^ (64 - (r : Int)).toNat) = ((2 ^ r * (x % 2 ^ (64 - r)) + y / 2 ^ (64 - r) : Nat) : Int) ∧ 2 ^ r * (x % 2 ^ (64 - r)) + y / 2 ^ (64 - r) < B64 := by
  have hpq := pq r h
  have hq : 0 < 2 ^ (64 - r) := Nat.two_pow_pos _
  have h1 : y / 2 ^ (64 - r) < 2 ^ r := Nat.div_lt_of_lt_mul (by rw [Nat.mul_comm, hpq]; exact hy)
  have h2 : x % 2 ^ (64 - r) < 2 ^ (64 - r) := Nat.mod_lt _ hq
  have h3 : 2 ^ r * (x % 2 ^ (64 - r)) + 2 ^ r ≤ B64 := by
    rw [← hpq]
    have := Nat.mul_le_mul_left (2 ^ r) (Nat.succ_le_of_lt h2)
    rwa [Nat.mul_succ] at this
  have h6 := Nat.two_pow_pos r
  generalize hA : 2 ^ r * (x % 2 ^ (64 - r)) = A at *
  generalize hC : y / 2 ^ (64 - r) = C at *
  have h4 : A < B64 := by omega
  have h5 : C < B64 := by omega
  refine ⟨?_, by omega⟩
  rw [shl_word r x h, sub_toNat r h, shr_word, hA, hC, or64 _ _ h4 h5, or_join r _ _ (by rw [← hA]; exact Nat.mul_mod_right _ _) h1]

theorem shr_join (r x y : Nat) (h : r < 64) (hr : 0 < r) (hy : y < B64) :
    bits BinOp.or IntKind.u64 ((y : Int) / 2 ^ ((r : Int)).toNat) (IntKind.u64.wrap ((x : Int) * 2 ^ (64 - (r : Int)).toNat)) = ((y / 2 ^ r + 2 ^ (64 - r) * (x % 2 ^ r) : Nat) : Int) ∧ y / 2 ^ r + 2 ^ (64 - r) * (x % 2 ^ r) < B64 := by
  have h64 : 64 - r < 64 := by omega
  have e := shl_join (64 - r) x y h64 hy
  rw [show 64 - (64 - r) = r from by omega] at e
  have e1 : ((64 - r : Nat) : Int) = 64 - (r : Int) := by omega
  have e2 : (64 - ((64 - r : Nat) : Int)).toNat = r := by omega
  rw [e2, e1] at e
  have hsw : bits BinOp.or IntKind.u64 ((y : Int) / 2 ^ ((r : Int)).toNat) (IntKind.u64.wrap ((x : Int) * 2 ^ (64 - (r : Int)).toNat)) = bits BinOp.or IntKind.u64 (IntKind.u64.wrap ((x : Int) * 2 ^ (64 - (r : Int)).toNat)) ((y : Int) / 2 ^ r) := by
    rw [Int.toNat_natCast]
    simp only [bits, BitVec.or_comm]
  rw [hsw, e.1]
  exact ⟨by rw [Nat.add_comm], by rw [Nat.add_comm]; exact e.2⟩

section
variable (a0 a1 a2 a3 p q : Nat)
def S0 : Nat := p * (a0 % q)
def S1 (x y : Nat) : Nat := p * (x % q) + y / q

/-- Four words times p, p q = 2^64. -/
theorem shl_words (hq : p * q = B64) :
    ofW (S0 a0 p q) (S1 p q a1 a0) (S1 p q a2 a1) (S1 p q a3 a2) + M256 * (a3 / q) = ofW a0 a1 a2 a3 * p := by
  unfold S0 S1 ofW M256
  have e0 := Nat.div_add_mod a0 q
  have e1 := Nat.div_add_mod a1 q
  have e2 := Nat.div_add_mod a2 q
  have e3 := Nat.div_add_mod a3 q
  generalize a0 % q = x0 at *
  generalize a1 % q = x1 at *
  generalize a2 % q = x2 at *
  generalize a3 % q = x3 at *
  generalize a0 / q = y0 at *
  generalize a1 / q = y1 at *
  generalize a2 / q = y2 at *
  generalize a3 / q = y3 at *
  subst e0 e1 e2 e3
  have k : ∀ y x, (q * y + x) * p = B64 * y + p * x := fun y x => by rw [Nat.add_mul, ← hq]; simp only [Nat.mul_comm, Nat.mul_left_comm]
  have t : ∀ A B C D, (A + B64 * (B + B64 * (C + B64 * D))) * p = A * p + B64 * (B * p + B64 * (C * p + B64 * (D * p))) := fun A B C D => by simp only [Nat.add_mul, Nat.mul_assoc]
  rw [t, k, k, k, k]
  simp only [Nat.mul_add, Nat.mul_assoc]
  omega

theorem shr_words (hq : p * q = B64) :
    ofW (a0 / p + q * (a1 % p)) (a1 / p + q * (a2 % p)) (a2 / p + q * (a3 % p)) (a3 / p) * p + a0 % p = ofW a0 a1 a2 a3 := by
  unfold ofW
  have e0 := Nat.div_add_mod a0 p
  have e1 := Nat.div_add_mod a1 p
  have e2 := Nat.div_add_mod a2 p
  have e3 := Nat.div_add_mod a3 p
  generalize a0 % p = x0 at *
  generalize a1 % p = x1 at *
  generalize a2 % p = x2 at *
  generalize a3 % p = x3 at *
  generalize a0 / p = y0 at *
  generalize a1 / p = y1 at *
  generalize a2 / p = y2 at *
  generalize a3 / p = y3 at *
  subst e0 e1 e2 e3
  have k : ∀ y x, (y + q * x) * p = p * y + B64 * x := fun y x => by rw [Nat.add_mul, ← hq]; simp only [Nat.mul_comm, Nat.mul_left_comm]
  have t : ∀ A B C D, (A + B64 * (B + B64 * (C + B64 * D))) * p = A * p + B64 * (B * p + B64 * (C * p + B64 * (D * p))) := fun A B C D => by simp only [Nat.add_mul, Nat.mul_assoc]
  rw [t, k, k, k, Nat.mul_comm y3 p]
  simp only [Nat.mul_add]
  omega
end

end Go.Proofs.Ytcedljfdnbenoaa
