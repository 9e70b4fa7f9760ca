/-
  Plain mathematics of bytes, the lowest first, as numbers; the value that an ID is.
-/
import Derived.Test.YtcedljfdnbenoaaShM
namespace Go.Proofs.Ytcedljfdnbenoaa
open Go.RowKit
set_option linter.unusedVariables false

def byteV (x : Nat) : Value := .int .u8 (x : Int)
/-- An ID's value, by its bytes. -/
def idA (xs : List Nat) : Array Value := (xs.map byteV).toArray
abbrev idv (xs : List Nat) : Value := .agg (idA xs)

theorem idA_size (xs : List Nat) : (idA xs).size = xs.length := by simp [idA]
theorem idA_get (xs : List Nat) (k : Nat) (h : k < xs.length) : (idA xs)[k]? = some (.int .u8 ((xs.getD k 0 : Nat) : Int)) := by
  unfold idA byteV
  rw [List.getElem?_toArray, List.getElem?_map, List.getElem?_eq_getElem h]
  simp [List.getD, List.getElem?_eq_getElem h]

/-- The number that bytes are, the lowest first. -/
def ofL : List Nat → Nat
  | [] => 0
  | x :: xs => x + 256 * ofL xs

theorem ofL_append (xs : List Nat) (x : Nat) : ofL (xs ++ [x]) = ofL xs + 256 ^ xs.length * x := by
  induction xs with
  | nil => simp [ofL]
  | cons y ys ih =>
    simp only [List.cons_append, ofL, ih, List.length_cons, Nat.pow_succ, Nat.mul_add]
    rw [Nat.mul_comm (256 ^ ys.length) 256, Nat.mul_assoc]
    omega
theorem ofL_lt (xs : List Nat) (h : ∀ x ∈ xs, x < 256) : ofL xs < 256 ^ xs.length := by
  induction xs with
  | nil => simp [ofL]
  | cons y ys ih =>
    have h1 := h y (by simp)
    have h2 := ih (fun x hx => h x (by simp [hx]))
    simp only [ofL, List.length_cons, Nat.pow_succ]
    omega
theorem ofL_take_succ (xs : List Nat) (k : Nat) (h : k < xs.length) : ofL (xs.take (k + 1)) = ofL (xs.take k) + 256 ^ k * xs.getD k 0 := by
  rw [List.take_add_one, List.getElem?_eq_getElem h]
  simp only [Option.toList_some, ofL_append, List.length_take, Nat.min_eq_left (Nat.le_of_lt h)]
  simp [List.getD, List.getElem?_eq_getElem h]
theorem pow256 (k : Nat) : 256 ^ k = 2 ^ (8 * k) := by rw [Nat.pow_mul]
theorem M256_256 : M256 = 256 ^ 32 := by kernel_rfl
theorem ofL_inj (xs ys : List Nat) (hl : xs.length = ys.length) (hx : ∀ x ∈ xs, x < 256) (hy : ∀ y ∈ ys, y < 256) (h : ofL xs = ofL ys) : xs = ys := by
  induction xs generalizing ys with
  | nil => cases ys with
    | nil => rfl
    | cons => simp at hl
  | cons x xs ih =>
    cases ys with
    | nil => simp at hl
    | cons y ys =>
      have h1 := hx x (by simp)
      have h2 := hy y (by simp)
      simp only [ofL] at h
      have e1 : x = y := by omega
      have e2 : ofL xs = ofL ys := by omega
      rw [e1, ih ys (by simpa using hl) (fun z hz => hx z (by simp [hz])) (fun z hz => hy z (by simp [hz])) e2]

/-- Byte k of a number. -/
def byteOf (n k : Nat) : Nat := n / 256 ^ k % 256
theorem byteOf_lt (n k : Nat) : byteOf n k < 256 := Nat.mod_lt _ (by omega)
/-- A number's bytes, so many. -/
def toL (n : Nat) : Nat → List Nat
  | 0 => []
  | m + 1 => n % 256 :: toL (n / 256) m
theorem toL_length (m n : Nat) : (toL n m).length = m := by
  induction m generalizing n with
  | zero => rfl
  | succ m ih => simp [toL, ih]
theorem toL_lt (m n : Nat) : ∀ x ∈ toL n m, x < 256 := by
  induction m generalizing n with
  | zero => intro x hx; simp [toL] at hx
  | succ m ih =>
    intro x hx
    simp only [toL, List.mem_cons] at hx
    rcases hx with rfl | hx
    · omega
    · exact ih _ x hx
theorem toL_getD (m n k : Nat) (h : k < m) : (toL n m).getD k 0 = byteOf n k := by
  induction m generalizing n k with
  | zero => omega
  | succ m ih =>
    cases k with
    | zero => simp [toL, byteOf]
    | succ k =>
      have := ih (n / 256) k (by omega)
      simp only [toL, List.getD_cons_succ, this, byteOf, Nat.div_div_eq_div_mul, Nat.pow_succ, Nat.mul_comm]
theorem ofL_toL (m n : Nat) (h : n < 256 ^ m) : ofL (toL n m) = n := by
  induction m generalizing n with
  | zero => simp at h; subst h; rfl
  | succ m ih =>
    simp only [toL, ofL]
    rw [ih (n / 256) (by rw [Nat.pow_succ] at h; omega)]
    omega
theorem toL_ofL (xs : List Nat) (h : ∀ x ∈ xs, x < 256) : toL (ofL xs) xs.length = xs := by
  induction xs with
  | nil => rfl
  | cons x xs ih =>
    have h1 := h x (by simp)
    simp only [ofL, List.length_cons, toL]
    rw [show (x + 256 * ofL xs) / 256 = ofL xs from by omega, show (x + 256 * ofL xs) % 256 = x from by omega, ih (fun z hz => h z (by simp [hz]))]

/-- A word of a number out of its bytes. -/
theorem byteOf_word (n k : Nat) : byteOf n k = (n / B64 ^ (k / 8) % B64) / 2 ^ (8 * (k % 8)) % 256 := by
  unfold byteOf
  obtain ⟨j, r, hr, rfl⟩ : ∃ j r, r < 8 ∧ k = 8 * j + r := ⟨k / 8, k % 8, by omega, by omega⟩
  rw [show (8 * j + r) / 8 = j from by omega, show (8 * j + r) % 8 = r from by omega]
  have e : (256 : Nat) ^ (8 * j + r) = B64 ^ j * 2 ^ (8 * r) := by
    rw [Nat.pow_add, Nat.pow_mul, pow256 r]
    rfl
  rw [e, ← Nat.div_div_eq_div_mul]
  generalize n / B64 ^ j = m
  have hb : B64 = 2 ^ (8 * r) * 2 ^ (64 - 8 * r) := by rw [← Nat.pow_add, show 8 * r + (64 - 8 * r) = 64 from by omega]; rfl
  rw [hb, Nat.mod_mul_right_div_self]
  have hd : (256 : Nat) ∣ 2 ^ (64 - 8 * r) := ⟨2 ^ (56 - 8 * r), by rw [show (256 : Nat) = 2 ^ 8 from rfl, ← Nat.pow_add, show 8 + (56 - 8 * r) = 64 - 8 * r from by omega]⟩
  rw [Nat.mod_mod_of_dvd _ hd]

theorem B64_pow' : B64 = 2 ^ 64 := by kernel_rfl

/-! ### one byte more in a number of four words -/
theorem word_lo (p m i : Nat) : (p + B64 ^ (i + 1) * m) / B64 ^ i % B64 = p / B64 ^ i % B64 := by
  have hp : 0 < B64 ^ i := Nat.pow_pos B64_pos
  rw [Nat.pow_succ, Nat.mul_assoc, Nat.add_mul_div_left _ _ hp, Nat.add_mul_mod_self_left]
theorem word_hi (n i : Nat) (h : n < B64 ^ i) : n / B64 ^ i % B64 = 0 := by rw [Nat.div_eq_of_lt h]; rfl

def wdi (n i : Nat) : Nat := n / B64 ^ i % B64
theorem wdi_0 (n : Nat) : wd0 n = wdi n 0 := by unfold wd0 wdi; simp
theorem wdi_1 (n : Nat) : wd1 n = wdi n 1 := by unfold wd1 wdi; simp
theorem wdi_2 (n : Nat) : wd2 n = wdi n 2 := by unfold wd2 wdi; rw [Nat.pow_succ, Nat.pow_one, ← Nat.div_div_eq_div_mul]
theorem wdi_3 (n : Nat) : wd3 n = wdi n 3 := by unfold wd3 wdi; rw [Nat.pow_succ, Nat.pow_succ, Nat.pow_one, ← Nat.div_div_eq_div_mul, ← Nat.div_div_eq_div_mul]

theorem pow256_split (j r : Nat) : (256 : Nat) ^ (8 * j + r) = B64 ^ j * 2 ^ (8 * r) := by
  rw [Nat.pow_add, Nat.pow_mul, pow256 r]
  rfl

theorem byte_other (p x k i : Nat) (hp : p < 256 ^ k) (hx : x < 256) (hi : i ≠ k / 8) : wdi (p + 256 ^ k * x) i = wdi p i := by
  obtain ⟨j, r, hr, rfl⟩ : ∃ j r, r < 8 ∧ k = 8 * j + r := ⟨k / 8, k % 8, by omega, by omega⟩
  rw [show (8 * j + r) / 8 = j from by omega] at hi
  rw [pow256_split] at *
  unfold wdi
  rcases Nat.lt_or_ge i j with h | h
  · obtain ⟨d, rfl⟩ : ∃ d, j = i + 1 + d := ⟨j - (i + 1), by omega⟩
    rw [Nat.pow_add, Nat.mul_assoc, Nat.mul_assoc, word_lo]
  · have h1 : i = j + 1 + (i - (j + 1)) := by omega
    have hB : B64 ^ (j + 1) ≤ B64 ^ i := Nat.pow_le_pow_right B64_pos (by omega)
    have h2 : 2 ^ (8 * r) * 256 ≤ B64 := by
      have : (2 : Nat) ^ (8 * r) * 256 = 2 ^ (8 * r + 8) := by rw [Nat.pow_add]
      rw [this, B64_pow']
      exact Nat.pow_le_pow_right (by omega) (by omega)
    have h3 : B64 ^ j * (2 ^ (8 * r) * 256) ≤ B64 ^ (j + 1) := by
      rw [Nat.pow_succ]; exact Nat.mul_le_mul_left _ h2
    have h4 : B64 ^ j * 2 ^ (8 * r) * x + B64 ^ j * 2 ^ (8 * r) ≤ B64 ^ j * (2 ^ (8 * r) * 256) := by
      rw [← Nat.mul_succ, ← Nat.mul_assoc]; exact Nat.mul_le_mul_left _ (by omega)
    rw [word_hi _ _ (by omega), word_hi _ _ (by omega)]

theorem byte_word (p x k : Nat) (hp : p < 256 ^ k) (hx : x < 256) :
    bits BinOp.or IntKind.u64 ((wdi p (k / 8) : Nat) : Int) (IntKind.u64.wrap (IntKind.u64.wrap ((x : Nat) : Int) * 2 ^ (k % 8 * 8))) = ((wdi (p + 256 ^ k * x) (k / 8) : Nat) : Int) := by
  obtain ⟨j, r, hr, rfl⟩ : ∃ j r, r < 8 ∧ k = 8 * j + r := ⟨k / 8, k % 8, by omega, by omega⟩
  rw [show (8 * j + r) / 8 = j from by omega, show (8 * j + r) % 8 * 8 = 8 * r from by omega]
  rw [pow256_split] at *
  have hpj : 0 < B64 ^ j := Nat.pow_pos B64_pos
  have h0 : p / B64 ^ j < 2 ^ (8 * r) := Nat.div_lt_of_lt_mul hp
  have h2 : 2 ^ (8 * r) * 256 ≤ B64 := by
    have : (2 : Nat) ^ (8 * r) * 256 = 2 ^ (8 * r + 8) := by rw [Nat.pow_add]
    rw [this, B64_pow']
    exact Nat.pow_le_pow_right (by omega) (by omega)
  have hs : 2 ^ (8 * r) * x + 2 ^ (8 * r) ≤ 2 ^ (8 * r) * 256 := by rw [← Nat.mul_succ]; exact Nat.mul_le_mul_left _ (by omega)
  have e1 : IntKind.u64.wrap ((x : Nat) : Int) = (x : Int) := by rw [IntKind.wrap_u64]; omega
  have e2 : IntKind.u64.wrap ((x : Int) * 2 ^ (8 * r)) = ((2 ^ (8 * r) * x : Nat) : Int) := by
    have e : ((x : Int) * 2 ^ (8 * r)) = ((2 ^ (8 * r) * x : Nat) : Int) := by rw [Int.natCast_mul, Int.natCast_pow, Int.mul_comm]; rfl
    rw [e, IntKind.wrap_u64]
    have : 2 ^ (8 * r) * x < 18446744073709551616 := by unfold B64 at h2; omega
    omega
  have ew : wdi p j = p / B64 ^ j := Nat.mod_eq_of_lt (by omega)
  have en : wdi (p + B64 ^ j * 2 ^ (8 * r) * x) j = p / B64 ^ j + 2 ^ (8 * r) * x := by
    unfold wdi
    rw [Nat.mul_assoc, Nat.add_mul_div_left _ _ hpj]
    exact Nat.mod_eq_of_lt (by omega)
  rw [e1, e2, ew, en]
  have hsw : bits BinOp.or IntKind.u64 ((p / B64 ^ j : Nat) : Int) ((2 ^ (8 * r) * x : Nat) : Int) = ((p / B64 ^ j ||| 2 ^ (8 * r) * x : Nat) : Int) := or64 _ _ (by omega) (by omega)
  rw [hsw, Nat.or_comm, or_join (8 * r) _ _ (Nat.mul_mod_right _ _) h0, Nat.add_comm]

end Go.Proofs.Ytcedljfdnbenoaa
