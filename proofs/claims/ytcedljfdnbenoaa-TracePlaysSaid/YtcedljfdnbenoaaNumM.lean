/-
  Plain mathematics of numbers of four 64-bit words (no Go in sight), and the value that such a number is.
-/
import Derived.Below
import Derived.WalkKit
namespace Go.Proofs.Ytcedljfdnbenoaa
open Go.RowKit
set_option linter.unusedVariables false

/-- 2^64 and 2^256, behind names that nothing unfolds by itself. -/
def B64 : Nat := 18446744073709551616
def M256 : Nat := B64 * B64 * B64 * B64

theorem B64_pos : 0 < B64 := by decide
theorem M256_pos : 0 < M256 := by decide

def wd0 (n : Nat) : Nat := n % B64
def wd1 (n : Nat) : Nat := n / B64 % B64
def wd2 (n : Nat) : Nat := n / B64 / B64 % B64
def wd3 (n : Nat) : Nat := n / B64 / B64 / B64 % B64

abbrev W4 (a b c d : Nat) : Value := .agg #[.int .u64 (a : Int), .int .u64 (b : Int), .int .u64 (c : Int), .int .u64 (d : Int)]
/-- The value that a number below 2^256 is. -/
abbrev nv (n : Nat) : Value := W4 (wd0 n) (wd1 n) (wd2 n) (wd3 n)

def ofW (a b c d : Nat) : Nat := a + B64 * (b + B64 * (c + B64 * d))

theorem wd0_lt (n : Nat) : wd0 n < B64 := Nat.mod_lt _ B64_pos
theorem wd1_lt (n : Nat) : wd1 n < B64 := Nat.mod_lt _ B64_pos
theorem wd2_lt (n : Nat) : wd2 n < B64 := Nat.mod_lt _ B64_pos
theorem wd3_lt (n : Nat) : wd3 n < B64 := Nat.mod_lt _ B64_pos

theorem split_div (n m a r : Nat) (hm : 0 < m) (h : n = r + m * a) (hr : r < m) : n % m = r ∧ n / m = a := by
  subst h
  exact ⟨by rw [Nat.add_mul_mod_self_left]; exact Nat.mod_eq_of_lt hr, by rw [Nat.add_mul_div_left _ _ hm, Nat.div_eq_of_lt hr, Nat.zero_add]⟩

theorem wd_ofW (a b c d : Nat) (ha : a < B64) (hb : b < B64) (hc : c < B64) (hd : d < B64) :
    wd0 (ofW a b c d) = a ∧ wd1 (ofW a b c d) = b ∧ wd2 (ofW a b c d) = c ∧ wd3 (ofW a b c d) = d := by
  unfold wd0 wd1 wd2 wd3 ofW
  obtain ⟨h0, q0⟩ := split_div _ B64 (b + B64 * (c + B64 * d)) a B64_pos rfl ha
  obtain ⟨h1, q1⟩ := split_div _ B64 (c + B64 * d) b B64_pos rfl hb
  obtain ⟨h2, q2⟩ := split_div _ B64 d c B64_pos rfl hc
  rw [q0, q1, q2]
  exact ⟨h0, h1, h2, Nat.mod_eq_of_lt hd⟩

theorem ofW_wd (n : Nat) (h : n < M256) : ofW (wd0 n) (wd1 n) (wd2 n) (wd3 n) = n := by
  unfold wd0 wd1 wd2 wd3 ofW
  have h3 : n / B64 / B64 / B64 < B64 := by
    unfold M256 at h
    rw [Nat.div_div_eq_div_mul, Nat.div_div_eq_div_mul]
    exact Nat.div_lt_of_lt_mul (by simpa [Nat.mul_comm, Nat.mul_assoc, Nat.mul_left_comm] using h)
  rw [Nat.mod_eq_of_lt h3]
  have e2 := Nat.mod_add_div (n / B64 / B64) B64
  have e1 := Nat.mod_add_div (n / B64) B64
  have e0 := Nat.mod_add_div n B64
  rw [e2, e1, e0]

theorem ofW_lt (a b c d : Nat) (ha : a < B64) (hb : b < B64) (hc : c < B64) (hd : d < B64) : ofW a b c d < M256 := by
  unfold ofW M256
  have h1 : c + B64 * d < B64 * B64 := by
    have := Nat.mul_le_mul_left B64 (Nat.succ_le_of_lt hd)
    rw [Nat.mul_succ] at this; omega
  have h2 : b + B64 * (c + B64 * d) < B64 * (B64 * B64) := by
    have := Nat.mul_le_mul_left B64 (Nat.succ_le_of_lt h1)
    rw [Nat.mul_succ] at this; omega
  have h3 : a + B64 * (b + B64 * (c + B64 * d)) < B64 * (B64 * (B64 * B64)) := by
    have := Nat.mul_le_mul_left B64 (Nat.succ_le_of_lt h2)
    rw [Nat.mul_succ] at this; omega
  simpa [Nat.mul_assoc] using h3

/-- Four words are the value of the number that they make. -/
theorem nv_ofW (a b c d : Nat) (ha : a < B64) (hb : b < B64) (hc : c < B64) (hd : d < B64) : W4 a b c d = nv (ofW a b c d) := by
  obtain ⟨e0, e1, e2, e3⟩ := wd_ofW a b c d ha hb hc hd
  simp only [W4, nv, e0, e1, e2, e3]

theorem nv_of_eq (a b c d n : Nat) (ha : a < B64) (hb : b < B64) (hc : c < B64) (hd : d < B64) (h : ofW a b c d = n) : W4 a b c d = nv n := by
  rw [nv_ofW a b c d ha hb hc hd, h]

theorem nv_inj (m n : Nat) (hm : m < M256) (hn : n < M256) (h0 : wd0 m = wd0 n) (h1 : wd1 m = wd1 n) (h2 : wd2 m = wd2 n) (h3 : wd3 m = wd3 n) : m = n := by
  rw [← ofW_wd m hm, ← ofW_wd n hn, h0, h1, h2, h3]

/-! ### adding and taking off, word by word -/
def ac (x y c : Nat) : Nat := (x + y + c) / B64
def as_ (x y c : Nat) : Nat := (x + y + c) % B64
theorem as_lt (x y c : Nat) : as_ x y c < B64 := Nat.mod_lt _ B64_pos
theorem ac_le (x y c : Nat) (hx : x < B64) (hy : y < B64) (hc : c ≤ 1) : ac x y c ≤ 1 := by
  unfold ac
  have : x + y + c < B64 * 2 := by omega
  have := Nat.div_lt_of_lt_mul this
  omega
theorem as_ac (x y c : Nat) : as_ x y c + B64 * ac x y c = x + y + c := Nat.mod_add_div _ _

def bb (x y b : Nat) : Nat := if x < y + b then 1 else 0
def bs (x y b : Nat) : Nat := (x + B64 - y - b) % B64
theorem bs_lt (x y b : Nat) : bs x y b < B64 := Nat.mod_lt _ B64_pos
theorem bb_le (x y b : Nat) : bb x y b ≤ 1 := by unfold bb; split <;> omega
theorem bs_bb (x y b : Nat) (hx : x < B64) (hy : y < B64) (hb : b ≤ 1) : bs x y b + y + b = x + B64 * bb x y b := by
  unfold bs bb
  split
  · rename_i h
    rw [Nat.mod_eq_of_lt (by omega)]; omega
  · rename_i h
    have e : x + B64 - y - b = (x - y - b) + B64 := by omega
    rw [e, Nat.add_mod_right, Nat.mod_eq_of_lt (by omega)]; omega

/-- The sum of two numbers, its words, and what is carried beyond. -/
theorem add_words (a b : Nat) (ha : a < M256) (hb : b < M256) :
    let c1 := ac (wd0 a) (wd0 b) 0
    let c2 := ac (wd1 a) (wd1 b) c1
    let c3 := ac (wd2 a) (wd2 b) c2
    let c4 := ac (wd3 a) (wd3 b) c3
    ofW (as_ (wd0 a) (wd0 b) 0) (as_ (wd1 a) (wd1 b) c1) (as_ (wd2 a) (wd2 b) c2) (as_ (wd3 a) (wd3 b) c3) + M256 * c4 = a + b ∧ c1 ≤ 1 ∧ c2 ≤ 1 ∧ c3 ≤ 1 ∧ c4 ≤ 1 := by
  intro c1 c2 c3 c4
  have l1 : c1 ≤ 1 := ac_le _ _ _ (wd0_lt _) (wd0_lt _) (by omega)
  have l2 : c2 ≤ 1 := ac_le _ _ _ (wd1_lt _) (wd1_lt _) l1
  have l3 : c3 ≤ 1 := ac_le _ _ _ (wd2_lt _) (wd2_lt _) l2
  have l4 : c4 ≤ 1 := ac_le _ _ _ (wd3_lt _) (wd3_lt _) l3
  refine ⟨?_, l1, l2, l3, l4⟩
  have e0 := as_ac (wd0 a) (wd0 b) 0
  have e1 := as_ac (wd1 a) (wd1 b) c1
  have e2 := as_ac (wd2 a) (wd2 b) c2
  have e3 := as_ac (wd3 a) (wd3 b) c3
  have ea := ofW_wd a ha
  have eb := ofW_wd b hb
  change as_ (wd0 a) (wd0 b) 0 + B64 * c1 = _ at e0
  change as_ (wd1 a) (wd1 b) c1 + B64 * c2 = _ at e1
  change as_ (wd2 a) (wd2 b) c2 + B64 * c3 = _ at e2
  change as_ (wd3 a) (wd3 b) c3 + B64 * c4 = _ at e3
  generalize as_ (wd0 a) (wd0 b) 0 = s0 at *
  generalize as_ (wd1 a) (wd1 b) c1 = s1 at *
  generalize as_ (wd2 a) (wd2 b) c2 = s2 at *
  generalize as_ (wd3 a) (wd3 b) c3 = s3 at *
  clear_value c1 c2 c3 c4
  unfold ofW at *
  rw [← ea, ← eb]
  have k0 : wd0 a + wd0 b = s0 + B64 * c1 := by omega
  have k1 : wd1 a + wd1 b + c1 = s1 + B64 * c2 := by omega
  have k2 : wd2 a + wd2 b + c2 = s2 + B64 * c3 := by omega
  have k3 : wd3 a + wd3 b + c3 = s3 + B64 * c4 := by omega
  have k3' := congrArg (B64 * ·) k3
  unfold M256
  clear e0 e1 e2 e3 ea eb ha hb
  simp only [Nat.mul_add] at *
  have m2 := congrArg (B64 * ·) k2
  have m2' := congrArg (fun t => B64 * (B64 * t)) k3
  have m1 := congrArg (B64 * ·) k1
  have m1' := congrArg (fun t => B64 * (B64 * t)) k2
  have m1'' := congrArg (fun t => B64 * (B64 * (B64 * t))) k3
  simp only [Nat.mul_add, ← Nat.mul_assoc] at *
  omega

theorem sub_words (a b : Nat) (ha : a < M256) (hb : b < M256) :
    let c1 := bb (wd0 a) (wd0 b) 0
    let c2 := bb (wd1 a) (wd1 b) c1
    let c3 := bb (wd2 a) (wd2 b) c2
    let c4 := bb (wd3 a) (wd3 b) c3
    ofW (bs (wd0 a) (wd0 b) 0) (bs (wd1 a) (wd1 b) c1) (bs (wd2 a) (wd2 b) c2) (bs (wd3 a) (wd3 b) c3) + b = a + M256 * c4 ∧ c1 ≤ 1 ∧ c2 ≤ 1 ∧ c3 ≤ 1 ∧ c4 ≤ 1 := by
  intro c1 c2 c3 c4
  have l1 : c1 ≤ 1 := bb_le _ _ _
  have l2 : c2 ≤ 1 := bb_le _ _ _
  have l3 : c3 ≤ 1 := bb_le _ _ _
  have l4 : c4 ≤ 1 := bb_le _ _ _
  refine ⟨?_, l1, l2, l3, l4⟩
  have e0 := bs_bb (wd0 a) (wd0 b) 0 (wd0_lt _) (wd0_lt _) (by omega)
  have e1 := bs_bb (wd1 a) (wd1 b) c1 (wd1_lt _) (wd1_lt _) l1
  have e2 := bs_bb (wd2 a) (wd2 b) c2 (wd2_lt _) (wd2_lt _) l2
  have e3 := bs_bb (wd3 a) (wd3 b) c3 (wd3_lt _) (wd3_lt _) l3
  have ea := ofW_wd a ha
  have eb := ofW_wd b hb
  change _ = _ + B64 * c1 at e0
  change _ = _ + B64 * c2 at e1
  change _ = _ + B64 * c3 at e2
  change _ = _ + B64 * c4 at e3
  generalize bs (wd0 a) (wd0 b) 0 = s0 at *
  generalize bs (wd1 a) (wd1 b) c1 = s1 at *
  generalize bs (wd2 a) (wd2 b) c2 = s2 at *
  generalize bs (wd3 a) (wd3 b) c3 = s3 at *
  clear_value c1 c2 c3 c4
  unfold ofW at *
  rw [← ea, ← eb]
  have k0 : s0 + wd0 b = wd0 a + B64 * c1 := by omega
  unfold M256
  clear ea eb ha hb
  have m1 := congrArg (B64 * ·) e1
  have m2 := congrArg (fun t => B64 * (B64 * t)) e2
  have m3 := congrArg (fun t => B64 * (B64 * (B64 * t))) e3
  simp only [Nat.mul_add, ← Nat.mul_assoc] at *
  omega

theorem add_mod_of (s t c : Nat) (hs : s < M256) (h : s + M256 * c = t) : t % M256 = s ∧ (c = 0 ↔ t < M256) := by
  obtain ⟨e1, e2⟩ := split_div t M256 c s M256_pos h.symm hs
  refine ⟨e1, ?_⟩
  constructor
  · rintro rfl; omega
  · intro ht; rw [← e2]; exact Nat.div_eq_of_lt ht

end Go.Proofs.Ytcedljfdnbenoaa
