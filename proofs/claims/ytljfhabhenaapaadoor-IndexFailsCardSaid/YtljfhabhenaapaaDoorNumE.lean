/-
  The contracts of package num's Cmp, Len.
-/
import Derived.Test.YtljfhabhenaapaaDoorNumD
namespace Go.Proofs.YtljfhabhenaapaaDoor
open Go.RowKit
set_option maxRecDepth 100000
set_option linter.unusedVariables false

def cmpI (a b : Nat) : Int := if a < b then -1 else if a = b then 0 else 1

theorem ret_i64 {a b : Int} (h : a = b) : Ending.returned (.int .i64 a) = .returned (.int .i64 b) := by rw [h]

set_option maxRecDepth 100000 in
set_option maxHeartbeats 2000000 in
theorem cmp_any (a b : Nat) (w : World) (ha : a < M256) (hb : b < M256) :
    Calls Tryd.prog 51 #[nv a, nv b] w fun e w' => e = .returned (.int .i64 (cmpI a b)) ∧ Below w.heap.size w w' := by
  have he := nv_eql a b ha hb
  by_cases hq : a = b
  · have hc : cmpI a b = 0 := by unfold cmpI; rw [if_neg (by omega), if_pos hq]
    have HC := Lib.hid hc
    clear hc
    rw [decide_eq_true hq] at he
    have HQ := Lib.hid hq
    clear hq
    go_enter Tryd.func51, Tryd.ntmps51
    go_wp2_with fail
    go_ret
    refine ⟨ret_i64 HC.out.symm, ?_⟩
    repeat (first | exact Below.refl _ _ | refine Below.drew ?_ | refine Below.alloc ?_ (by first | omega | (simp; done) | (simp; omega)) _)
  · rw [decide_eq_false hq] at he
    have HQ := Lib.hid hq
    clear hq
    by_cases hl : a < b
    · have hc : cmpI a b = -1 := by unfold cmpI; rw [if_pos hl]
      have hd : decide (a < b) = true := decide_eq_true hl
      have HC := Lib.hid hc
      have HD := Lib.hid hd
      clear hc hl hd
      go_enter Tryd.func51, Tryd.ntmps51
      go_wp2_with fail
      refine (sub_any a b _ ha hb).mono ?_
      rw [HD.out]
      rintro e w1 ⟨rfl, hb1⟩
      have hz1 := hb1.size
      simp at hz1
      go_wp2_with fail
      go_ret
      refine ⟨ret_i64 HC.out.symm, ?_⟩
      repeat (first | exact Below.refl _ _ | refine Below.drew ?_ | refine Below.alloc ?_ (by first | omega | (simp; done) | (simp; omega)) _ | refine Below.trans ?_ (Below.mono hb1 (by first | omega | (simp; done) | (simp; omega))))
    · have hc : cmpI a b = 1 := by unfold cmpI; rw [if_neg hl, if_neg HQ.out]
      have hd : decide (a < b) = false := decide_eq_false hl
      have HC := Lib.hid hc
      have HD := Lib.hid hd
      clear hc hl hd
      go_enter Tryd.func51, Tryd.ntmps51
      go_wp2_with fail
      refine (sub_any a b _ ha hb).mono ?_
      rw [HD.out]
      rintro e w1 ⟨rfl, hb1⟩
      have hz1 := hb1.size
      simp at hz1
      go_wp2_with fail
      go_ret
      refine ⟨ret_i64 HC.out.symm, ?_⟩
      repeat (first | exact Below.refl _ _ | refine Below.drew ?_ | refine Below.alloc ?_ (by first | omega | (simp; done) | (simp; omega)) _ | refine Below.trans ?_ (Below.mono hb1 (by first | omega | (simp; done) | (simp; omega))))

/-! ### how many bits a number has -/
def blen (n : Nat) : Nat := Lib.bitLenAux 256 n

theorem aux_spec : ∀ (f n : Nat), n < 2 ^ f → n < 2 ^ Lib.bitLenAux f n ∧ (n ≠ 0 → 2 ^ Lib.bitLenAux f n ≤ 2 * n) ∧ (n = 0 → Lib.bitLenAux f n = 0)
  | 0, n, h => by
    have : n = 0 := by simpa using h
    subst this
    simp [Lib.bitLenAux]
  | f + 1, n, h => by
    simp only [Lib.bitLenAux]
    by_cases h0 : n = 0
    · subst h0; simp
    · rw [if_neg h0]
      obtain ⟨i1, i2, _⟩ := aux_spec f (n / 2) (by rw [Nat.pow_succ] at h; omega)
      have e : 2 ^ (1 + Lib.bitLenAux f (n / 2)) = 2 * 2 ^ Lib.bitLenAux f (n / 2) := by rw [Nat.add_comm, Nat.pow_succ, Nat.mul_comm]
      rw [e]
      refine ⟨by omega, fun _ => ?_, fun hn => absurd hn h0⟩
      by_cases h2 : n / 2 = 0
      · rw [h2]
        have : Lib.bitLenAux f 0 = 0 := by cases f <;> simp [Lib.bitLenAux]
        rw [this]; omega
      · have := i2 h2; omega

theorem len_unique (n k m : Nat) (h1 : n < 2 ^ k) (h2 : 2 ^ k ≤ 2 * n) (h3 : n < 2 ^ m) (h4 : 2 ^ m ≤ 2 * n) : k = m := by
  rcases Nat.lt_trichotomy k m with h | h | h
  · have := Nat.pow_le_pow_right (n := 2) (by omega) (Nat.succ_le_of_lt h)
    rw [Nat.pow_succ] at this; omega
  · exact h
  · have := Nat.pow_le_pow_right (n := 2) (by omega) (Nat.succ_le_of_lt h)
    rw [Nat.pow_succ] at this; omega

theorem M256_pow : M256 = 2 ^ 256 := by kernel_rfl
theorem B64_pow : B64 = 2 ^ 64 := by kernel_rfl

theorem blen_spec (n : Nat) (h : n < M256) : n < 2 ^ blen n ∧ (n ≠ 0 → 2 ^ blen n ≤ 2 * n) ∧ (n = 0 → blen n = 0) := aux_spec 256 n (by rw [← M256_pow]; exact h)
theorem blen_le (n : Nat) (h : n < M256) : blen n ≤ 256 := Lib.bitLenAux_le 256 n 256 (by rw [← M256_pow]; exact h)

/-- The length of a number whose highest word that isn't nought is x, with i whole words below. -/
theorem blen_top (n x low i : Nat) (hx0 : x ≠ 0) (hx : x < B64) (hlow : low < 2 ^ (64 * i)) (hn : n = low + 2 ^ (64 * i) * x) (hM : n < M256) : blen n = 64 * i + Lib.bitLen x := by
  obtain ⟨b1, b2, _⟩ := aux_spec 64 x (by rw [← B64_pow]; exact hx)
  have b2 := b2 hx0
  change x < 2 ^ Lib.bitLen x at b1
  change 2 ^ Lib.bitLen x ≤ 2 * x at b2
  obtain ⟨c1, c2, _⟩ := blen_spec n hM
  have hp : 0 < 2 ^ (64 * i) := Nat.two_pow_pos _
  have hne : n ≠ 0 := by
    have := Nat.mul_pos hp (Nat.pos_of_ne_zero hx0); omega
  refine len_unique n _ _ c1 (c2 hne) ?_ ?_
  · rw [Nat.pow_add, hn]
    have := Nat.mul_le_mul_left (2 ^ (64 * i)) (Nat.succ_le_of_lt b1)
    rw [Nat.mul_succ] at this; omega
  · rw [Nat.pow_add, hn]
    have := Nat.mul_le_mul_left (2 ^ (64 * i)) b2
    rw [Nat.mul_left_comm] at this; omega

theorem blen_words (a b c d : Nat) (ha : a < B64) (hb : b < B64) (hc : c < B64) (hd : d < B64) :
    blen (ofW a b c d) = if d ≠ 0 then 192 + Lib.bitLen d else if c ≠ 0 then 128 + Lib.bitLen c else if b ≠ 0 then 64 + Lib.bitLen b else if a ≠ 0 then Lib.bitLen a else 0 := by
  have hM := ofW_lt a b c d ha hb hc hd
  have e1 : 2 ^ (64 * 1) = B64 := by kernel_rfl
  have e2 : 2 ^ (64 * 2) = B64 * B64 := by kernel_rfl
  have e3 : 2 ^ (64 * 3) = B64 * B64 * B64 := by kernel_rfl
  have hp := B64_pos
  have g2 : a + B64 * b < B64 * B64 := by
    have := Nat.mul_le_mul_left B64 (Nat.succ_le_of_lt hb)
    rw [Nat.mul_succ] at this; omega
  have g3 : a + B64 * (b + B64 * c) < B64 * B64 * B64 := by
    have h1 : b + B64 * c < B64 * B64 := by
      have := Nat.mul_le_mul_left B64 (Nat.succ_le_of_lt hc)
      rw [Nat.mul_succ] at this; omega
    have := Nat.mul_le_mul_left B64 (Nat.succ_le_of_lt h1)
    rw [Nat.mul_succ] at this
    rw [Nat.mul_assoc]; omega
  by_cases h3 : d = 0
  · rw [if_neg (by simpa using h3)]
    by_cases h2 : c = 0
    · rw [if_neg (by simpa using h2)]
      by_cases h1 : b = 0
      · rw [if_neg (by simpa using h1)]
        by_cases h0 : a = 0
        · rw [if_neg (by simpa using h0)]
          subst h0 h1 h2 h3
          exact (blen_spec _ hM).2.2 (by unfold ofW; simp)
        · rw [if_pos h0]
          have := blen_top (ofW a b c d) a 0 0 h0 ha (by simp) (by subst h1 h2 h3; unfold ofW; simp) hM
          simpa using this
      · rw [if_pos h1]
        exact blen_top (ofW a b c d) b a 1 h1 hb (by rw [e1]; exact ha) (by subst h2 h3; unfold ofW; rw [e1]; simp) hM
    · rw [if_pos h2]
      exact blen_top (ofW a b c d) c (a + B64 * b) 2 h2 hc (by rw [e2]; exact g2) (by subst h3; unfold ofW; rw [e2]; simp [Nat.mul_add, Nat.mul_assoc, Nat.add_assoc]) hM
  · rw [if_pos h3]
    exact blen_top (ofW a b c d) d (a + B64 * (b + B64 * c)) 3 h3 hd (by rw [e3]; exact g3) (by unfold ofW; rw [e3]; simp [Nat.mul_add, Nat.mul_assoc, Nat.add_assoc]) hM

theorem len64c (x : Nat) (hx : x < B64) (w : World) : Calls Tryd.prog 72 #[.int .u64 (x : Int)] w fun e w' => e = .returned (.int .i64 (Lib.bitLen x : Int)) ∧ w' = w := by
  have := Tryd.bits_Len64 (x : Int) w (by omega) (by unfold B64 at hx; omega)
  simpa using this

theorem ne0_true {n : Nat} (h : n ≠ 0) : (((n : Nat) : Int) != 0) = true := by simp; omega
theorem ne0_false {n : Nat} (h : n = 0) : (((n : Nat) : Int) != 0) = false := by simp [h]

set_option maxRecDepth 100000 in
set_option maxHeartbeats 2000000 in
theorem len_walk (a0 a1 a2 a3 : Nat) (w : World) (h0 : a0 < B64) (h1 : a1 < B64) (h2 : a2 < B64) (h3 : a3 < B64) :
    Calls Tryd.prog 56 #[W4 a0 a1 a2 a3] w fun e w' => e = .returned (.int .i64 (blen (ofW a0 a1 a2 a3) : Int)) ∧ Below w.heap.size w w' := by
  have b0 := Lib.bitLen_le a0 64 (by omega) (by rw [← B64_pow]; exact h0)
  have b1 := Lib.bitLen_le a1 64 (by omega) (by rw [← B64_pow]; exact h1)
  have b2 := Lib.bitLen_le a2 64 (by omega) (by rw [← B64_pow]; exact h2)
  have b3 := Lib.bitLen_le a3 64 (by omega) (by rw [← B64_pow]; exact h3)
  have HB := Lib.hid (blen_words a0 a1 a2 a3 h0 h1 h2 h3)
  by_cases e3 : a3 = 0
  · have z3 := ne0_false e3
    by_cases e2 : a2 = 0
    · have z2 := ne0_false e2
      by_cases e1 : a1 = 0
      · have z1 := ne0_false e1
        by_cases e0 : a0 = 0
        · have z0 := ne0_false e0
          have hv : Hid (blen (ofW a0 a1 a2 a3) = 0) := by show _ = _; rw [HB.out]; simp [e0, e1, e2, e3]
          have E0 := Lib.hid e0
          have E1 := Lib.hid e1
          have E2 := Lib.hid e2
          have E3 := Lib.hid e3
          clear e0 e1 e2 e3 HB
          go_enter Tryd.func56, Tryd.ntmps56
          go_wp2_with fail
          refine wp_loop_rounds 5 ?_
          iterate 5
            rw [rounds_succ]
            go_wp2_with fail
          go_ret
          refine ⟨ret_i64 (by rw [hv.out]; rfl), ?_⟩
          repeat (first | exact Below.refl _ _ | refine Below.drew ?_ | refine Below.alloc ?_ (by first | omega | (simp; done) | (simp; omega)) _)
        · have z0 := ne0_true e0
          have hv : Hid (blen (ofW a0 a1 a2 a3) = Lib.bitLen a0) := by show _ = _; rw [HB.out]; simp [e0, e1, e2, e3]
          have E1 := Lib.hid e1
          have E2 := Lib.hid e2
          have E3 := Lib.hid e3
          clear e0 e1 e2 e3 HB
          go_enter Tryd.func56, Tryd.ntmps56
          go_wp2_with fail
          refine wp_loop_rounds 5 ?_
          iterate 4
            rw [rounds_succ]
            go_wp2_with fail
          refine (len64c a0 h0 _).mono ?_
          rintro e w' ⟨rfl, hw⟩
          rw [hw]
          clear hw
          go_wp2_with fail
          go_ret
          refine ⟨ret_i64 (by rw [hv.out]; try rfl), ?_⟩
          repeat (first | exact Below.refl _ _ | refine Below.drew ?_ | refine Below.alloc ?_ (by first | omega | (simp; done) | (simp; omega)) _)
      · have z1 := ne0_true e1
        have hv : Hid (blen (ofW a0 a1 a2 a3) = 64 + Lib.bitLen a1) := by show _ = _; rw [HB.out]; simp [e1, e2, e3]
        have E2 := Lib.hid e2
        have E3 := Lib.hid e3
        clear e1 e2 e3 HB
        go_enter Tryd.func56, Tryd.ntmps56
        go_wp2_with fail
        refine wp_loop_rounds 5 ?_
        iterate 3
          rw [rounds_succ]
          go_wp2_with fail
        refine (len64c a1 h1 _).mono ?_
        rintro e w' ⟨rfl, hw⟩
        rw [hw]
        clear hw
        go_wp2_with fail
        go_ret
        refine ⟨ret_i64 (by rw [hv.out]; omega), ?_⟩
        repeat (first | exact Below.refl _ _ | refine Below.drew ?_ | refine Below.alloc ?_ (by first | omega | (simp; done) | (simp; omega)) _)
    · have z2 := ne0_true e2
      have hv : Hid (blen (ofW a0 a1 a2 a3) = 128 + Lib.bitLen a2) := by show _ = _; rw [HB.out]; simp [e2, e3]
      have E3 := Lib.hid e3
      clear e2 e3 HB
      go_enter Tryd.func56, Tryd.ntmps56
      go_wp2_with fail
      refine wp_loop_rounds 5 ?_
      iterate 2
        rw [rounds_succ]
        go_wp2_with fail
      refine (len64c a2 h2 _).mono ?_
      rintro e w' ⟨rfl, hw⟩
      rw [hw]
      clear hw
      go_wp2_with fail
      go_ret
      refine ⟨ret_i64 (by rw [hv.out]; omega), ?_⟩
      repeat (first | exact Below.refl _ _ | refine Below.drew ?_ | refine Below.alloc ?_ (by first | omega | (simp; done) | (simp; omega)) _)
  · have z3 := ne0_true e3
    have hv : Hid (blen (ofW a0 a1 a2 a3) = 192 + Lib.bitLen a3) := by show _ = _; rw [HB.out]; simp [e3]
    clear e3 HB
    go_enter Tryd.func56, Tryd.ntmps56
    go_wp2_with fail
    refine wp_loop_rounds 5 ?_
    rw [rounds_succ]
    go_wp2_with fail
    refine (len64c a3 h3 _).mono ?_
    rintro e w' ⟨rfl, hw⟩
    rw [hw]
    clear hw
    go_wp2_with fail
    go_ret
    refine ⟨ret_i64 (by rw [hv.out]; omega), ?_⟩
    repeat (first | exact Below.refl _ _ | refine Below.drew ?_ | refine Below.alloc ?_ (by first | omega | (simp; done) | (simp; omega)) _)

theorem len_any (n : Nat) (w : World) (h : n < M256) :
    Calls Tryd.prog 56 #[nv n] w fun e w' => e = .returned (.int .i64 (blen n : Int)) ∧ Below w.heap.size w w' := by
  have := len_walk (wd0 n) (wd1 n) (wd2 n) (wd3 n) w (wd0_lt n) (wd1_lt n) (wd2_lt n) (wd3_lt n)
  rwa [ofW_wd n h] at this
end Go.Proofs.YtljfhabhenaapaaDoor
