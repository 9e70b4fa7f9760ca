/-
  The contracts of package num's Shl, Shr, in numbers.
-/
import Derived.Test.YtljfhabhenaapaaDoorNumF
import Derived.Test.YtljfhabhenaapaaDoorBasZ
namespace Go.Proofs.YtljfhabhenaapaaDoor
open Go.RowKit
set_option maxRecDepth 100000
set_option linter.unusedVariables false

theorem ofW_step (N x y z t c : Nat) (h : N = ofW x y z t + M256 * c) : N * B64 = ofW 0 x y z + M256 * (t + c * B64) := by
  subst h
  unfold ofW M256
  simp only [Nat.add_mul, Nat.mul_add, Nat.mul_assoc, Nat.zero_add]
  simp only [Nat.mul_comm, Nat.mul_left_comm]
  omega

theorem ofW_drop (x y z t : Nat) (hx : x < B64) : ofW x y z t / B64 = ofW y z t 0 := by
  unfold ofW
  rw [Nat.add_mul_div_left _ _ B64_pos, Nat.div_eq_of_lt hx]
  simp

theorem pow_split (k r : Nat) : 2 ^ (64 * k + r) = 2 ^ r * B64 ^ k := by
  rw [Nat.add_comm, Nat.pow_add, Nat.pow_mul, B64_pow]

theorem shl0 (r x : Nat) (h : r < 64) : 2 ^ r * (x % 2 ^ (64 - r)) < B64 := by
  have h1 := pq r h
  have h2 : x % 2 ^ (64 - r) < 2 ^ (64 - r) := Nat.mod_lt _ (Nat.two_pow_pos _)
  have := Nat.mul_lt_mul_of_pos_left h2 (Nat.two_pow_pos r)
  omega

theorem nv_of_mod (a b c d N e : Nat) (ha : a < B64) (hb : b < B64) (hc : c < B64) (hd : d < B64) (h : N = ofW a b c d + M256 * e) : W4 a b c d = nv (N % M256) := by
  refine nv_of_eq a b c d _ ha hb hc hd ?_
  obtain ⟨e1, _⟩ := split_div N M256 e (ofW a b c d) M256_pos (by omega) (ofW_lt a b c d ha hb hc hd)
  exact e1.symm

theorem shl_any (a n : Nat) (w : World) (ha : a < M256) (hn : n < 256) :
    Calls Tryd.prog 74 #[nv a, .int .i64 (n : Int)] w fun e w' => e = .returned (nv (a * 2 ^ n % M256)) ∧ Below w.heap.size w w' := by
  obtain ⟨k, r, hk, hr, rfl⟩ : ∃ k r, k < 4 ∧ r < 64 ∧ n = 64 * k + r := ⟨n / 64, n % 64, by omega, by omega, by omega⟩
  have hw := shl_words (wd0 a) (wd1 a) (wd2 a) (wd3 a) (2 ^ r) (2 ^ (64 - r)) (pq r hr)
  rw [ofW_wd a ha] at hw
  unfold S0 S1 at hw
  obtain ⟨j1, l1⟩ := shl_join r (wd1 a) (wd0 a) hr (wd0_lt a)
  obtain ⟨j2, l2⟩ := shl_join r (wd2 a) (wd1 a) hr (wd1_lt a)
  obtain ⟨j3, l3⟩ := shl_join r (wd3 a) (wd2 a) hr (wd2_lt a)
  have j0 := shl_word r (wd0 a) hr
  have l0 := shl0 r (wd0 a) hr
  have E0 := hw.symm
  have E1 := ofW_step _ _ _ _ _ _ E0
  have E2 := ofW_step _ _ _ _ _ _ E1
  have E3 := ofW_step _ _ _ _ _ _ E2
  have hq : ((64 * k + r : Nat) : Int) / 64 = (k : Int) := by omega
  have hm : ((64 * k + r : Nat) : Int) % 64 = (r : Int) := by omega
  rw [pow_split]
  have hk4 : k = 0 ∨ k = 1 ∨ k = 2 ∨ k = 3 := by omega
  rcases hk4 with rfl | rfl | rfl | rfl
  · refine (shl_walk0 _ _ _ _ _ _ w (by omega) (by omega) hq hm (by omega) (by omega)).mono ?_
    rintro e w' ⟨rfl, hb⟩
    refine ⟨?_, hb⟩
    rw [j0, j1, j2, j3, Nat.pow_zero, Nat.mul_one]
    exact congrArg Ending.returned (nv_of_mod _ _ _ _ _ _ l0 l1 l2 l3 E0)
  · refine (shl_walk1 _ _ _ _ _ _ w (by omega) (by omega) hq hm (by omega) (by omega)).mono ?_
    rintro e w' ⟨rfl, hb⟩
    refine ⟨?_, hb⟩
    rw [j0, j1, j2, Nat.pow_one, ← Nat.mul_assoc]
    exact congrArg Ending.returned (nv_of_mod _ _ _ _ _ _ B64_pos l0 l1 l2 E1)
  · refine (shl_walk2 _ _ _ _ _ _ w (by omega) (by omega) hq hm (by omega) (by omega)).mono ?_
    rintro e w' ⟨rfl, hb⟩
    refine ⟨?_, hb⟩
    rw [j0, j1, show B64 ^ 2 = B64 * B64 from by rw [Nat.pow_succ, Nat.pow_one], ← Nat.mul_assoc, ← Nat.mul_assoc]
    exact congrArg Ending.returned (nv_of_mod _ _ _ _ _ _ B64_pos B64_pos l0 l1 E2)
  · refine (shl_walk3 _ _ _ _ _ _ w (by omega) (by omega) hq hm (by omega) (by omega)).mono ?_
    rintro e w' ⟨rfl, hb⟩
    refine ⟨?_, hb⟩
    rw [j0, show B64 ^ 3 = B64 * B64 * B64 from by rw [Nat.pow_succ, Nat.pow_succ, Nat.pow_one], ← Nat.mul_assoc, ← Nat.mul_assoc, ← Nat.mul_assoc]
    exact congrArg Ending.returned (nv_of_mod _ _ _ _ _ _ B64_pos B64_pos B64_pos l0 E3)

theorem nv_zero : nv 0 = I4 0 0 0 0 := by rw [nv_small 0 B64_pos]; rfl

theorem shl_none (a : Nat) (n : Int) (w : World) (h : n < 0 ∨ 256 ≤ n) :
    Calls Tryd.prog 74 #[nv a, .int .i64 n] w fun e w' => e = .returned (nv 0) ∧ Below w.heap.size w w' := by
  rw [nv_zero]; exact shl_out _ _ _ _ n w h
end Go.Proofs.YtljfhabhenaapaaDoor
