/-
  The contracts of package num's Mul, Len, Cmp.
-/
import Derived.Test.YtljfhabhenaapaaDoorNumC
import Derived.Test.YtljfhabhenaapaaDoorShelf
namespace Go.Proofs.YtljfhabhenaapaaDoor
open Go.RowKit
set_option maxRecDepth 100000
set_option linter.unusedVariables false


/-! ### the plain law of a product, word by word -/
def mq (a n e : Nat) : Nat := (a * n + e) / B64
def mr (a n e : Nat) : Nat := (a * n + e) % B64
theorem mr_lt (a n e : Nat) : mr a n e < B64 := Nat.mod_lt _ B64_pos
theorem mr_mq (a n e : Nat) : mr a n e + B64 * mq a n e = a * n + e := Nat.mod_add_div _ _
theorem mq_lt (a n e : Nat) (ha : a < B64) (hn : n < B64) (he : e < B64) : mq a n e < B64 := by
  unfold mq
  apply Nat.div_lt_of_lt_mul
  have h1 : a * n ≤ (B64 - 1) * (B64 - 1) := Nat.mul_le_mul (by omega) (by omega)
  have h2 : (B64 - 1) * (B64 - 1) + B64 ≤ B64 * B64 := by unfold B64; omega
  omega
theorem mq_split (a n e : Nat) (_he : e < B64) : a * n / B64 + ac (a * n % B64) e 0 = mq a n e ∧ as_ (a * n % B64) e 0 = mr a n e := by
  have h := Nat.mod_add_div (a * n) B64
  unfold ac as_ mq mr
  generalize a * n / B64 = q at *
  generalize a * n % B64 = r at *
  rw [← h, Nat.add_zero]
  have e1 : r + B64 * q + e = r + e + B64 * q := by omega
  rw [e1]
  exact ⟨by rw [Nat.add_mul_div_left _ _ B64_pos]; omega, by rw [Nat.add_mul_mod_self_left]⟩

theorem mul_words (a n : Nat) (ha : a < M256) (hn : n < B64) :
    let e1 := mq (wd0 a) n 0
    let e2 := mq (wd1 a) n e1
    let e3 := mq (wd2 a) n e2
    let e4 := mq (wd3 a) n e3
    ofW (mr (wd0 a) n 0) (mr (wd1 a) n e1) (mr (wd2 a) n e2) (mr (wd3 a) n e3) + M256 * e4 = a * n ∧ e1 < B64 ∧ e2 < B64 ∧ e3 < B64 ∧ e4 < B64 := by
  intro e1 e2 e3 e4
  have l1 : e1 < B64 := mq_lt _ _ _ (wd0_lt _) hn B64_pos
  have l2 : e2 < B64 := mq_lt _ _ _ (wd1_lt _) hn l1
  have l3 : e3 < B64 := mq_lt _ _ _ (wd2_lt _) hn l2
  have l4 : e4 < B64 := mq_lt _ _ _ (wd3_lt _) hn l3
  refine ⟨?_, l1, l2, l3, l4⟩
  have k0 := mr_mq (wd0 a) n 0
  have k1 := mr_mq (wd1 a) n e1
  have k2 := mr_mq (wd2 a) n e2
  have k3 := mr_mq (wd3 a) n e3
  have ea := ofW_wd a ha
  change _ + B64 * e1 = _ at k0
  change _ + B64 * e2 = _ at k1
  change _ + B64 * e3 = _ at k2
  change _ + B64 * e4 = _ at k3
  have h : a * n = wd0 a * n + B64 * (wd1 a * n + B64 * (wd2 a * n + B64 * (wd3 a * n))) := by
    conv => lhs; rw [← ea]
    unfold ofW
    simp only [Nat.add_mul, Nat.mul_assoc, Nat.mul_add]
  rw [h]
  generalize mr (wd0 a) n 0 = s0 at *
  generalize mr (wd1 a) n e1 = s1 at *
  generalize mr (wd2 a) n e2 = s2 at *
  generalize mr (wd3 a) n e3 = s3 at *
  generalize wd0 a * n = p0 at *
  generalize wd1 a * n = p1 at *
  generalize wd2 a * n = p2 at *
  generalize wd3 a * n = p3 at *
  clear_value e1 e2 e3 e4
  unfold ofW M256
  clear ea h ha
  have m1 := congrArg (B64 * ·) k1
  have m2 := congrArg (fun t => B64 * (B64 * t)) k2
  have m3 := congrArg (fun t => B64 * (B64 * (B64 * t))) k3
  simp only [Nat.mul_add, ← Nat.mul_assoc] at *
  omega

set_option maxRecDepth 100000 in
set_option maxHeartbeats 2000000 in
theorem mul_walk (a0 a1 a2 a3 n h0 h1 h2 h3 l0 l1 l2 l3 s0 s1 s2 s3 k0 k1 k2 k3 e1 e2 e3 e4 : Int) (w : World)
    (m0 : ∀ w : World, Calls Tryd.prog 90 #[.int .u64 a0, .int .u64 n] w fun e w' => e = .returned (.tuple #[.int .u64 h0, .int .u64 l0]) ∧ w' = w)
    (m1 : ∀ w : World, Calls Tryd.prog 90 #[.int .u64 a1, .int .u64 n] w fun e w' => e = .returned (.tuple #[.int .u64 h1, .int .u64 l1]) ∧ w' = w)
    (m2 : ∀ w : World, Calls Tryd.prog 90 #[.int .u64 a2, .int .u64 n] w fun e w' => e = .returned (.tuple #[.int .u64 h2, .int .u64 l2]) ∧ w' = w)
    (m3 : ∀ w : World, Calls Tryd.prog 90 #[.int .u64 a3, .int .u64 n] w fun e w' => e = .returned (.tuple #[.int .u64 h3, .int .u64 l3]) ∧ w' = w)
    (r0 : ∀ w : World, (callFunc 53 #[.int .u64 l0, .int .u64 0, .int .u64 0]).run Tryd.prog w = .ok (.value (.tuple #[.int .u64 s0, .int .u64 k0])) w)
    (r1 : ∀ w : World, (callFunc 53 #[.int .u64 l1, .int .u64 e1, .int .u64 0]).run Tryd.prog w = .ok (.value (.tuple #[.int .u64 s1, .int .u64 k1])) w)
    (r2 : ∀ w : World, (callFunc 53 #[.int .u64 l2, .int .u64 e2, .int .u64 0]).run Tryd.prog w = .ok (.value (.tuple #[.int .u64 s2, .int .u64 k2])) w)
    (r3 : ∀ w : World, (callFunc 53 #[.int .u64 l3, .int .u64 e3, .int .u64 0]).run Tryd.prog w = .ok (.value (.tuple #[.int .u64 s3, .int .u64 k3])) w)
    (b1 : IntKind.u64.wrap (h0 + k0) = e1) (b2 : IntKind.u64.wrap (h1 + k1) = e2) (b3 : IntKind.u64.wrap (h2 + k2) = e3) (b4 : IntKind.u64.wrap (h3 + k3) = e4) :
    Calls Tryd.prog 75 #[I4 a0 a1 a2 a3, .int .u64 n] w fun e w' => e = .returned (.tuple #[I4 s0 s1 s2 s3, .bool (e4 != 0)]) ∧ Below w.heap.size w w' := by
  have i0 : ∀ w : World, (Instr.index 43 (I4 a0 a1 a2 a3) (.int .i64 0)).run Tryd.prog w = .ok (.int .u64 a0) w := fun _ => by kernel_rfl
  have i1 : ∀ w : World, (Instr.index 43 (I4 a0 a1 a2 a3) (.int .i64 1)).run Tryd.prog w = .ok (.int .u64 a1) w := fun _ => by kernel_rfl
  have i2 : ∀ w : World, (Instr.index 43 (I4 a0 a1 a2 a3) (.int .i64 2)).run Tryd.prog w = .ok (.int .u64 a2) w := fun _ => by kernel_rfl
  have i3 : ∀ w : World, (Instr.index 43 (I4 a0 a1 a2 a3) (.int .i64 3)).run Tryd.prog w = .ok (.int .u64 a3) w := fun _ => by kernel_rfl
  have HM0 := Lib.hid m0
  have HM1 := Lib.hid m1
  have HM2 := Lib.hid m2
  have HM3 := Lib.hid m3
  clear m0 m1 m2 m3
  go_enter Tryd.func75, Tryd.ntmps75
  go_wp2
  refine wp_loop_rounds 5 ?_
  rw [rounds_succ]
  go_wp2_with fail
  refine (HM0.out _).mono ?_
  rintro e w' ⟨rfl, hw⟩
  rw [hw]
  clear hw
  go_wp2_with fail
  rw [rounds_succ]
  go_wp2_with fail
  refine (HM1.out _).mono ?_
  rintro e w' ⟨rfl, hw⟩
  rw [hw]
  clear hw
  go_wp2_with fail
  rw [rounds_succ]
  go_wp2_with fail
  refine (HM2.out _).mono ?_
  rintro e w' ⟨rfl, hw⟩
  rw [hw]
  clear hw
  go_wp2_with fail
  rw [rounds_succ]
  go_wp2_with fail
  refine (HM3.out _).mono ?_
  rintro e w' ⟨rfl, hw⟩
  rw [hw]
  clear hw
  go_wp2_with fail
  rw [rounds_succ]
  go_wp2_with fail
  refine bodyPost_ret (v := .tuple #[I4 s0 s1 s2 s3, .bool (e4 != 0)]) (by simp [results, Tryd.results75, go_sem]) rfl ⟨rfl, ?_⟩
  repeat (first | exact Below.refl _ _ | refine Below.drew ?_ | refine Below.alloc ?_ (by first | omega | (simp; done) | (simp; omega)) _)

theorem mul64c (x y : Nat) (hx : x < B64) (hy : y < B64) (w : World) : Calls Tryd.prog 90 #[.int .u64 (x : Int), .int .u64 (y : Int)] w fun e w' => e = .returned (.tuple #[.int .u64 ((x * y / B64 : Nat) : Int), .int .u64 ((x * y % B64 : Nat) : Int)]) ∧ w' = w :=
  Tryd.bits_Mul64 x y hx hy w
theorem add64z (x y : Nat) (w : World) : (callFunc 53 #[.int .u64 (x : Int), .int .u64 (y : Int), .int .u64 0]).run Tryd.prog w = .ok (.value (.tuple #[.int .u64 (as_ x y 0 : Int), .int .u64 (ac x y 0 : Int)])) w := by
  simpa using add64_run x y 0 (by omega) w
theorem wrap_u64_nat (x y z : Nat) (h : x + y = z) (hz : z < B64) : IntKind.u64.wrap ((x : Int) + (y : Int)) = (z : Int) := by
  rw [IntKind.wrap_u64]
  unfold B64 at hz
  omega

theorem mul_any (a n : Nat) (w : World) (ha : a < M256) (hn : n < B64) :
    Calls Tryd.prog 75 #[nv a, .int .u64 (n : Int)] w fun e w' => e = .returned (.tuple #[nv (a * n % M256), .bool (decide (M256 ≤ a * n))]) ∧ Below w.heap.size w w' := by
  obtain ⟨hs, l1, l2, l3, l4⟩ := mul_words a n ha hn
  have p0 := mq_split (wd0 a) n 0 B64_pos
  have p1 := mq_split (wd1 a) n _ l1
  have p2 := mq_split (wd2 a) n _ l2
  have p3 := mq_split (wd3 a) n _ l3
  have hlt := ofW_lt _ _ _ _ (mr_lt (wd0 a) n 0) (mr_lt (wd1 a) n (mq (wd0 a) n 0)) (mr_lt (wd2 a) n (mq (wd1 a) n (mq (wd0 a) n 0))) (mr_lt (wd3 a) n (mq (wd2 a) n (mq (wd1 a) n (mq (wd0 a) n 0))))
  refine (mul_walk _ _ _ _ _ _ _ _ _ _ _ _ _ _ _ _ _ _ _ _ _ _ _ _ _ w (mul64c _ _ (wd0_lt a) hn) (mul64c _ _ (wd1_lt a) hn) (mul64c _ _ (wd2_lt a) hn) (mul64c _ _ (wd3_lt a) hn)
    (fun w => add64z _ 0 w) (fun w => add64z _ _ w) (fun w => add64z _ _ w) (fun w => add64z _ _ w)
    (wrap_u64_nat _ _ _ p0.1 l1) (wrap_u64_nat _ _ _ p1.1 l2) (wrap_u64_nat _ _ _ p2.1 l3) (wrap_u64_nat _ _ _ p3.1 l4)).mono ?_
  rintro e w' ⟨rfl, hb'⟩
  refine ⟨?_, hb'⟩
  rw [p0.2, p1.2, p2.2, p3.2]
  obtain ⟨q1, q2⟩ := add_mod_of _ _ _ hlt hs
  rw [ne_zero_bool _ (M256 ≤ a * n) (by rw [q2]; omega)]
  have e := nv_of_eq _ _ _ _ (a * n % M256) (mr_lt (wd0 a) n 0) (mr_lt (wd1 a) n (mq (wd0 a) n 0)) (mr_lt (wd2 a) n (mq (wd1 a) n (mq (wd0 a) n 0))) (mr_lt (wd3 a) n (mq (wd2 a) n (mq (wd1 a) n (mq (wd0 a) n 0)))) q1.symm
  exact congrArg (fun x => Ending.returned (.tuple #[x, _])) e

end Go.Proofs.YtljfhabhenaapaaDoor
