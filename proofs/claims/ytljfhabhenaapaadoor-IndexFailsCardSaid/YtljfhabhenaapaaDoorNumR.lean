/-
  The contract of package num's Shr.
-/
import Derived.Test.YtljfhabhenaapaaDoorNumG
namespace Go.Proofs.YtljfhabhenaapaaDoor
open Go.RowKit
set_option maxRecDepth 100000
set_option linter.unusedVariables false

set_option maxRecDepth 100000 in
set_option maxHeartbeats 4000000 in
theorem shr_walk0 (a0 a1 a2 a3 n r : Int) (w : World) (h0 : 0 ≤ n) (h1 : n < 256) (hq : n / 64 = 0) (hr : n % 64 = r) (r0 : 0 ≤ r) (r1 : r < 64) :
    Calls Tryd.prog 73 #[I4 a0 a1 a2 a3, .int .i64 n] w fun e w' => e = .returned (I4 (bits BinOp.or IntKind.u64 (a0 / 2 ^ r.toNat) (IntKind.u64.wrap (a1 * 2 ^ (64 - r).toNat))) (bits BinOp.or IntKind.u64 (a1 / 2 ^ r.toNat) (IntKind.u64.wrap (a2 * 2 ^ (64 - r).toNat))) (bits BinOp.or IntKind.u64 (a2 / 2 ^ r.toNat) (IntKind.u64.wrap (a3 * 2 ^ (64 - r).toNat))) (a3 / 2 ^ r.toNat)) ∧ Below w.heap.size w w' := by
  go_enter Tryd.func73, Tryd.ntmps73
  go_wp2
  refine wp_loop_rounds 5 ?_
  rw [rounds_succ]
  go_wp2
  go_region
  go_wp2
  rw [rounds_succ]
  go_wp2
  go_region
  go_wp2
  rw [rounds_succ]
  go_wp2
  go_region
  go_wp2
  rw [rounds_succ]
  go_wp2
  rw [rounds_succ]
  go_wp2
  refine bodyPost_ret (v := I4 (bits BinOp.or IntKind.u64 (a0 / 2 ^ r.toNat) (IntKind.u64.wrap (a1 * 2 ^ (64 - r).toNat))) (bits BinOp.or IntKind.u64 (a1 / 2 ^ r.toNat) (IntKind.u64.wrap (a2 * 2 ^ (64 - r).toNat))) (bits BinOp.or IntKind.u64 (a2 / 2 ^ r.toNat) (IntKind.u64.wrap (a3 * 2 ^ (64 - r).toNat))) (a3 / 2 ^ r.toNat)) (by simp [results, Tryd.results73, go_sem]) rfl ⟨rfl, ?_⟩
  repeat (first | exact Below.refl _ _ | refine Below.drew ?_ | refine Below.alloc ?_ (by first | omega | (simp; done) | (simp; omega)) _)

set_option maxRecDepth 100000 in
set_option maxHeartbeats 4000000 in
theorem shr_walk1 (a0 a1 a2 a3 n r : Int) (w : World) (h0 : 0 ≤ n) (h1 : n < 256) (hq : n / 64 = 1) (hr : n % 64 = r) (r0 : 0 ≤ r) (r1 : r < 64) :
    Calls Tryd.prog 73 #[I4 a0 a1 a2 a3, .int .i64 n] w fun e w' => e = .returned (I4 (bits BinOp.or IntKind.u64 (a1 / 2 ^ r.toNat) (IntKind.u64.wrap (a2 * 2 ^ (64 - r).toNat))) (bits BinOp.or IntKind.u64 (a2 / 2 ^ r.toNat) (IntKind.u64.wrap (a3 * 2 ^ (64 - r).toNat))) (a3 / 2 ^ r.toNat) 0) ∧ Below w.heap.size w w' := by
  go_enter Tryd.func73, Tryd.ntmps73
  go_wp2
  refine wp_loop_rounds 5 ?_
  rw [rounds_succ]
  go_wp2
  go_region
  go_wp2
  rw [rounds_succ]
  go_wp2
  go_region
  go_wp2
  rw [rounds_succ]
  go_wp2
  rw [rounds_succ]
  go_wp2
  refine bodyPost_ret (v := I4 (bits BinOp.or IntKind.u64 (a1 / 2 ^ r.toNat) (IntKind.u64.wrap (a2 * 2 ^ (64 - r).toNat))) (bits BinOp.or IntKind.u64 (a2 / 2 ^ r.toNat) (IntKind.u64.wrap (a3 * 2 ^ (64 - r).toNat))) (a3 / 2 ^ r.toNat) 0) (by simp [results, Tryd.results73, go_sem]) rfl ⟨rfl, ?_⟩
  repeat (first | exact Below.refl _ _ | refine Below.drew ?_ | refine Below.alloc ?_ (by first | omega | (simp; done) | (simp; omega)) _)

set_option maxRecDepth 100000 in
set_option maxHeartbeats 4000000 in
theorem shr_walk2 (a0 a1 a2 a3 n r : Int) (w : World) (h0 : 0 ≤ n) (h1 : n < 256) (hq : n / 64 = 2) (hr : n % 64 = r) (r0 : 0 ≤ r) (r1 : r < 64) :
    Calls Tryd.prog 73 #[I4 a0 a1 a2 a3, .int .i64 n] w fun e w' => e = .returned (I4 (bits BinOp.or IntKind.u64 (a2 / 2 ^ r.toNat) (IntKind.u64.wrap (a3 * 2 ^ (64 - r).toNat))) (a3 / 2 ^ r.toNat) 0 0) ∧ Below w.heap.size w w' := by
  go_enter Tryd.func73, Tryd.ntmps73
  go_wp2
  refine wp_loop_rounds 5 ?_
  rw [rounds_succ]
  go_wp2
  go_region
  go_wp2
  rw [rounds_succ]
  go_wp2
  rw [rounds_succ]
  go_wp2
  refine bodyPost_ret (v := I4 (bits BinOp.or IntKind.u64 (a2 / 2 ^ r.toNat) (IntKind.u64.wrap (a3 * 2 ^ (64 - r).toNat))) (a3 / 2 ^ r.toNat) 0 0) (by simp [results, Tryd.results73, go_sem]) rfl ⟨rfl, ?_⟩
  repeat (first | exact Below.refl _ _ | refine Below.drew ?_ | refine Below.alloc ?_ (by first | omega | (simp; done) | (simp; omega)) _)

set_option maxRecDepth 100000 in
set_option maxHeartbeats 4000000 in
theorem shr_walk3 (a0 a1 a2 a3 n r : Int) (w : World) (h0 : 0 ≤ n) (h1 : n < 256) (hq : n / 64 = 3) (hr : n % 64 = r) (r0 : 0 ≤ r) (r1 : r < 64) :
    Calls Tryd.prog 73 #[I4 a0 a1 a2 a3, .int .i64 n] w fun e w' => e = .returned (I4 (a3 / 2 ^ r.toNat) 0 0 0) ∧ Below w.heap.size w w' := by
  go_enter Tryd.func73, Tryd.ntmps73
  go_wp2
  refine wp_loop_rounds 5 ?_
  rw [rounds_succ]
  go_wp2
  rw [rounds_succ]
  go_wp2
  refine bodyPost_ret (v := I4 (a3 / 2 ^ r.toNat) 0 0 0) (by simp [results, Tryd.results73, go_sem]) rfl ⟨rfl, ?_⟩
  repeat (first | exact Below.refl _ _ | refine Below.drew ?_ | refine Below.alloc ?_ (by first | omega | (simp; done) | (simp; omega)) _)

set_option maxRecDepth 100000 in
set_option maxHeartbeats 4000000 in
theorem shr_out (a0 a1 a2 a3 n : Int) (w : World) (h : n < 0 ∨ 256 ≤ n) :
    Calls Tryd.prog 73 #[I4 a0 a1 a2 a3, .int .i64 n] w fun e w' => e = .returned (I4 0 0 0 0) ∧ Below w.heap.size w w' := by
  rcases h with h | h
  all_goals
    go_enter Tryd.func73, Tryd.ntmps73
    go_wp2
    refine bodyPost_ret (v := I4 0 0 0 0) (by simp [results, Tryd.results73, go_sem]) rfl ⟨rfl, ?_⟩
    repeat (first | exact Below.refl _ _ | refine Below.drew ?_ | refine Below.alloc ?_ (by first | omega | (simp; done) | (simp; omega)) _)

theorem shr_none (a : Nat) (n : Int) (w : World) (h : n < 0 ∨ 256 ≤ n) :
    Calls Tryd.prog 73 #[nv a, .int .i64 n] w fun e w' => e = .returned (nv 0) ∧ Below w.heap.size w w' := by
  rw [nv_zero]; exact shr_out _ _ _ _ n w h

/-- shr_join at whatever r. -/
theorem shr_join' (r x y : Nat) (h : r < 64) (hy : y < B64) :
    bits BinOp.or IntKind.u64 ((y : Int) / 2 ^ ((r : Int)).toNat) (IntKind.u64.wrap ((x : Int) * 2 ^ (64 - (r : Int)).toNat)) = ((y / 2 ^ r + 2 ^ (64 - r) * (x % 2 ^ r) : Nat) : Int) ∧ y / 2 ^ r + 2 ^ (64 - r) * (x % 2 ^ r) < B64 := by
  rcases Nat.eq_zero_or_pos r with rfl | hr
  · have e : (x : Int) * 2 ^ (64 - ((0 : Nat) : Int)).toNat = (x : Int) * 18446744073709551616 := rfl
    have e2 : IntKind.u64.wrap ((x : Int) * 18446744073709551616) = ((0 : Nat) : Int) := by rw [IntKind.wrap_u64]; omega
    have e3 : (y : Int) / 2 ^ (((0 : Nat) : Int)).toNat = (y : Int) := by simp
    rw [e, e2, e3, or64 y 0 hy B64_pos]
    simp [Nat.mod_one, hy]
  · exact shr_join r x y h hr hy

theorem shr_any (a n : Nat) (w : World) (ha : a < M256) (hn : n < 256) :
    Calls Tryd.prog 73 #[nv a, .int .i64 (n : Int)] w fun e w' => e = .returned (nv (a / 2 ^ n)) ∧ Below w.heap.size w w' := by
  obtain ⟨k, r, hk, hr, rfl⟩ : ∃ k r, k < 4 ∧ r < 64 ∧ n = 64 * k + r := ⟨n / 64, n % 64, by omega, by omega, by omega⟩
  have hw := shr_words (wd0 a) (wd1 a) (wd2 a) (wd3 a) (2 ^ r) (2 ^ (64 - r)) (pq r hr)
  rw [ofW_wd a ha] at hw
  obtain ⟨j0, l0⟩ := shr_join' r (wd1 a) (wd0 a) hr (wd0_lt a)
  obtain ⟨j1, l1⟩ := shr_join' r (wd2 a) (wd1 a) hr (wd1_lt a)
  obtain ⟨j2, l2⟩ := shr_join' r (wd3 a) (wd2 a) hr (wd2_lt a)
  have j3 : ((wd3 a : Nat) : Int) / 2 ^ ((r : Int)).toNat = ((wd3 a / 2 ^ r : Nat) : Int) := by rw [Int.toNat_natCast]; exact shr_word _ _
  have l3 : wd3 a / 2 ^ r < B64 := Nat.lt_of_le_of_lt (Nat.div_le_self _ _) (wd3_lt a)
  have hp := Nat.two_pow_pos r
  have E0 : a / 2 ^ r = ofW (wd0 a / 2 ^ r + 2 ^ (64 - r) * (wd1 a % 2 ^ r)) (wd1 a / 2 ^ r + 2 ^ (64 - r) * (wd2 a % 2 ^ r)) (wd2 a / 2 ^ r + 2 ^ (64 - r) * (wd3 a % 2 ^ r)) (wd3 a / 2 ^ r) :=
    (split_div a (2 ^ r) _ (wd0 a % 2 ^ r) hp (hw.symm.trans (by rw [Nat.mul_comm (2 ^ r), Nat.add_comm])) (Nat.mod_lt _ hp)).2
  have E1 := (congrArg (· / B64) E0).trans (ofW_drop _ _ _ _ l0)
  have E2 := (congrArg (· / B64) E1).trans (ofW_drop _ _ _ _ l1)
  have E3 := (congrArg (· / B64) E2).trans (ofW_drop _ _ _ _ l2)
  have hq : ((64 * k + r : Nat) : Int) / 64 = (k : Int) := by omega
  have hm : ((64 * k + r : Nat) : Int) % 64 = (r : Int) := by omega
  rw [pow_split]
  have hk4 : k = 0 ∨ k = 1 ∨ k = 2 ∨ k = 3 := by omega
  rcases hk4 with rfl | rfl | rfl | rfl
  · refine (shr_walk0 _ _ _ _ _ _ w (by omega) (by omega) hq hm (by omega) (by omega)).mono ?_
    rintro e w' ⟨rfl, hb⟩
    refine ⟨?_, hb⟩
    rw [j0, j1, j2, j3, Nat.pow_zero, Nat.mul_one]
    exact congrArg Ending.returned (nv_of_eq _ _ _ _ _ l0 l1 l2 l3 E0.symm)
  · refine (shr_walk1 _ _ _ _ _ _ w (by omega) (by omega) hq hm (by omega) (by omega)).mono ?_
    rintro e w' ⟨rfl, hb⟩
    refine ⟨?_, hb⟩
    rw [j1, j2, j3, Nat.pow_one, ← Nat.div_div_eq_div_mul]
    exact congrArg Ending.returned (nv_of_eq _ _ _ _ _ l1 l2 l3 B64_pos E1.symm)
  · refine (shr_walk2 _ _ _ _ _ _ w (by omega) (by omega) hq hm (by omega) (by omega)).mono ?_
    rintro e w' ⟨rfl, hb⟩
    refine ⟨?_, hb⟩
    rw [j2, j3, show B64 ^ 2 = B64 * B64 from by rw [Nat.pow_succ, Nat.pow_one], ← Nat.div_div_eq_div_mul, ← Nat.div_div_eq_div_mul]
    exact congrArg Ending.returned (nv_of_eq _ _ _ _ _ l2 l3 B64_pos B64_pos E2.symm)
  · refine (shr_walk3 _ _ _ _ _ _ w (by omega) (by omega) hq hm (by omega) (by omega)).mono ?_
    rintro e w' ⟨rfl, hb⟩
    refine ⟨?_, hb⟩
    rw [j3, show B64 ^ 3 = B64 * B64 * B64 from by rw [Nat.pow_succ, Nat.pow_succ, Nat.pow_one], ← Nat.div_div_eq_div_mul, ← Nat.div_div_eq_div_mul, ← Nat.div_div_eq_div_mul]
    exact congrArg Ending.returned (nv_of_eq _ _ _ _ _ l3 B64_pos B64_pos B64_pos E3.symm)

end Go.Proofs.YtljfhabhenaapaaDoor
