/-
  Contracts of package bits: quotient, scale.
-/
import Derived.Test.YtkkkfcdoilojmaaBitW
namespace Go.Proofs.Ytkkkfcdoilojmaa
open Go.RowKit
set_option linter.unusedVariables false

set_option maxRecDepth 100000 in
set_option maxHeartbeats 3000000 in
theorem quotient_any (t k : Nat) (w : World) (ht : t < M256) (hk : k < B64) (hk0 : 0 < k) :
    Calls Try.prog 48 #[nv t, .int .u64 (k : Int)] w fun e w' => e = .returned (nv (t / k)) ∧ Below w.heap.size w w' := by
  have hkM : k < M256 := Nat.lt_of_lt_of_le hk (by rw [B64_pow, M256_pow]; exact Nat.pow_le_pow_right (by omega) (by omega))
  have HO := Lib.hid (fun W => of_any k W hk)
  have HD2 := Lib.hid (fun W => div_any t k W ht hkM hk0)
  clear hkM ht hk hk0
  generalize t % k = rm at *
  generalize t / k = q at *
  go_enter Try.func48, Try.ntmps48
  go_upto_region 1 with fail
  refine wp_abs (fun W => Below w.heap.size w W ∧ Bk W w.heap.size 24 (A4 (wd0 t) (wd1 t) (wd2 t) (wd3 t)) ∧ Bk W (w.heap.size + 1) 24 #[.int .u64 0, .int .u64 0, .int .u64 0, .int .u64 0])
    ⟨((Below.refl _ _).alloc (Nat.le_refl _) _).alloc (by simp) _, (Bk.new _ _ _).alloc _, Bk.new' _ _ _ (by simp)⟩ ?_
  rintro W ⟨hW, A, R⟩
  obtain ⟨a0, a1, a2, a3, a4, a5, a6, a7, za⟩ := A.f4
  go_cut [5, 6, 7] (fun s5 s6 s7 wx => ∃ g5 g6 : Nat, s5 = .pointer (some ⟨g5, 0, none⟩) ∧ s6 = .pointer (some ⟨g6, 0, none⟩) ∧ s7 = .int .i64 0 ∧ Below W.heap.size W wx ∧ W.heap.size ≤ g5 ∧ Bk wx g5 24 (A4 (wd0 q) (wd1 q) (wd2 q) (wd3 q)))
  case first =>
    go_region_held3 (fun w' => w'.cell? ⟨w.heap.size, 0, none⟩ = some (.int .u64 (wd0 t : Int)) ∧ w'.cell? ⟨w.heap.size, 1, none⟩ = some (.int .u64 (wd1 t : Int)) ∧ w'.cell? ⟨w.heap.size, 2, none⟩ = some (.int .u64 (wd2 t : Int)) ∧ w'.cell? ⟨w.heap.size, 3, none⟩ = some (.int .u64 (wd3 t : Int)))
      ((refine ⟨?_, ?_, ?_, ?_⟩; (focus (refine cellS (w := W) ?_ a0; repeat' (first | with_reducible exact Below.refl _ _ | with_reducible assumption | with_reducible refine Below.drew ?_ | with_reducible refine Below.setCell ?_ ?_ _ | with_reducible refine Below.alloc ?_ ?_ _ | with_reducible exact Nat.le_refl _ | omega | (simp; done) | (simp; omega) | (simp [World.drew]; done) | (simp [World.drew]; omega)))); (focus (refine cellS (w := W) ?_ a1; repeat' (first | with_reducible exact Below.refl _ _ | with_reducible assumption | with_reducible refine Below.drew ?_ | with_reducible refine Below.setCell ?_ ?_ _ | with_reducible refine Below.alloc ?_ ?_ _ | with_reducible exact Nat.le_refl _ | omega | (simp; done) | (simp; omega) | (simp [World.drew]; done) | (simp [World.drew]; omega)))); (focus (refine cellS (w := W) ?_ a2; repeat' (first | with_reducible exact Below.refl _ _ | with_reducible assumption | with_reducible refine Below.drew ?_ | with_reducible refine Below.setCell ?_ ?_ _ | with_reducible refine Below.alloc ?_ ?_ _ | with_reducible exact Nat.le_refl _ | omega | (simp; done) | (simp; omega) | (simp [World.drew]; done) | (simp [World.drew]; omega)))); (focus (refine cellS (w := W) ?_ a3; repeat' (first | with_reducible exact Below.refl _ _ | with_reducible assumption | with_reducible refine Below.drew ?_ | with_reducible refine Below.setCell ?_ ?_ _ | with_reducible refine Below.alloc ?_ ?_ _ | with_reducible exact Nat.le_refl _ | omega | (simp; done) | (simp; omega) | (simp [World.drew]; done) | (simp [World.drew]; omega))))))
      (first
      | (go_at_call 12
         refine (HO.out _).mono ?_
         rintro e w5 ⟨rfl, hb5⟩
         have hE5 : Below W.heap.size W w5 := by
           refine below_step ?_ ?_ hb5
           · repeat' (first | with_reducible exact Below.refl _ _ | with_reducible assumption | with_reducible refine Below.drew ?_ | with_reducible refine Below.setCell ?_ ?_ _ | with_reducible refine Below.alloc ?_ ?_ _ | with_reducible exact Nat.le_refl _ | omega | (simp; done) | (simp; omega) | (simp [World.drew]; done) | (simp [World.drew]; omega))
           · first | omega | (simp; done) | (simp; omega) | (simp [World.drew]; done) | (simp [World.drew]; omega)
         have z5 := hE5.size
         try (refine with_fact (p := Bk w5 (W.heap.size) 24 #[.int .u64 0, .int .u64 0, .int .u64 0, .int .u64 0]) ?_ ?_; (focus (refine Bk.keep ?_ hb5; (first | exact Bk.new _ _ _ | exact (Bk.new _ _ _).drew | exact (Bk.new _ _ _).alloc _ | exact ((Bk.new _ _ _).alloc _).drew); done)); intro N5a; obtain ⟨n5a0, n5a1, n5a2, n5a3, n5a4, n5a5, n5a6, n5a7, n5a8⟩ := N5a.f4)
         try (refine with_fact (p := Bk w5 (W.heap.size + 1) 24 #[.int .u64 0, .int .u64 0, .int .u64 0, .int .u64 0]) ?_ ?_; (focus (refine Bk.keep ?_ hb5; (first | (refine Bk.new' _ _ _ ?_; (simp; done)) | (refine Bk.drew (Bk.new' _ _ _ ?_); (simp; done))); done)); intro N5b; obtain ⟨n5b0, n5b1, n5b2, n5b3, n5b4, n5b5, n5b6, n5b7, n5b8⟩ := N5b.f4))
      | (go_at_call 13
         refine (HD2.out _).mono ?_
         rintro e w6 ⟨rfl, hb6⟩
         have hE6 : Below W.heap.size W w6 := by
           refine below_step ?_ ?_ hb6
           · repeat' (first | with_reducible exact Below.refl _ _ | with_reducible assumption | with_reducible refine Below.drew ?_ | with_reducible refine Below.setCell ?_ ?_ _ | with_reducible refine Below.alloc ?_ ?_ _ | with_reducible exact Nat.le_refl _ | omega | (simp; done) | (simp; omega) | (simp [World.drew]; done) | (simp [World.drew]; omega))
           · first | omega | (simp; done) | (simp; omega) | (simp [World.drew]; done) | (simp [World.drew]; omega)
         have z6 := hE6.size
         try (refine with_fact (p := Bk w6 (W.heap.size) 24 #[.int .u64 0, .int .u64 0, .int .u64 0, .int .u64 0]) ?_ ?_; (focus (refine Bk.keep ?_ hb6; (first | exact N5a | exact N5a.alloc _ | exact (N5a.alloc _).alloc _); done)); intro N6a; obtain ⟨n6a0, n6a1, n6a2, n6a3, n6a4, n6a5, n6a6, n6a7, n6a8⟩ := N6a.f4)
         try (refine with_fact (p := Bk w6 (W.heap.size + 1) 24 #[.int .u64 0, .int .u64 0, .int .u64 0, .int .u64 0]) ?_ ?_; (focus (refine Bk.keep ?_ hb6; (first | exact N5b | exact N5b.alloc _ | exact (N5b.alloc _).alloc _); done)); intro N6b; obtain ⟨n6b0, n6b1, n6b2, n6b3, n6b4, n6b5, n6b6, n6b7, n6b8⟩ := N6b.f4)
         try (refine with_fact (p := Bk w6 (w5.heap.size) 24 #[.int .u64 0, .int .u64 0, .int .u64 0, .int .u64 0]) ?_ ?_; (focus (refine Bk.keep ?_ hb6; (first | exact Bk.new _ _ _ | exact (Bk.new _ _ _).alloc _); done)); intro N6c; obtain ⟨n6c0, n6c1, n6c2, n6c3, n6c4, n6c5, n6c6, n6c7, n6c8⟩ := N6c.f4)
         try (refine with_fact (p := Bk w6 (w5.heap.size + 1) 24 #[.int .u64 0, .int .u64 0, .int .u64 0, .int .u64 0]) ?_ ?_; (focus (refine Bk.keep ?_ hb6; (refine Bk.new' _ _ _ ?_; (simp; done)); done)); intro N6d; obtain ⟨n6d0, n6d1, n6d2, n6d3, n6d4, n6d5, n6d6, n6d7, n6d8⟩ := N6d.f4)))
    all_goals
      go_wp2_with fail
      go_meet
      refine ⟨_, _, rfl, rfl, rfl, ?_, ?_, ?_⟩
      · repeat' (first | with_reducible exact Below.refl _ _ | with_reducible assumption | with_reducible refine Below.drew ?_ | with_reducible refine Below.setCell ?_ ?_ _ | with_reducible refine Below.alloc ?_ ?_ _ | with_reducible exact Nat.le_refl _ | omega | (simp; done) | (simp; omega) | (simp [World.drew]; done) | (simp [World.drew]; omega))
      · first | omega | (simp; done) | (simp; omega) | (simp [World.drew]; done) | (simp [World.drew]; omega)
      · change Bk _ _ _ #[Value.int .u64 (wd0 q : Int), .int .u64 (wd1 q : Int), .int .u64 (wd2 q : Int), .int .u64 (wd3 q : Int)]
        first
          | with_reducible exact Bk.new _ _ _
          | (with_reducible refine Bk.new' _ _ _ ?_; (simp; done))
          | repeat' (first | with_reducible exact Bk.new _ _ _ | with_reducible exact N6a.set4 _ _ _ _ | with_reducible exact N6b.set4 _ _ _ _ | with_reducible exact N6c.set4 _ _ _ _ | with_reducible exact N6d.set4 _ _ _ _ | with_reducible refine Bk.far4 ?_ ?_ _ _ _ _ | with_reducible refine Bk.alloc ?_ _ | omega | (simp; done) | (simp; omega))
  case rest =>
    obtain ⟨g5, g6, rfl, rfl, rfl, hbc, hg, X⟩ := hcut
    have hW3 := below_step hW hW.size hbc
    have R := R.keep hbc
    clear hbc a0 a1 a2 a3 a4 a5 a6 a7 za hW A hg
    obtain ⟨x0, x1, x2, x3, x4, x5, x6, x7, zx⟩ := X.f4
    obtain ⟨r0, r1, r2, r3, r4, r5, r6, r7, zr⟩ := R.f4
    go_wp2_with fail
    exact num_ret rfl rfl rfl rfl (R.set4 _ _ _ _) (Below.set4 hW3 (by omega) _ _ _ _)

/-- A target times took by should: the number, and whether it doesn't fit. -/
def scaleV (t k s : Nat) : Nat := if M256 ≤ t * k then t / s * k % M256 else t * k / s
def scaleO (t k s : Nat) : Bool := decide (M256 ≤ t * k) && decide (M256 ≤ t / s * k)
set_option maxRecDepth 100000 in
set_option maxHeartbeats 1000000 in
theorem scale_any (t k s : Nat) (w : World) (ht : t < M256) (hk : k < B64) (hs : s < B64) (hs0 : 0 < s) :
    Calls Try.prog 45 #[nv t, .int .u64 (k : Int), .int .u64 (s : Int)] w fun e w' => e = .returned (.tuple #[nv (scaleV t k s), .bool (scaleO t k s)]) ∧ Below w.heap.size w w' := by
  have hm : t * k % M256 < M256 := Nat.mod_lt _ M256_pos'
  have hq : t / s < M256 := Nat.lt_of_le_of_lt (Nat.div_le_self _ _) ht
  have HM := fun W => mul_any t k W ht hk
  have HQ := Lib.hid (fun W => quotient_any (t * k % M256) s W hm hs hs0)
  have HP := Lib.hid (fun W => quotient_any t s W ht hs hs0)
  have HN := fun W => mul_any (t / s) k W hq hk
  by_cases h : M256 ≤ t * k
  · have e1 : scaleV t k s = t / s * k % M256 := by unfold scaleV; rw [if_pos h]
    have e2 : scaleO t k s = decide (M256 ≤ t / s * k) := by unfold scaleO; rw [decide_eq_true h]; rfl
    rw [e1, e2]
    rw [decide_eq_true h] at HM
    have HM := Lib.hid HM
    have HN := Lib.hid HN
    clear e1 e2 h hm hq HQ ht hk hs hs0
    generalize t * k % M256 = m at *
    generalize decide (M256 ≤ t / s * k) = o at *
    generalize t / s * k % M256 = r at *
    generalize t / s = q at *
    go_enter Try.func45, Try.ntmps45
    go_wp2_with fail
    refine (HM.out _).mono ?_
    rintro e w1 ⟨rfl, hb1⟩
    have A : Bk (w1.alloc (.cells (A4 (wd0 m) (wd1 m) (wd2 m) (wd3 m)) 24)) w.heap.size 24 (A4 (wd0 t) (wd1 t) (wd2 t) (wd3 t)) := (Bk.keep ((Bk.new _ _ _).alloc _) hb1).alloc _
    have R : Bk (w1.alloc (.cells (A4 (wd0 m) (wd1 m) (wd2 m) (wd3 m)) 24)) (w.heap.size + 1) 24 #[.int .u64 0, .int .u64 0, .int .u64 0, .int .u64 0] := (Bk.keep (Bk.new' _ _ _ (by simp)) hb1).alloc _
    have hW1 : Below w.heap.size w w1 := below_step (((Below.refl _ _).alloc (Nat.le_refl _) _).alloc (by simp) _) (by simp; omega) hb1
    have hW := hW1.alloc hW1.size (.cells (A4 (wd0 m) (wd1 m) (wd2 m) (wd3 m)) 24)
    go_upto_region 4 with fail
    refine wp_abs (fun W => Below w.heap.size w W ∧ Bk W w.heap.size 24 (A4 (wd0 t) (wd1 t) (wd2 t) (wd3 t)) ∧ Bk W (w.heap.size + 1) 24 #[.int .u64 0, .int .u64 0, .int .u64 0, .int .u64 0]) ⟨hW, A, R⟩ ?_
    clear hW A R hW1 hb1
    rintro W ⟨hW, A, R⟩
    obtain ⟨a0, a1, a2, a3, a4, a5, a6, a7, za⟩ := A.f4
    go_wp2_with fail
    refine (HP.out _).mono ?_
    rintro e w2 ⟨rfl, hb⟩
    have R := R.keep hb
    have hW := below_step hW hW.size hb
    clear hb a0 a1 a2 a3 a4 a5 a6 a7 za A
    go_wp2_with fail
    refine (HN.out _).mono ?_
    rintro e w3 ⟨rfl, hb⟩
    have R := R.keep hb
    have hW := below_step hW hW.size hb
    obtain ⟨r0, r1, r2, r3, r4, r5, r6, r7, zr⟩ := R.f4
    go_wp2_with fail
    exact num_ret2 rfl rfl rfl rfl (R.set4 _ _ _ _) (Below.set4 hW (by omega) _ _ _ _)
  · have e1 : scaleV t k s = t * k / s := by unfold scaleV; rw [if_neg h]
    have e2 : scaleO t k s = false := by unfold scaleO; rw [decide_eq_false h]; rfl
    rw [e1, e2]
    rw [decide_eq_false h] at HM
    rw [Nat.mod_eq_of_lt (by omega)] at HQ
    have e3 : t * k % M256 = t * k := Nat.mod_eq_of_lt (by omega)
    rw [e3] at HM
    have HM := Lib.hid HM
    clear e1 e2 e3 h hm hq HP HN ht hk hs hs0
    generalize t * k / s = r at *
    generalize t * k = m at *
    go_enter Try.func45, Try.ntmps45
    go_wp2_with fail
    refine (HM.out _).mono ?_
    rintro e w1 ⟨rfl, hb1⟩
    have R : Bk (w1.alloc (.cells (A4 (wd0 m) (wd1 m) (wd2 m) (wd3 m)) 24)) (w.heap.size + 1) 24 #[.int .u64 0, .int .u64 0, .int .u64 0, .int .u64 0] := (Bk.keep (Bk.new' _ _ _ (by simp)) hb1).alloc _
    have hW1 : Below w.heap.size w w1 := below_step (((Below.refl _ _).alloc (Nat.le_refl _) _).alloc (by simp) _) (by simp; omega) hb1
    have hW := hW1.alloc hW1.size (.cells (A4 (wd0 m) (wd1 m) (wd2 m) (wd3 m)) 24)
    go_wp2_with fail
    refine (HQ.out _).mono ?_
    rintro e w2 ⟨rfl, hb⟩
    have R := R.keep hb
    have hW := below_step hW hW.size hb
    obtain ⟨r0, r1, r2, r3, r4, r5, r6, r7, zr⟩ := R.f4
    go_wp2_with fail
    exact num_ret2 rfl rfl rfl rfl (R.set4 _ _ _ _) (Below.set4 hW (by omega) _ _ _ _)
end Go.Proofs.Ytkkkfcdoilojmaa
