/-
  What is proved: for any two numbers and any word the law NumProducts returns true, and its arguments read behind the call as they read before it. No condition.
-/
import Derived.Test.YtkkkfcdoilojmaaIsA
import Derived.Test.YtkkkfcdoilojmaaRbH
import Derived.Test.YtkkkfcdoilojmaaCnt
import Derived.Test.YtkkkfcdoilojmaaOpen
namespace Go.Proofs.Ytkkkfcdoilojmaa.numProducts
open Go.ChangeShapes Go.WideShapes Go.ChangeAt Go.RowKit
set_option linter.unusedVariables false

theorem own : ownKnob Try.prog.godebug = none := by kernel_rfl
theorem laidOut : laidOutB Try.prog = true := by kernel_rfl
set_option maxRecDepth 100000 in
set_option maxHeartbeats 8000000 in
theorem walk_z (a b n p q r : Nat) (ov : Bool) (w : World)
    (HOA : Hid (∀ W : World, Calls Try.prog 11 #[.agg #[.int .u64 (wd0 a : Int), .int .u64 (wd1 a : Int), .int .u64 (wd2 a : Int), .int .u64 (wd3 a : Int)]] W fun e w' => ∃ v, e = .returned v ∧ BX w' v a 256 ∧ Below W.heap.size W w'))
    (HON : Hid (∀ W : World, Calls Try.prog 11 #[.agg #[.int .u64 (wd0 n : Int), .int .u64 (wd1 n : Int), .int .u64 (wd2 n : Int), .int .u64 (wd3 n : Int)]] W fun e w' => ∃ v, e = .returned v ∧ BX w' v n 256 ∧ Below W.heap.size W w'))
    (HON0 : Hid (∀ W : World, Calls Try.prog 12 #[.int .u64 (n : Int)] W fun e w' => e = .returned (nv n) ∧ Below W.heap.size W w'))
    (HMU : Hid (∀ (W : World) (u v : Value), BX W u a 256 → BX W v n 256 → Calls Try.prog 10 #[u, v] W fun e w' => ∃ v' L, e = .returned v' ∧ L ≤ 512 ∧ BX w' v' (a * n) L ∧ Below W.heap.size W w'))
    (HIS : Hid (∀ (W : World) (v : Value) (L : Nat), L ≤ 512 → BX W v (a * n) L → Calls Try.prog 9 #[.agg #[.int .u64 (wd0 p : Int), .int .u64 (wd1 p : Int), .int .u64 (wd2 p : Int), .int .u64 (wd3 p : Int)], .bool ov, v] W fun e w' => e = .returned (.bool true) ∧ Below W.heap.size W w'))
    (HM : Hid (∀ W : World, Calls Try.prog 8 #[.agg #[.int .u64 (wd0 a : Int), .int .u64 (wd1 a : Int), .int .u64 (wd2 a : Int), .int .u64 (wd3 a : Int)], .int .u64 (n : Int)] W fun e w' => e = .returned (.tuple #[nv p, .bool ov]) ∧ Below W.heap.size W w'))
    (HD : Hid (∀ W : World, Calls Try.prog 13 #[.agg #[.int .u64 (wd0 a : Int), .int .u64 (wd1 a : Int), .int .u64 (wd2 a : Int), .int .u64 (wd3 a : Int)], .agg #[.int .u64 (wd0 b : Int), .int .u64 (wd1 b : Int), .int .u64 (wd2 b : Int), .int .u64 (wd3 b : Int)]] W fun e w' => e = .returned (.tuple #[nv q, nv r, .int .i64 1]) ∧ Below W.heap.size W w'))
    (HZ : Hid (∀ W : World, Calls Try.prog 14 #[.agg #[.int .u64 (wd0 b : Int), .int .u64 (wd1 b : Int), .int .u64 (wd2 b : Int), .int .u64 (wd3 b : Int)]] W fun e w' => e = .returned (.bool true) ∧ Below W.heap.size W w'))
    (HZQ : Hid (∀ W : World, Calls Try.prog 14 #[.agg #[.int .u64 (wd0 q : Int), .int .u64 (wd1 q : Int), .int .u64 (wd2 q : Int), .int .u64 (wd3 q : Int)]] W fun e w' => e = .returned (.bool true) ∧ Below W.heap.size W w'))
    (HZR : Hid (∀ W : World, Calls Try.prog 14 #[.agg #[.int .u64 (wd0 r : Int), .int .u64 (wd1 r : Int), .int .u64 (wd2 r : Int), .int .u64 (wd3 r : Int)]] W fun e w' => e = .returned (.bool true) ∧ Below W.heap.size W w'))
    : Calls Try.prog 3 #[nv a, nv b, .int .u64 (n : Int)] w fun e w' => e = .returned (.bool true) ∧ Below w.heap.size w w' := by
  go_enter Try.func3, Try.ntmps3
  go_wp2_with fail
  refine (counts_any _).mono ?_
  rintro e w1 ⟨rfl, hb1⟩
  have A : Bk w1 w.heap.size 24 (A4 (wd0 a) (wd1 a) (wd2 a) (wd3 a)) := Bk.keep ((Bk.new _ _ _).alloc _) hb1
  have B : Bk w1 (w.heap.size + 1) 24 (A4 (wd0 b) (wd1 b) (wd2 b) (wd3 b)) := Bk.keep (Bk.new' _ _ _ (by simp)) hb1
  have hW : Below w.heap.size w w1 := below_step (((Below.refl _ _).alloc (Nat.le_refl _) _).alloc (by simp) _) (by simp; omega) hb1
  clear hb1
  obtain ⟨gB, hgB⟩ : ∃ gB, gB = w.heap.size + 1 := ⟨_, rfl⟩
  rw [← hgB] at B
  generalize hgd : w.heap.size = gA at *
  rw [← hgB]
  clear hgB
  obtain ⟨a0, a1, a2, a3, a4, a5, a6, a7, za⟩ := A.f4
  go_wp2_with fail
  refine (HM.out _).mono ?_
  rintro e w2 ⟨rfl, hb⟩
  have hsz := (Nat.le_trans (Nat.le_of_eq hgd.symm) hW.size)
  have A := A.keep hb
  have B := B.keep hb
  have hW := hW.trans (hb.mono hsz)
  clear hb a0 a1 a2 a3 a4 a5 a6 a7 za hsz
  go_upto_region 4 with fail
  have hsz := (Nat.le_trans (Nat.le_of_eq hgd.symm) hW.size)
  refine wp_gen (fun W => Below gA w W ∧ Bk W gA 24 (A4 (wd0 a) (wd1 a) (wd2 a) (wd3 a)) ∧ Bk W gB 24 (A4 (wd0 b) (wd1 b) (wd2 b) (wd3 b)) ∧ Bk W w2.heap.size 24 (A4 (wd0 p) (wd1 p) (wd2 p) (wd3 p))) ⟨hW.alloc hsz _, A.alloc _, B.alloc _, Bk.new _ _ _⟩ ?_
  clear hW A B hsz
  generalize w2.heap.size = g7 at *
  rintro W ⟨hW, A, B, X7⟩
  obtain ⟨a0, a1, a2, a3, a4, a5, a6, a7, za⟩ := A.f4
  obtain ⟨p0, p1, p2, p3, p4, p5, p6, p7, zp⟩ := X7.f4
  go_cut [31] (fun s31 wx => s31 = .bool false ∧ Below W.heap.size W wx)
  case first =>
    go_region_held3 (fun w' => w'.cell? ⟨g7, 0, none⟩ = some (.int .u64 (wd0 p : Int)) ∧ w'.cell? ⟨g7, 1, none⟩ = some (.int .u64 (wd1 p : Int)) ∧ w'.cell? ⟨g7, 2, none⟩ = some (.int .u64 (wd2 p : Int)) ∧ w'.cell? ⟨g7, 3, none⟩ = some (.int .u64 (wd3 p : Int)) ∧ w'.cell? ⟨gA, 0, none⟩ = some (.int .u64 (wd0 a : Int)) ∧ w'.cell? ⟨gA, 1, none⟩ = some (.int .u64 (wd1 a : Int)) ∧ w'.cell? ⟨gA, 2, none⟩ = some (.int .u64 (wd2 a : Int)) ∧ w'.cell? ⟨gA, 3, none⟩ = some (.int .u64 (wd3 a : Int)))
      ((refine ⟨?_, ?_, ?_, ?_, ?_, ?_, ?_, ?_⟩; (focus (refine cellS (w := W) ?_ p0; repeat' (first | with_reducible exact Below.refl _ _ | with_reducible assumption | with_reducible refine Below.drew ?_ | with_reducible refine Below.setCell ?_ ?_ _ | with_reducible refine Below.alloc ?_ ?_ _ | with_reducible exact Nat.le_refl _ | omega | (simp; done) | (simp; omega) | (simp [World.drew]; done) | (simp [World.drew]; omega)))); (focus (refine cellS (w := W) ?_ p1; repeat' (first | with_reducible exact Below.refl _ _ | with_reducible assumption | with_reducible refine Below.drew ?_ | with_reducible refine Below.setCell ?_ ?_ _ | with_reducible refine Below.alloc ?_ ?_ _ | with_reducible exact Nat.le_refl _ | omega | (simp; done) | (simp; omega) | (simp [World.drew]; done) | (simp [World.drew]; omega)))); (focus (refine cellS (w := W) ?_ p2; repeat' (first | with_reducible exact Below.refl _ _ | with_reducible assumption | with_reducible refine Below.drew ?_ | with_reducible refine Below.setCell ?_ ?_ _ | with_reducible refine Below.alloc ?_ ?_ _ | with_reducible exact Nat.le_refl _ | omega | (simp; done) | (simp; omega) | (simp [World.drew]; done) | (simp [World.drew]; omega)))); (focus (refine cellS (w := W) ?_ p3; repeat' (first | with_reducible exact Below.refl _ _ | with_reducible assumption | with_reducible refine Below.drew ?_ | with_reducible refine Below.setCell ?_ ?_ _ | with_reducible refine Below.alloc ?_ ?_ _ | with_reducible exact Nat.le_refl _ | omega | (simp; done) | (simp; omega) | (simp [World.drew]; done) | (simp [World.drew]; omega)))); (focus (refine cellS (w := W) ?_ a0; repeat' (first | with_reducible exact Below.refl _ _ | with_reducible assumption | with_reducible refine Below.drew ?_ | with_reducible refine Below.setCell ?_ ?_ _ | with_reducible refine Below.alloc ?_ ?_ _ | with_reducible exact Nat.le_refl _ | omega | (simp; done) | (simp; omega) | (simp [World.drew]; done) | (simp [World.drew]; omega)))); (focus (refine cellS (w := W) ?_ a1; repeat' (first | with_reducible exact Below.refl _ _ | with_reducible assumption | with_reducible refine Below.drew ?_ | with_reducible refine Below.setCell ?_ ?_ _ | with_reducible refine Below.alloc ?_ ?_ _ | with_reducible exact Nat.le_refl _ | omega | (simp; done) | (simp; omega) | (simp [World.drew]; done) | (simp [World.drew]; omega)))); (focus (refine cellS (w := W) ?_ a2; repeat' (first | with_reducible exact Below.refl _ _ | with_reducible assumption | with_reducible refine Below.drew ?_ | with_reducible refine Below.setCell ?_ ?_ _ | with_reducible refine Below.alloc ?_ ?_ _ | with_reducible exact Nat.le_refl _ | omega | (simp; done) | (simp; omega) | (simp [World.drew]; done) | (simp [World.drew]; omega)))); (focus (refine cellS (w := W) ?_ a3; repeat' (first | with_reducible exact Below.refl _ _ | with_reducible assumption | with_reducible refine Below.drew ?_ | with_reducible refine Below.setCell ?_ ?_ _ | with_reducible refine Below.alloc ?_ ?_ _ | with_reducible exact Nat.le_refl _ | omega | (simp; done) | (simp; omega) | (simp [World.drew]; done) | (simp [World.drew]; omega))))))
      (first
      | (go_at_call 11
         with_reducible refine (HOA.out _).mono ?_
         rintro e wA ⟨uA, rfl, BA, hbwA⟩
         have hEwA : Below W.heap.size W wA := by
           refine below_step ?_ ?_ hbwA
           · repeat' (first | with_reducible exact Below.refl _ _ | with_reducible assumption | with_reducible refine Below.drew ?_ | with_reducible refine Below.setCell ?_ ?_ _ | with_reducible refine Below.alloc ?_ ?_ _ | with_reducible exact Nat.le_refl _ | omega | (simp; done) | (simp; omega) | (simp [World.drew]; done) | (simp [World.drew]; omega))
           · first | omega | (simp; done) | (simp; omega) | (simp [World.drew]; done) | (simp [World.drew]; omega)
         have zwA := hEwA.size
         try have BN := BN.keep hbwA
         obtain ⟨sA, cA, eA, _⟩ := BA.slice
         subst eA)
      | (go_at_call 11
         with_reducible refine (HON.out _).mono ?_
         rintro e wN ⟨uN, rfl, BN, hbwN⟩
         have hEwN : Below W.heap.size W wN := by
           refine below_step ?_ ?_ hbwN
           · repeat' (first | with_reducible exact Below.refl _ _ | with_reducible assumption | with_reducible refine Below.drew ?_ | with_reducible refine Below.setCell ?_ ?_ _ | with_reducible refine Below.alloc ?_ ?_ _ | with_reducible exact Nat.le_refl _ | omega | (simp; done) | (simp; omega) | (simp [World.drew]; done) | (simp [World.drew]; omega))
           · first | omega | (simp; done) | (simp; omega) | (simp [World.drew]; done) | (simp [World.drew]; omega)
         have zwN := hEwN.size
         try have BA := BA.keep hbwN
         obtain ⟨sN, cN, eN, _⟩ := BN.slice
         subst eN)
      | (go_at_call 12
         refine (HON0.out _).mono ?_
         rintro e wO ⟨rfl, hbwO⟩
         try have BA := BA.keep hbwO
         have hEwO : Below W.heap.size W wO := by
           refine below_step ?_ ?_ hbwO
           · repeat' (first | with_reducible exact Below.refl _ _ | with_reducible assumption | with_reducible refine Below.drew ?_ | with_reducible refine Below.setCell ?_ ?_ _ | with_reducible refine Below.alloc ?_ ?_ _ | with_reducible exact Nat.le_refl _ | omega | (simp; done) | (simp; omega) | (simp [World.drew]; done) | (simp [World.drew]; omega))
           · first | omega | (simp; done) | (simp; omega) | (simp [World.drew]; done) | (simp [World.drew]; omega)
         have zwO := hEwO.size)
      | (go_at_call 10
         refine (HMU.out _ _ _ BA BN).mono ?_
         rintro e wS ⟨uS, LS, rfl, hLS, BS, hbwS⟩
         have hEwS : Below W.heap.size W wS := by
           refine below_step ?_ ?_ hbwS
           · repeat' (first | with_reducible exact Below.refl _ _ | with_reducible assumption | with_reducible refine Below.drew ?_ | with_reducible refine Below.setCell ?_ ?_ _ | with_reducible refine Below.alloc ?_ ?_ _ | with_reducible exact Nat.le_refl _ | omega | (simp; done) | (simp; omega) | (simp [World.drew]; done) | (simp [World.drew]; omega))
           · first | omega | (simp; done) | (simp; omega) | (simp [World.drew]; done) | (simp [World.drew]; omega)
         have zwS := hEwS.size
         obtain ⟨sS, cS, eS, _⟩ := BS.slice
         subst eS)
      | (go_at_call 9
         refine (HIS.out _ _ _ hLS BS).mono ?_
         rintro e wI ⟨rfl, hbwI⟩
         have hEwI : Below W.heap.size W wI := by
           refine below_step ?_ ?_ hbwI
           · repeat' (first | with_reducible exact Below.refl _ _ | with_reducible assumption | with_reducible refine Below.drew ?_ | with_reducible refine Below.setCell ?_ ?_ _ | with_reducible refine Below.alloc ?_ ?_ _ | with_reducible exact Nat.le_refl _ | omega | (simp; done) | (simp; omega) | (simp [World.drew]; done) | (simp [World.drew]; omega))
           · first | omega | (simp; done) | (simp; omega) | (simp [World.drew]; done) | (simp [World.drew]; omega)
         have zwI := hEwI.size))
    all_goals
      go_wp2_with fail
      go_meet
      refine ⟨rfl, ?_⟩
      repeat' (first | with_reducible exact Below.refl _ _ | with_reducible assumption | with_reducible refine Below.drew ?_ | with_reducible refine Below.setCell ?_ ?_ _ | with_reducible refine Below.alloc ?_ ?_ _ | with_reducible exact Nat.le_refl _ | omega | (simp; done) | (simp; omega) | (simp [World.drew]; done) | (simp [World.drew]; omega))
  case rest =>
    obtain ⟨rfl, hb⟩ := hcut
    have hsz := (Nat.le_trans (Nat.le_of_eq hgd.symm) hW.size)
    have A := A.keep hb
    have B := B.keep hb
    have hW := hW.trans (hb.mono hsz)
    clear hb a0 a1 a2 a3 a4 a5 a6 a7 za p0 p1 p2 p3 p4 p5 p6 p7 zp hsz X7
    obtain ⟨a0, a1, a2, a3, a4, a5, a6, a7, za⟩ := A.f4
    obtain ⟨b0, b1, b2, b3, b4, b5, b6, b7, zb⟩ := B.f4
    go_wp2_with fail
    refine (HD.out _).mono ?_
    rintro e w5 ⟨rfl, hb⟩
    have hsz := (Nat.le_trans (Nat.le_of_eq hgd.symm) hW.size)
    have A := A.keep hb
    have B := B.keep hb
    have hW := hW.trans (hb.mono hsz)
    clear hb a0 a1 a2 a3 a4 a5 a6 a7 za b0 b1 b2 b3 b4 b5 b6 b7 zb hsz
    go_upto_region 7 with fail
    have hsz := (Nat.le_trans (Nat.le_of_eq hgd.symm) hW.size)
    have hz5 : w5.heap.size < w5.heap.size + 1 := Nat.lt_succ_self _
    refine wp_gen (fun W => Below gA w W ∧ Bk W gA 24 (A4 (wd0 a) (wd1 a) (wd2 a) (wd3 a)) ∧ Bk W gB 24 (A4 (wd0 b) (wd1 b) (wd2 b) (wd3 b)) ∧ Bk W w5.heap.size 24 (A4 (wd0 q) (wd1 q) (wd2 q) (wd3 q)) ∧ Bk W (w5.heap.size + 1) 24 (A4 (wd0 r) (wd1 r) (wd2 r) (wd3 r)))
      ⟨(hW.alloc hsz _).alloc (by simp; omega) _, (A.alloc _).alloc _, (B.alloc _).alloc _, (Bk.new _ _ _).alloc _, Bk.new' _ _ _ (by simp)⟩ ?_
    clear hW A B hsz hz5
    generalize w5.heap.size + 1 = g10 at *
    generalize w5.heap.size = g9 at *
    rintro W2 ⟨hW, A, B, X9, X10⟩
    obtain ⟨b0, b1, b2, b3, b4, b5, b6, b7, zb⟩ := B.f4
    go_wp2_with fail
    refine (HZ.out _).mono ?_
    rintro e w6 ⟨rfl, hb⟩
    have hsz := (Nat.le_trans (Nat.le_of_eq hgd.symm) hW.size)
    have A := A.keep hb
    have B := B.keep hb
    have X9 := X9.keep hb
    have X10 := X10.keep hb
    have hW := hW.trans (hb.mono hsz)
    clear hb b0 b1 b2 b3 b4 b5 b6 b7 zb hsz
    obtain ⟨q0, q1, q2, q3, q4, q5, q6, q7, zq⟩ := X9.f4
    go_wp2_with fail
    refine (HZQ.out _).mono ?_
    rintro e w7 ⟨rfl, hb⟩
    have hsz := (Nat.le_trans (Nat.le_of_eq hgd.symm) hW.size)
    have X10 := X10.keep hb
    have hW := hW.trans (hb.mono hsz)
    clear hb q0 q1 q2 q3 q4 q5 q6 q7 zq hsz X9
    obtain ⟨r0, r1, r2, r3, r4, r5, r6, r7, zr⟩ := X10.f4
    go_wp2_with fail
    refine (HZR.out _).mono ?_
    rintro e w8 ⟨rfl, hb⟩
    have hsz := (Nat.le_trans (Nat.le_of_eq hgd.symm) hW.size)
    have hW := hW.trans (hb.mono hsz)
    go_wp2_with fail
    go_ret
    rw [hgd]
    exact ⟨rfl, hW⟩
set_option maxRecDepth 100000 in
set_option maxHeartbeats 8000000 in
theorem walk_q (a b n p q r : Nat) (ov : Bool) (w : World)
    (HOA : Hid (∀ W : World, Calls Try.prog 11 #[.agg #[.int .u64 (wd0 a : Int), .int .u64 (wd1 a : Int), .int .u64 (wd2 a : Int), .int .u64 (wd3 a : Int)]] W fun e w' => ∃ v, e = .returned v ∧ BX w' v a 256 ∧ Below W.heap.size W w'))
    (HON : Hid (∀ W : World, Calls Try.prog 11 #[.agg #[.int .u64 (wd0 n : Int), .int .u64 (wd1 n : Int), .int .u64 (wd2 n : Int), .int .u64 (wd3 n : Int)]] W fun e w' => ∃ v, e = .returned v ∧ BX w' v n 256 ∧ Below W.heap.size W w'))
    (HON0 : Hid (∀ W : World, Calls Try.prog 12 #[.int .u64 (n : Int)] W fun e w' => e = .returned (nv n) ∧ Below W.heap.size W w'))
    (HMU : Hid (∀ (W : World) (u v : Value), BX W u a 256 → BX W v n 256 → Calls Try.prog 10 #[u, v] W fun e w' => ∃ v' L, e = .returned v' ∧ L ≤ 512 ∧ BX w' v' (a * n) L ∧ Below W.heap.size W w'))
    (HIS : Hid (∀ (W : World) (v : Value) (L : Nat), L ≤ 512 → BX W v (a * n) L → Calls Try.prog 9 #[.agg #[.int .u64 (wd0 p : Int), .int .u64 (wd1 p : Int), .int .u64 (wd2 p : Int), .int .u64 (wd3 p : Int)], .bool ov, v] W fun e w' => e = .returned (.bool true) ∧ Below W.heap.size W w'))
    (HM : Hid (∀ W : World, Calls Try.prog 8 #[.agg #[.int .u64 (wd0 a : Int), .int .u64 (wd1 a : Int), .int .u64 (wd2 a : Int), .int .u64 (wd3 a : Int)], .int .u64 (n : Int)] W fun e w' => e = .returned (.tuple #[nv p, .bool ov]) ∧ Below W.heap.size W w'))
    (HOB : Hid (∀ W : World, Calls Try.prog 11 #[.agg #[.int .u64 (wd0 b : Int), .int .u64 (wd1 b : Int), .int .u64 (wd2 b : Int), .int .u64 (wd3 b : Int)]] W fun e w' => ∃ v, e = .returned v ∧ BX w' v b 256 ∧ Below W.heap.size W w'))
    (HD : Hid (∀ W : World, Calls Try.prog 13 #[.agg #[.int .u64 (wd0 a : Int), .int .u64 (wd1 a : Int), .int .u64 (wd2 a : Int), .int .u64 (wd3 a : Int)], .agg #[.int .u64 (wd0 b : Int), .int .u64 (wd1 b : Int), .int .u64 (wd2 b : Int), .int .u64 (wd3 b : Int)]] W fun e w' => e = .returned (.tuple #[nv q, nv r, .int .i64 0]) ∧ Below W.heap.size W w'))
    (HZ : Hid (∀ W : World, Calls Try.prog 14 #[.agg #[.int .u64 (wd0 b : Int), .int .u64 (wd1 b : Int), .int .u64 (wd2 b : Int), .int .u64 (wd3 b : Int)]] W fun e w' => e = .returned (.bool false) ∧ Below W.heap.size W w'))
    (HDV : Hid (∀ (W : World) (u v : Value), BX W u a 256 → BX W v b 256 → Calls Try.prog 15 #[u, v] W fun e w' => ∃ x y L, e = .returned (.tuple #[x, y]) ∧ L ≤ 512 ∧ BX w' x q 256 ∧ BX w' y r L ∧ Below W.heap.size W w'))
    (HIQ : Hid (∀ (W : World) (v : Value) (L : Nat), L ≤ 512 → BX W v (q) L → Calls Try.prog 9 #[.agg #[.int .u64 (wd0 q : Int), .int .u64 (wd1 q : Int), .int .u64 (wd2 q : Int), .int .u64 (wd3 q : Int)], .bool false, v] W fun e w' => e = .returned (.bool true) ∧ Below W.heap.size W w'))
    (HIR : Hid (∀ (W : World) (v : Value) (L : Nat), L ≤ 512 → BX W v (r) L → Calls Try.prog 9 #[.agg #[.int .u64 (wd0 r : Int), .int .u64 (wd1 r : Int), .int .u64 (wd2 r : Int), .int .u64 (wd3 r : Int)], .bool false, v] W fun e w' => e = .returned (.bool true) ∧ Below W.heap.size W w'))
    : Calls Try.prog 3 #[nv a, nv b, .int .u64 (n : Int)] w fun e w' => e = .returned (.bool true) ∧ Below w.heap.size w w' := by
  go_enter Try.func3, Try.ntmps3
  go_wp2_with fail
  refine (counts_any _).mono ?_
  rintro e w1 ⟨rfl, hb1⟩
  have A : Bk w1 w.heap.size 24 (A4 (wd0 a) (wd1 a) (wd2 a) (wd3 a)) := Bk.keep ((Bk.new _ _ _).alloc _) hb1
  have B : Bk w1 (w.heap.size + 1) 24 (A4 (wd0 b) (wd1 b) (wd2 b) (wd3 b)) := Bk.keep (Bk.new' _ _ _ (by simp)) hb1
  have hW : Below w.heap.size w w1 := below_step (((Below.refl _ _).alloc (Nat.le_refl _) _).alloc (by simp) _) (by simp; omega) hb1
  clear hb1
  obtain ⟨gB, hgB⟩ : ∃ gB, gB = w.heap.size + 1 := ⟨_, rfl⟩
  rw [← hgB] at B
  generalize hgd : w.heap.size = gA at *
  rw [← hgB]
  clear hgB
  obtain ⟨a0, a1, a2, a3, a4, a5, a6, a7, za⟩ := A.f4
  go_wp2_with fail
  refine (HM.out _).mono ?_
  rintro e w2 ⟨rfl, hb⟩
  have hsz := (Nat.le_trans (Nat.le_of_eq hgd.symm) hW.size)
  have A := A.keep hb
  have B := B.keep hb
  have hW := hW.trans (hb.mono hsz)
  clear hb a0 a1 a2 a3 a4 a5 a6 a7 za hsz
  go_upto_region 4 with fail
  have hsz := (Nat.le_trans (Nat.le_of_eq hgd.symm) hW.size)
  refine wp_gen (fun W => Below gA w W ∧ Bk W gA 24 (A4 (wd0 a) (wd1 a) (wd2 a) (wd3 a)) ∧ Bk W gB 24 (A4 (wd0 b) (wd1 b) (wd2 b) (wd3 b)) ∧ Bk W w2.heap.size 24 (A4 (wd0 p) (wd1 p) (wd2 p) (wd3 p))) ⟨hW.alloc hsz _, A.alloc _, B.alloc _, Bk.new _ _ _⟩ ?_
  clear hW A B hsz
  generalize w2.heap.size = g7 at *
  rintro W ⟨hW, A, B, X7⟩
  obtain ⟨a0, a1, a2, a3, a4, a5, a6, a7, za⟩ := A.f4
  obtain ⟨p0, p1, p2, p3, p4, p5, p6, p7, zp⟩ := X7.f4
  go_cut [31] (fun s31 wx => s31 = .bool false ∧ Below W.heap.size W wx)
  case first =>
    go_region_held3 (fun w' => w'.cell? ⟨g7, 0, none⟩ = some (.int .u64 (wd0 p : Int)) ∧ w'.cell? ⟨g7, 1, none⟩ = some (.int .u64 (wd1 p : Int)) ∧ w'.cell? ⟨g7, 2, none⟩ = some (.int .u64 (wd2 p : Int)) ∧ w'.cell? ⟨g7, 3, none⟩ = some (.int .u64 (wd3 p : Int)) ∧ w'.cell? ⟨gA, 0, none⟩ = some (.int .u64 (wd0 a : Int)) ∧ w'.cell? ⟨gA, 1, none⟩ = some (.int .u64 (wd1 a : Int)) ∧ w'.cell? ⟨gA, 2, none⟩ = some (.int .u64 (wd2 a : Int)) ∧ w'.cell? ⟨gA, 3, none⟩ = some (.int .u64 (wd3 a : Int)))
      ((refine ⟨?_, ?_, ?_, ?_, ?_, ?_, ?_, ?_⟩; (focus (refine cellS (w := W) ?_ p0; repeat' (first | with_reducible exact Below.refl _ _ | with_reducible assumption | with_reducible refine Below.drew ?_ | with_reducible refine Below.setCell ?_ ?_ _ | with_reducible refine Below.alloc ?_ ?_ _ | with_reducible exact Nat.le_refl _ | omega | (simp; done) | (simp; omega) | (simp [World.drew]; done) | (simp [World.drew]; omega)))); (focus (refine cellS (w := W) ?_ p1; repeat' (first | with_reducible exact Below.refl _ _ | with_reducible assumption | with_reducible refine Below.drew ?_ | with_reducible refine Below.setCell ?_ ?_ _ | with_reducible refine Below.alloc ?_ ?_ _ | with_reducible exact Nat.le_refl _ | omega | (simp; done) | (simp; omega) | (simp [World.drew]; done) | (simp [World.drew]; omega)))); (focus (refine cellS (w := W) ?_ p2; repeat' (first | with_reducible exact Below.refl _ _ | with_reducible assumption | with_reducible refine Below.drew ?_ | with_reducible refine Below.setCell ?_ ?_ _ | with_reducible refine Below.alloc ?_ ?_ _ | with_reducible exact Nat.le_refl _ | omega | (simp; done) | (simp; omega) | (simp [World.drew]; done) | (simp [World.drew]; omega)))); (focus (refine cellS (w := W) ?_ p3; repeat' (first | with_reducible exact Below.refl _ _ | with_reducible assumption | with_reducible refine Below.drew ?_ | with_reducible refine Below.setCell ?_ ?_ _ | with_reducible refine Below.alloc ?_ ?_ _ | with_reducible exact Nat.le_refl _ | omega | (simp; done) | (simp; omega) | (simp [World.drew]; done) | (simp [World.drew]; omega)))); (focus (refine cellS (w := W) ?_ a0; repeat' (first | with_reducible exact Below.refl _ _ | with_reducible assumption | with_reducible refine Below.drew ?_ | with_reducible refine Below.setCell ?_ ?_ _ | with_reducible refine Below.alloc ?_ ?_ _ | with_reducible exact Nat.le_refl _ | omega | (simp; done) | (simp; omega) | (simp [World.drew]; done) | (simp [World.drew]; omega)))); (focus (refine cellS (w := W) ?_ a1; repeat' (first | with_reducible exact Below.refl _ _ | with_reducible assumption | with_reducible refine Below.drew ?_ | with_reducible refine Below.setCell ?_ ?_ _ | with_reducible refine Below.alloc ?_ ?_ _ | with_reducible exact Nat.le_refl _ | omega | (simp; done) | (simp; omega) | (simp [World.drew]; done) | (simp [World.drew]; omega)))); (focus (refine cellS (w := W) ?_ a2; repeat' (first | with_reducible exact Below.refl _ _ | with_reducible assumption | with_reducible refine Below.drew ?_ | with_reducible refine Below.setCell ?_ ?_ _ | with_reducible refine Below.alloc ?_ ?_ _ | with_reducible exact Nat.le_refl _ | omega | (simp; done) | (simp; omega) | (simp [World.drew]; done) | (simp [World.drew]; omega)))); (focus (refine cellS (w := W) ?_ a3; repeat' (first | with_reducible exact Below.refl _ _ | with_reducible assumption | with_reducible refine Below.drew ?_ | with_reducible refine Below.setCell ?_ ?_ _ | with_reducible refine Below.alloc ?_ ?_ _ | with_reducible exact Nat.le_refl _ | omega | (simp; done) | (simp; omega) | (simp [World.drew]; done) | (simp [World.drew]; omega))))))
      (first
      | (go_at_call 11
         with_reducible refine (HOA.out _).mono ?_
         rintro e wA ⟨uA, rfl, BA, hbwA⟩
         have hEwA : Below W.heap.size W wA := by
           refine below_step ?_ ?_ hbwA
           · repeat' (first | with_reducible exact Below.refl _ _ | with_reducible assumption | with_reducible refine Below.drew ?_ | with_reducible refine Below.setCell ?_ ?_ _ | with_reducible refine Below.alloc ?_ ?_ _ | with_reducible exact Nat.le_refl _ | omega | (simp; done) | (simp; omega) | (simp [World.drew]; done) | (simp [World.drew]; omega))
           · first | omega | (simp; done) | (simp; omega) | (simp [World.drew]; done) | (simp [World.drew]; omega)
         have zwA := hEwA.size
         try have BN := BN.keep hbwA
         obtain ⟨sA, cA, eA, _⟩ := BA.slice
         subst eA)
      | (go_at_call 11
         with_reducible refine (HON.out _).mono ?_
         rintro e wN ⟨uN, rfl, BN, hbwN⟩
         have hEwN : Below W.heap.size W wN := by
           refine below_step ?_ ?_ hbwN
           · repeat' (first | with_reducible exact Below.refl _ _ | with_reducible assumption | with_reducible refine Below.drew ?_ | with_reducible refine Below.setCell ?_ ?_ _ | with_reducible refine Below.alloc ?_ ?_ _ | with_reducible exact Nat.le_refl _ | omega | (simp; done) | (simp; omega) | (simp [World.drew]; done) | (simp [World.drew]; omega))
           · first | omega | (simp; done) | (simp; omega) | (simp [World.drew]; done) | (simp [World.drew]; omega)
         have zwN := hEwN.size
         try have BA := BA.keep hbwN
         obtain ⟨sN, cN, eN, _⟩ := BN.slice
         subst eN)
      | (go_at_call 12
         refine (HON0.out _).mono ?_
         rintro e wO ⟨rfl, hbwO⟩
         try have BA := BA.keep hbwO
         have hEwO : Below W.heap.size W wO := by
           refine below_step ?_ ?_ hbwO
           · repeat' (first | with_reducible exact Below.refl _ _ | with_reducible assumption | with_reducible refine Below.drew ?_ | with_reducible refine Below.setCell ?_ ?_ _ | with_reducible refine Below.alloc ?_ ?_ _ | with_reducible exact Nat.le_refl _ | omega | (simp; done) | (simp; omega) | (simp [World.drew]; done) | (simp [World.drew]; omega))
           · first | omega | (simp; done) | (simp; omega) | (simp [World.drew]; done) | (simp [World.drew]; omega)
         have zwO := hEwO.size)
      | (go_at_call 10
         refine (HMU.out _ _ _ BA BN).mono ?_
         rintro e wS ⟨uS, LS, rfl, hLS, BS, hbwS⟩
         have hEwS : Below W.heap.size W wS := by
           refine below_step ?_ ?_ hbwS
           · repeat' (first | with_reducible exact Below.refl _ _ | with_reducible assumption | with_reducible refine Below.drew ?_ | with_reducible refine Below.setCell ?_ ?_ _ | with_reducible refine Below.alloc ?_ ?_ _ | with_reducible exact Nat.le_refl _ | omega | (simp; done) | (simp; omega) | (simp [World.drew]; done) | (simp [World.drew]; omega))
           · first | omega | (simp; done) | (simp; omega) | (simp [World.drew]; done) | (simp [World.drew]; omega)
         have zwS := hEwS.size
         obtain ⟨sS, cS, eS, _⟩ := BS.slice
         subst eS)
      | (go_at_call 9
         refine (HIS.out _ _ _ hLS BS).mono ?_
         rintro e wI ⟨rfl, hbwI⟩
         have hEwI : Below W.heap.size W wI := by
           refine below_step ?_ ?_ hbwI
           · repeat' (first | with_reducible exact Below.refl _ _ | with_reducible assumption | with_reducible refine Below.drew ?_ | with_reducible refine Below.setCell ?_ ?_ _ | with_reducible refine Below.alloc ?_ ?_ _ | with_reducible exact Nat.le_refl _ | omega | (simp; done) | (simp; omega) | (simp [World.drew]; done) | (simp [World.drew]; omega))
           · first | omega | (simp; done) | (simp; omega) | (simp [World.drew]; done) | (simp [World.drew]; omega)
         have zwI := hEwI.size))
    all_goals
      go_wp2_with fail
      go_meet
      refine ⟨rfl, ?_⟩
      repeat' (first | with_reducible exact Below.refl _ _ | with_reducible assumption | with_reducible refine Below.drew ?_ | with_reducible refine Below.setCell ?_ ?_ _ | with_reducible refine Below.alloc ?_ ?_ _ | with_reducible exact Nat.le_refl _ | omega | (simp; done) | (simp; omega) | (simp [World.drew]; done) | (simp [World.drew]; omega))
  case rest =>
    obtain ⟨rfl, hb⟩ := hcut
    have hsz := (Nat.le_trans (Nat.le_of_eq hgd.symm) hW.size)
    have A := A.keep hb
    have B := B.keep hb
    have hW := hW.trans (hb.mono hsz)
    clear hb a0 a1 a2 a3 a4 a5 a6 a7 za p0 p1 p2 p3 p4 p5 p6 p7 zp hsz X7
    obtain ⟨a0, a1, a2, a3, a4, a5, a6, a7, za⟩ := A.f4
    obtain ⟨b0, b1, b2, b3, b4, b5, b6, b7, zb⟩ := B.f4
    go_wp2_with fail
    refine (HD.out _).mono ?_
    rintro e w5 ⟨rfl, hb⟩
    have hsz := (Nat.le_trans (Nat.le_of_eq hgd.symm) hW.size)
    have A := A.keep hb
    have B := B.keep hb
    have hW := hW.trans (hb.mono hsz)
    clear hb a0 a1 a2 a3 a4 a5 a6 a7 za b0 b1 b2 b3 b4 b5 b6 b7 zb hsz
    go_upto_region 7 with fail
    have hsz := (Nat.le_trans (Nat.le_of_eq hgd.symm) hW.size)
    have hz5 : w5.heap.size < w5.heap.size + 1 := Nat.lt_succ_self _
    refine wp_gen (fun W => Below gA w W ∧ Bk W gA 24 (A4 (wd0 a) (wd1 a) (wd2 a) (wd3 a)) ∧ Bk W gB 24 (A4 (wd0 b) (wd1 b) (wd2 b) (wd3 b)) ∧ Bk W w5.heap.size 24 (A4 (wd0 q) (wd1 q) (wd2 q) (wd3 q)) ∧ Bk W (w5.heap.size + 1) 24 (A4 (wd0 r) (wd1 r) (wd2 r) (wd3 r)))
      ⟨(hW.alloc hsz _).alloc (by simp; omega) _, (A.alloc _).alloc _, (B.alloc _).alloc _, (Bk.new _ _ _).alloc _, Bk.new' _ _ _ (by simp)⟩ ?_
    clear hW A B hsz hz5
    generalize w5.heap.size + 1 = g10 at *
    generalize w5.heap.size = g9 at *
    rintro W2 ⟨hW, A, B, X9, X10⟩
    obtain ⟨b0, b1, b2, b3, b4, b5, b6, b7, zb⟩ := B.f4
    go_wp2_with fail
    refine (HZ.out _).mono ?_
    rintro e w6 ⟨rfl, hb⟩
    have hsz := (Nat.le_trans (Nat.le_of_eq hgd.symm) hW.size)
    have A := A.keep hb
    have B := B.keep hb
    have X9 := X9.keep hb
    have X10 := X10.keep hb
    have hW := hW.trans (hb.mono hsz)
    clear hb b0 b1 b2 b3 b4 b5 b6 b7 zb hsz
    go_upto_region 9 with fail
    refine wp_gen (fun W => Below gA w W ∧ Bk W gA 24 (A4 (wd0 a) (wd1 a) (wd2 a) (wd3 a)) ∧ Bk W gB 24 (A4 (wd0 b) (wd1 b) (wd2 b) (wd3 b)) ∧ Bk W g9 24 (A4 (wd0 q) (wd1 q) (wd2 q) (wd3 q)) ∧ Bk W g10 24 (A4 (wd0 r) (wd1 r) (wd2 r) (wd3 r))) ⟨hW, A, B, X9, X10⟩ ?_
    clear hW A B X9 X10
    rintro W ⟨hW, A, B, X9, X10⟩
    obtain ⟨a0, a1, a2, a3, a4, a5, a6, a7, za⟩ := A.f4
    obtain ⟨b0, b1, b2, b3, b4, b5, b6, b7, zb⟩ := B.f4
    go_cut [12, 13] (fun s12 s13 wx => ∃ (sx sy : Option Addr) (cx cy L : Nat), s12 = .slice sx 256 cx ∧ s13 = .slice sy L cy ∧ L ≤ 512 ∧ BX wx (.slice sx 256 cx) q 256 ∧ BX wx (.slice sy L cy) r L ∧ Below W.heap.size W wx)
    case first =>
      go_region_held3 (fun w' => w'.cell? ⟨gA, 0, none⟩ = some (.int .u64 (wd0 a : Int)) ∧ w'.cell? ⟨gA, 1, none⟩ = some (.int .u64 (wd1 a : Int)) ∧ w'.cell? ⟨gA, 2, none⟩ = some (.int .u64 (wd2 a : Int)) ∧ w'.cell? ⟨gA, 3, none⟩ = some (.int .u64 (wd3 a : Int)) ∧ w'.cell? ⟨gB, 0, none⟩ = some (.int .u64 (wd0 b : Int)) ∧ w'.cell? ⟨gB, 1, none⟩ = some (.int .u64 (wd1 b : Int)) ∧ w'.cell? ⟨gB, 2, none⟩ = some (.int .u64 (wd2 b : Int)) ∧ w'.cell? ⟨gB, 3, none⟩ = some (.int .u64 (wd3 b : Int)))
        ((refine ⟨?_, ?_, ?_, ?_, ?_, ?_, ?_, ?_⟩; (focus (refine cellS (w := W) ?_ a0; repeat' (first | with_reducible exact Below.refl _ _ | with_reducible assumption | with_reducible refine Below.drew ?_ | with_reducible refine Below.setCell ?_ ?_ _ | with_reducible refine Below.alloc ?_ ?_ _ | with_reducible exact Nat.le_refl _ | omega | (simp; done) | (simp; omega) | (simp [World.drew]; done) | (simp [World.drew]; omega)))); (focus (refine cellS (w := W) ?_ a1; repeat' (first | with_reducible exact Below.refl _ _ | with_reducible assumption | with_reducible refine Below.drew ?_ | with_reducible refine Below.setCell ?_ ?_ _ | with_reducible refine Below.alloc ?_ ?_ _ | with_reducible exact Nat.le_refl _ | omega | (simp; done) | (simp; omega) | (simp [World.drew]; done) | (simp [World.drew]; omega)))); (focus (refine cellS (w := W) ?_ a2; repeat' (first | with_reducible exact Below.refl _ _ | with_reducible assumption | with_reducible refine Below.drew ?_ | with_reducible refine Below.setCell ?_ ?_ _ | with_reducible refine Below.alloc ?_ ?_ _ | with_reducible exact Nat.le_refl _ | omega | (simp; done) | (simp; omega) | (simp [World.drew]; done) | (simp [World.drew]; omega)))); (focus (refine cellS (w := W) ?_ a3; repeat' (first | with_reducible exact Below.refl _ _ | with_reducible assumption | with_reducible refine Below.drew ?_ | with_reducible refine Below.setCell ?_ ?_ _ | with_reducible refine Below.alloc ?_ ?_ _ | with_reducible exact Nat.le_refl _ | omega | (simp; done) | (simp; omega) | (simp [World.drew]; done) | (simp [World.drew]; omega)))); (focus (refine cellS (w := W) ?_ b0; repeat' (first | with_reducible exact Below.refl _ _ | with_reducible assumption | with_reducible refine Below.drew ?_ | with_reducible refine Below.setCell ?_ ?_ _ | with_reducible refine Below.alloc ?_ ?_ _ | with_reducible exact Nat.le_refl _ | omega | (simp; done) | (simp; omega) | (simp [World.drew]; done) | (simp [World.drew]; omega)))); (focus (refine cellS (w := W) ?_ b1; repeat' (first | with_reducible exact Below.refl _ _ | with_reducible assumption | with_reducible refine Below.drew ?_ | with_reducible refine Below.setCell ?_ ?_ _ | with_reducible refine Below.alloc ?_ ?_ _ | with_reducible exact Nat.le_refl _ | omega | (simp; done) | (simp; omega) | (simp [World.drew]; done) | (simp [World.drew]; omega)))); (focus (refine cellS (w := W) ?_ b2; repeat' (first | with_reducible exact Below.refl _ _ | with_reducible assumption | with_reducible refine Below.drew ?_ | with_reducible refine Below.setCell ?_ ?_ _ | with_reducible refine Below.alloc ?_ ?_ _ | with_reducible exact Nat.le_refl _ | omega | (simp; done) | (simp; omega) | (simp [World.drew]; done) | (simp [World.drew]; omega)))); (focus (refine cellS (w := W) ?_ b3; repeat' (first | with_reducible exact Below.refl _ _ | with_reducible assumption | with_reducible refine Below.drew ?_ | with_reducible refine Below.setCell ?_ ?_ _ | with_reducible refine Below.alloc ?_ ?_ _ | with_reducible exact Nat.le_refl _ | omega | (simp; done) | (simp; omega) | (simp [World.drew]; done) | (simp [World.drew]; omega))))))
        (first
        | (go_at_call 11
           with_reducible refine (HOA.out _).mono ?_
           rintro e wA ⟨uA, rfl, BA, hbwA⟩
           have hEwA : Below W.heap.size W wA := by
             refine below_step ?_ ?_ hbwA
             · repeat' (first | with_reducible exact Below.refl _ _ | with_reducible assumption | with_reducible refine Below.drew ?_ | with_reducible refine Below.setCell ?_ ?_ _ | with_reducible refine Below.alloc ?_ ?_ _ | with_reducible exact Nat.le_refl _ | omega | (simp; done) | (simp; omega) | (simp [World.drew]; done) | (simp [World.drew]; omega))
             · first | omega | (simp; done) | (simp; omega) | (simp [World.drew]; done) | (simp [World.drew]; omega)
           have zwA := hEwA.size
           try have BB := BB.keep hbwA
           obtain ⟨sA, cA, eA, _⟩ := BA.slice
           subst eA)
        | (go_at_call 11
           with_reducible refine (HOB.out _).mono ?_
           rintro e wB ⟨uB, rfl, BB, hbwB⟩
           have hEwB : Below W.heap.size W wB := by
             refine below_step ?_ ?_ hbwB
             · repeat' (first | with_reducible exact Below.refl _ _ | with_reducible assumption | with_reducible refine Below.drew ?_ | with_reducible refine Below.setCell ?_ ?_ _ | with_reducible refine Below.alloc ?_ ?_ _ | with_reducible exact Nat.le_refl _ | omega | (simp; done) | (simp; omega) | (simp [World.drew]; done) | (simp [World.drew]; omega))
             · first | omega | (simp; done) | (simp; omega) | (simp [World.drew]; done) | (simp [World.drew]; omega)
           have zwB := hEwB.size
           try have BA := BA.keep hbwB
           obtain ⟨sB, cB, eB, _⟩ := BB.slice
           subst eB)
        | (go_at_call 15
           refine (HDV.out _ _ _ BA BB).mono ?_
           rintro e wD ⟨uX, uY, LY, rfl, hLY, BX1, BY1, hbwD⟩
           have hEwD : Below W.heap.size W wD := by
             refine below_step ?_ ?_ hbwD
             · repeat' (first | with_reducible exact Below.refl _ _ | with_reducible assumption | with_reducible refine Below.drew ?_ | with_reducible refine Below.setCell ?_ ?_ _ | with_reducible refine Below.alloc ?_ ?_ _ | with_reducible exact Nat.le_refl _ | omega | (simp; done) | (simp; omega) | (simp [World.drew]; done) | (simp [World.drew]; omega))
             · first | omega | (simp; done) | (simp; omega) | (simp [World.drew]; done) | (simp [World.drew]; omega)
           have zwD := hEwD.size
           obtain ⟨sX, cX, eX, _⟩ := BX1.slice
           obtain ⟨sY, cY, eY, _⟩ := BY1.slice
           subst eX eY))
      all_goals
        go_wp2_with fail
        go_meet
        refine ⟨_, _, _, _, _, rfl, rfl, hLY, BX1, BY1, ?_⟩
        repeat' (first | with_reducible exact Below.refl _ _ | with_reducible assumption | with_reducible refine Below.drew ?_ | with_reducible refine Below.setCell ?_ ?_ _ | with_reducible refine Below.alloc ?_ ?_ _ | with_reducible exact Nat.le_refl _ | omega | (simp; done) | (simp; omega) | (simp [World.drew]; done) | (simp [World.drew]; omega))
    case rest =>
      obtain ⟨sx, sy, cx, cy, L, rfl, rfl, hL, BX1, BY1, hb⟩ := hcut
      have hsz := (Nat.le_trans (Nat.le_of_eq hgd.symm) hW.size)
      have X9 := X9.keep hb
      have X10 := X10.keep hb
      have hW := hW.trans (hb.mono hsz)
      clear hb a0 a1 a2 a3 a4 a5 a6 a7 za b0 b1 b2 b3 b4 b5 b6 b7 zb hsz A B
      obtain ⟨q0, q1, q2, q3, q4, q5, q6, q7, zq⟩ := X9.f4
      go_wp2_with fail
      refine (HIQ.out _ _ _ (by omega) BX1).mono ?_
      rintro e w7 ⟨rfl, hb⟩
      have hsz := (Nat.le_trans (Nat.le_of_eq hgd.symm) hW.size)
      have X10 := X10.keep hb
      have BY1 := BY1.keep hb
      have hW := hW.trans (hb.mono hsz)
      clear hb q0 q1 q2 q3 q4 q5 q6 q7 zq hsz X9 BX1
      obtain ⟨r0, r1, r2, r3, r4, r5, r6, r7, zr⟩ := X10.f4
      go_wp2_with fail
      refine (HIR.out _ _ _ hL BY1).mono ?_
      rintro e w8 ⟨rfl, hb⟩
      have hsz := (Nat.le_trans (Nat.le_of_eq hgd.symm) hW.size)
      have hW := hW.trans (hb.mono hsz)
      go_wp2_with fail
      go_ret
      rw [hgd]
      exact ⟨rfl, hW⟩
set_option maxRecDepth 100000 in
set_option maxHeartbeats 8000000 in
theorem walk (a b n : Nat) (w : World) (ha : a < M256) (hb : b < M256) (hn : n < B64) :
    Calls Try.prog 3 #[nv a, nv b, .int .u64 (n : Int)] w fun e w' => e = .returned (.bool true) ∧ Below w.heap.size w w' := by
  have hnM : n < M256 := Nat.lt_trans hn (by decide)
  have hpM : a * n % M256 < M256 := Nat.mod_lt _ M256_pos
  have HOA := fun W => of_law a W ha
  have HON := fun W => of_law n W hnM
  have HON0 := fun W => of_any n W hn
  have HMU := fun W u v (hu : BX W u a 256) (hv : BX W v n 256) => mul2_any u v a n 256 256 W hu hv (by omega) (by omega)
  have HIS := fun W v L (hL : L ≤ 512) (hv : BX W v (a * n) L) => is_any (a * n % M256) (a * n) L (decide (M256 ≤ a * n)) v W hv (by omega) rfl rfl hpM
  have HM := fun W => mul_any a n W ha hn
  by_cases hb0 : b = 0
  · subst hb0
    have HD := fun W => div_zero a W
    have HZ := fun W => zero_any 0 W M256_pos
    rw [decide_eq_true rfl] at HZ
    exact walk_z a 0 n _ 0 0 _ w HOA HON HON0 HMU HIS HM HD HZ HZ HZ
  · have hq : a / b < M256 := Nat.lt_of_le_of_lt (Nat.div_le_self _ _) ha
    have hr : a % b < M256 := Nat.lt_of_le_of_lt (Nat.mod_le _ _) ha
    have HOB := fun W => of_law b W hb
    have HD := fun W => div_any a b W ha hb (by omega)
    have HZ := fun W => zero_any b W hb
    rw [decide_eq_false hb0] at HZ
    have HDV := fun W u v (hu : BX W u a 256) (hv : BX W v b 256) => div2_any u v a b 256 256 W hu hv (by omega) (by omega) (by omega) hb
    have HIQ := fun W v L (hL : L ≤ 512) (hv : BX W v (a / b) L) => is_any (a / b) (a / b) L false v W hv (by omega) (Nat.mod_eq_of_lt hq) (decide_eq_false (by omega)) hq
    have HIR := fun W v L (hL : L ≤ 512) (hv : BX W v (a % b) L) => is_any (a % b) (a % b) L false v W hv (by omega) (Nat.mod_eq_of_lt hr) (decide_eq_false (by omega)) hr
    exact walk_q a b n _ _ _ _ w HOA HON HON0 HMU HIS HM HOB HD HZ HDV HIQ HIR

set_option maxRecDepth 100000 in
set_option maxHeartbeats 2000000 in
theorem lifted (os : Os) (started : os.Started) (H : Type) (enc : TypeId × Value → H) :
    ReturnsInHanded {} Try.checked os 3 .any (Rows.numProductsSpec.pre6 enc Try.prog Try.f3 Rows.numProductsRow.domain false) (Rows.numProductsSpec.post enc Try.prog Try.f3 false true false false) := by
  refine returnsInHanded_of_change (C := Try.checked) own started (by kernel_rfl) Try.func3
    (ChangeSpec.witness6 (enc := enc) (C := Try.checked) false ⟨#[], #[I4 0 0 0 0, I4 0 0 0 0, .int .u64 0], []⟩ 8 (by kernel_rfl) (by kernel_rfl) (by kernel_rfl) (by kernel_rfl)) ?_
  intro W base args ds gs before hval0 hW hcnd _
  have hval : ∀ (j : Nat) t v, Try.f3.params[j]? = some t → args[j]? = some v → Value.okWide Try.prog W .any base t v := hval0
  have hW' := hW
  obtain ⟨p, q, hA0, hV, rfl, hfz, hnd⟩ := hW
  have hA : DataW.TrodAll enc Try.prog W 0 (fun _ => true) true Try.f3.params.toList args.toList ds p := hA0
  rw [Try.params3] at hA hval
  obtain ⟨v0, vs0, d0, ds0, p0, q0, hargs, rfl, rfl, h0, r0⟩ := trodAll_cons hA
  obtain ⟨v1, vs1, d1, ds1, p1, q1, rfl, rfl, rfl, h1, r1⟩ := trodAll_cons r0
  obtain ⟨v2, vs2, d2, ds2, p2, q2, rfl, rfl, rfl, h2, r2⟩ := trodAll_cons r1
  obtain ⟨rfl, rfl, rfl⟩ := trodAll_nil r2
  obtain rfl : args = #[v0, v1, v2] := by cases args; simp_all
  obtain ⟨rfl, rfl⟩ := trodVars_none hV
  have lt0 : ∀ x ∈ p0, x.block < W.heap.size := by obtain ⟨m, hm⟩ := h0; exact DataW.trod_lt m _ _ _ hm
  have lt1 : ∀ x ∈ p1, x.block < W.heap.size := by obtain ⟨m, hm⟩ := h1; exact DataW.trod_lt m _ _ _ hm
  have lt2 : ∀ x ∈ p2, x.block < W.heap.size := by obtain ⟨m, hm⟩ := h2; exact DataW.trod_lt m _ _ _ hm
  obtain ⟨zs0, hl0, rfl, hz0⟩ := open_ints_arr (n := 4) (k := .u64) Try.underlying24 Try.underlying22 (by kernel_rfl) (by kernel_rfl) (hval 0 24 v0 rfl rfl) h0
  obtain ⟨x0, hx0, ea0⟩ := num_of_words hl0 hz0
  obtain ⟨zs1, hl1, rfl, hz1⟩ := open_ints_arr (n := 4) (k := .u64) Try.underlying24 Try.underlying22 (by kernel_rfl) (by kernel_rfl) (hval 1 24 v1 rfl rfl) h1
  obtain ⟨x1, hx1, ea1⟩ := num_of_words hl1 hz1
  obtain ⟨y2, rfl, _, _, hwf2⟩ := open_int (k := .u64) Try.underlying22 (hval 2 22 v2 rfl rfl) h2
  have hy2 := wf_u64 hwf2
  obtain ⟨x2, rfl⟩ := Int.eq_ofNat_of_zero_le hy2.1
  clear hA0 hval0
  have hwalk := walk x0 x1 x2 W hx0 hx1 (by unfold B64; omega)
  rw [← ea0] at hwalk
  rw [← ea1] at hwalk
  refine hwalk.mono fun e W' ⟨he, bel⟩ => ?_
  subst he
  exact ⟨_, rfl, _, _, _, [], _, [], hW', trodAll_mk1 (shut_bool Try.underlying4 _), (trodAll_cons_mk (Below.trod laidOut (by kernel_rfl) (of_decide_eq_true (by kernel_rfl)) h0 bel lt0) (trodAll_cons_mk (Below.trod laidOut (by kernel_rfl) (of_decide_eq_true (by kernel_rfl)) h1 bel lt1) (trodAll_cons_mk (Below.trod laidOut (by kernel_rfl) (of_decide_eq_true (by kernel_rfl)) h2 bel lt2) trodAll_mk0))), rfl, bel.frame _, fun h => by cases h⟩

theorem over : Rows.numProductsRow.holds Try.pinned (OpenSpec.ofChange Rows.numProductsSpec) :=
  OpenClaim.holds_of_wide 3 Try.f3 rfl rfl rfl rfl rfl rfl rfl ⟨rfl, rfl, rfl, rfl, rfl⟩ rfl rfl rfl rfl rfl (by kernel_rfl) Try.func3 (by kernel_rfl)
    (of_decide_eq_true (by kernel_rfl)) (by unfold Func.isWrapper; first | (rw [if_pos (by decide +kernel)]; kernel_rfl) | (rw [if_neg (by decide +kernel)]; exact ⟨rfl, rfl⟩))
    (fun os started H enc _ => lifted os started H enc)

theorem proved : Rows.NumProductsSaid := over
#print axioms proved
end Go.Proofs.Ytkkkfcdoilojmaa.numProducts
