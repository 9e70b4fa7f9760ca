/-
  The walk of the law BitsWork, the two in the other order.
-/
import Derived.Test.YtiiaijoafahdmabBitN
import Derived.Test.YtiiaijoafahdmabOpen
import Derived.Lib.QuietBelow
namespace Go.Proofs.Ytiiaijoafahdmab.bitsWork
open Go.ChangeShapes Go.WideShapes Go.ChangeAt Go.RowKit
set_option linter.unusedVariables false

set_option maxRecDepth 100000 in
set_option maxHeartbeats 4000000 in
theorem walk_main_s (a b x y s n qq rm : Nat) (z z1 : Int) (w : World)
    (HC : Hid (∀ W : World, Calls Try.prog 15 #[nv a, nv b] W fun e w' => e = .returned (.int .i64 z) ∧ Below W.heap.size W w'))
    (HZ : Hid (∀ W : World, Calls Try.prog 20 #[nv b] W fun e w' => e = .returned (.bool false) ∧ Below W.heap.size W w'))
    (HW1 : Hid (∀ W : World, Calls Try.prog 22 #[.agg #[.int .u64 (wd0 b : Int), .int .u64 (wd1 b : Int), .int .u64 (wd2 b : Int), .int .u64 (wd3 b : Int)]] W fun e w' => e = .returned (nv x) ∧ Below W.heap.size W w'))
    (HW2 : Hid (∀ W : World, Calls Try.prog 22 #[.agg #[.int .u64 (wd0 a : Int), .int .u64 (wd1 a : Int), .int .u64 (wd2 a : Int), .int .u64 (wd3 a : Int)]] W fun e w' => e = .returned (nv y) ∧ Below W.heap.size W w'))
    (HC1 : Hid (∀ W : World, Calls Try.prog 15 #[nv x, nv y] W fun e w' => e = .returned (.int .i64 z1) ∧ Below W.heap.size W w'))
    (HZ2 : Hid (∀ W : World, Calls Try.prog 20 #[nv x] W fun e w' => e = .returned (.bool false) ∧ Below W.heap.size W w'))
    (HZ3 : Hid (∀ W : World, Calls Try.prog 20 #[nv y] W fun e w' => e = .returned (.bool false) ∧ Below W.heap.size W w'))
    (HO : Hid (∀ W : World, Calls Try.prog 31 #[.int .u64 1] W fun e w' => e = .returned (nv 1) ∧ Below W.heap.size W w'))
    (HA : Hid (∀ (W : World) (k : Nat), Nums W k 0 [a, 1] → k < W.heap.size → Calls Try.prog 14 #[.slice (some ⟨k, 0, none⟩) 2 2] W fun e w' => e = .returned (.tuple #[nv s, .bool false]) ∧ Below W.heap.size W w'))
    (HN : Hid (∀ W : World, Calls Try.prog 33 #[nv a] W fun e w' => e = .returned (nv n) ∧ Below W.heap.size W w'))
    (HD2 : Hid (∀ W : World, Calls Try.prog 32 #[nv n, nv s] W fun e w' => e = .returned (.tuple #[nv qq, nv rm, .int .i64 0]) ∧ Below W.heap.size W w'))
    (HC4 : Hid (∀ W : World, Calls Try.prog 15 #[nv rm, nv s] W fun e w' => e = .returned (.int .i64 (-1)) ∧ Below W.heap.size W w'))
    (h1 : 0 ≤ z1)
    (hz : decide ((0 : Int) < z) = true) :
    Calls Try.prog 9 #[nv a, nv b] w fun e w' => e = .returned (.bool true) ∧ Below w.heap.size w w' := by
  go_enter Try.func9, Try.ntmps9
  go_wp2_with fail
  refine (means_any _).mono ?_
  rintro e w1 ⟨rfl, hb1⟩
  have A : Bk w1 w.heap.size 26 (A4 (wd0 a) (wd1 a) (wd2 a) (wd3 a)) := Bk.keep ((Bk.new _ _ _).alloc _) hb1
  have B : Bk w1 (w.heap.size + 1) 26 (A4 (wd0 b) (wd1 b) (wd2 b) (wd3 b)) := Bk.keep (Bk.new' _ _ _ (by simp)) hb1
  have hW : Below w.heap.size w w1 := below_step (((Below.refl _ _).alloc (Nat.le_refl _) _).alloc (by simp) _) (by simp; omega) hb1
  clear hb1
  obtain ⟨a0, a1, a2, a3, a4, a5, a6, a7, za⟩ := A.f4
  obtain ⟨b0, b1, b2, b3, b4, b5, b6, b7, zb⟩ := B.f4
  go_wp2_with fail
  refine (HC.out _).mono ?_
  rintro e w2 ⟨rfl, hb⟩
  have A := A.keep hb
  have B := B.keep hb
  have hW := below_step hW hW.size hb
  clear hb a0 a1 a2 a3 a4 a5 a6 a7 za b0 b1 b2 b3 b4 b5 b6 b7 zb
  obtain ⟨a0, a1, a2, a3, a4, a5, a6, a7, za⟩ := A.f4
  obtain ⟨b0, b1, b2, b3, b4, b5, b6, b7, zb⟩ := B.f4
  go_upto_region 5 with fail
  refine wp_abs (fun W => Below w.heap.size w W ∧ Bk W w.heap.size 26 (A4 (wd0 b) (wd1 b) (wd2 b) (wd3 b)) ∧ Bk W (w.heap.size + 1) 26 (A4 (wd0 a) (wd1 a) (wd2 a) (wd3 a)))
    ⟨Below.set4 (Below.set4 hW (Nat.le_refl _) _ _ _ _) (by omega) _ _ _ _, (A.set4 _ _ _ _).far4 (by omega) _ _ _ _, (B.far4 (by omega) _ _ _ _).set4 _ _ _ _⟩ ?_
  clear hW A B a0 a1 a2 a3 a4 a5 a6 a7 za b0 b1 b2 b3 b4 b5 b6 b7 zb
  rintro W ⟨hW, A, B⟩
  obtain ⟨a0, a1, a2, a3, a4, a5, a6, a7, za⟩ := A.f4
  go_wp2_with fail
  refine (HZ.out _).mono ?_
  rintro e w3 ⟨rfl, hb⟩
  have A := A.keep hb
  have B := B.keep hb
  have hW := below_step hW hW.size hb
  clear hb a0 a1 a2 a3 a4 a5 a6 a7 za
  go_upto_region 7 with fail
  generalize w3 = W at *
  obtain ⟨a0, a1, a2, a3, a4, a5, a6, a7, za⟩ := A.f4
  obtain ⟨b0, b1, b2, b3, b4, b5, b6, b7, zb⟩ := B.f4
  go_cut [5, 6] (fun s5 s6 wx => ∃ g5 g6 : Nat, s5 = .pointer (some ⟨g5, 0, none⟩) ∧ s6 = .pointer (some ⟨g6, 0, none⟩) ∧ g5 ≠ g6 ∧ Below W.heap.size W wx ∧ W.heap.size ≤ g5 ∧ W.heap.size ≤ g6 ∧ Bk wx g5 26 (A4 (wd0 x) (wd1 x) (wd2 x) (wd3 x)) ∧ Bk wx g6 26 (A4 (wd0 y) (wd1 y) (wd2 y) (wd3 y)))
  case first =>
    go_region_held3 (fun w' => w'.cell? ⟨w.heap.size, 0, none⟩ = some (.int .u64 (wd0 b : Int)) ∧ w'.cell? ⟨w.heap.size, 1, none⟩ = some (.int .u64 (wd1 b : Int)) ∧ w'.cell? ⟨w.heap.size, 2, none⟩ = some (.int .u64 (wd2 b : Int)) ∧ w'.cell? ⟨w.heap.size, 3, none⟩ = some (.int .u64 (wd3 b : Int)) ∧ w'.cell? ⟨w.heap.size + 1, 0, none⟩ = some (.int .u64 (wd0 a : Int)) ∧ w'.cell? ⟨w.heap.size + 1, 1, none⟩ = some (.int .u64 (wd1 a : Int)) ∧ w'.cell? ⟨w.heap.size + 1, 2, none⟩ = some (.int .u64 (wd2 a : Int)) ∧ w'.cell? ⟨w.heap.size + 1, 3, none⟩ = some (.int .u64 (wd3 a : Int)))
      ((refine ⟨?_, ?_, ?_, ?_, ?_, ?_, ?_, ?_⟩; (focus (refine cellS (w := W) ?_ a0; repeat' (first | with_reducible exact Below.refl _ _ | with_reducible assumption | with_reducible refine Below.drew ?_ | with_reducible refine Below.setCell ?_ ?_ _ | with_reducible refine Below.alloc ?_ ?_ _ | with_reducible exact Nat.le_refl _ | omega | (simp; done) | (simp; omega) | (simp [World.drew]; done) | (simp [World.drew]; omega)))); (focus (refine cellS (w := W) ?_ a1; repeat' (first | with_reducible exact Below.refl _ _ | with_reducible assumption | with_reducible refine Below.drew ?_ | with_reducible refine Below.setCell ?_ ?_ _ | with_reducible refine Below.alloc ?_ ?_ _ | with_reducible exact Nat.le_refl _ | omega | (simp; done) | (simp; omega) | (simp [World.drew]; done) | (simp [World.drew]; omega)))); (focus (refine cellS (w := W) ?_ a2; repeat' (first | with_reducible exact Below.refl _ _ | with_reducible assumption | with_reducible refine Below.drew ?_ | with_reducible refine Below.setCell ?_ ?_ _ | with_reducible refine Below.alloc ?_ ?_ _ | with_reducible exact Nat.le_refl _ | omega | (simp; done) | (simp; omega) | (simp [World.drew]; done) | (simp [World.drew]; omega)))); (focus (refine cellS (w := W) ?_ a3; repeat' (first | with_reducible exact Below.refl _ _ | with_reducible assumption | with_reducible refine Below.drew ?_ | with_reducible refine Below.setCell ?_ ?_ _ | with_reducible refine Below.alloc ?_ ?_ _ | with_reducible exact Nat.le_refl _ | omega | (simp; done) | (simp; omega) | (simp [World.drew]; done) | (simp [World.drew]; omega)))); (focus (refine cellS (w := W) ?_ b0; repeat' (first | with_reducible exact Below.refl _ _ | with_reducible assumption | with_reducible refine Below.drew ?_ | with_reducible refine Below.setCell ?_ ?_ _ | with_reducible refine Below.alloc ?_ ?_ _ | with_reducible exact Nat.le_refl _ | omega | (simp; done) | (simp; omega) | (simp [World.drew]; done) | (simp [World.drew]; omega)))); (focus (refine cellS (w := W) ?_ b1; repeat' (first | with_reducible exact Below.refl _ _ | with_reducible assumption | with_reducible refine Below.drew ?_ | with_reducible refine Below.setCell ?_ ?_ _ | with_reducible refine Below.alloc ?_ ?_ _ | with_reducible exact Nat.le_refl _ | omega | (simp; done) | (simp; omega) | (simp [World.drew]; done) | (simp [World.drew]; omega)))); (focus (refine cellS (w := W) ?_ b2; repeat' (first | with_reducible exact Below.refl _ _ | with_reducible assumption | with_reducible refine Below.drew ?_ | with_reducible refine Below.setCell ?_ ?_ _ | with_reducible refine Below.alloc ?_ ?_ _ | with_reducible exact Nat.le_refl _ | omega | (simp; done) | (simp; omega) | (simp [World.drew]; done) | (simp [World.drew]; omega)))); (focus (refine cellS (w := W) ?_ b3; repeat' (first | with_reducible exact Below.refl _ _ | with_reducible assumption | with_reducible refine Below.drew ?_ | with_reducible refine Below.setCell ?_ ?_ _ | with_reducible refine Below.alloc ?_ ?_ _ | with_reducible exact Nat.le_refl _ | omega | (simp; done) | (simp; omega) | (simp [World.drew]; done) | (simp [World.drew]; omega))))))
      (first
      | (go_at_call 22
         with_reducible refine (HW1.out _).mono ?_
         rintro e w5 ⟨rfl, hb5⟩
         have hE5 : Below W.heap.size W w5 := by
           refine below_step ?_ ?_ hb5
           · repeat' (first | with_reducible exact Below.refl _ _ | with_reducible assumption | with_reducible refine Below.drew ?_ | with_reducible refine Below.setCell ?_ ?_ _ | with_reducible refine Below.alloc ?_ ?_ _ | with_reducible exact Nat.le_refl _ | omega | (simp; done) | (simp; omega) | (simp [World.drew]; done) | (simp [World.drew]; omega))
           · first | omega | (simp; done) | (simp; omega) | (simp [World.drew]; done) | (simp [World.drew]; omega)
         have z5 := hE5.size
         try (refine with_fact (p := Bk w5 (W.heap.size) 26 #[.int .u64 0, .int .u64 0, .int .u64 0, .int .u64 0]) ?_ ?_; (focus (refine Bk.keep ?_ hb5; (first | exact Bk.new _ _ _ | exact (Bk.new _ _ _).drew | exact (Bk.new _ _ _).alloc _ | exact ((Bk.new _ _ _).alloc _).drew); done)); intro N5a; obtain ⟨n5a0, n5a1, n5a2, n5a3, n5a4, n5a5, n5a6, n5a7, n5a8⟩ := N5a.f4)
         try (refine with_fact (p := Bk w5 (W.heap.size + 1) 26 #[.int .u64 0, .int .u64 0, .int .u64 0, .int .u64 0]) ?_ ?_; (focus (refine Bk.keep ?_ hb5; (first | (refine Bk.new' _ _ _ ?_; (simp; done)) | (refine Bk.drew (Bk.new' _ _ _ ?_); (simp; done))); done)); intro N5b; obtain ⟨n5b0, n5b1, n5b2, n5b3, n5b4, n5b5, n5b6, n5b7, n5b8⟩ := N5b.f4))
      | (go_at_call 22
         with_reducible refine (HW2.out _).mono ?_
         rintro e w6 ⟨rfl, hb6⟩
         have hE6 : Below W.heap.size W w6 := by
           refine below_step ?_ ?_ hb6
           · repeat' (first | with_reducible exact Below.refl _ _ | with_reducible assumption | with_reducible refine Below.drew ?_ | with_reducible refine Below.setCell ?_ ?_ _ | with_reducible refine Below.alloc ?_ ?_ _ | with_reducible exact Nat.le_refl _ | omega | (simp; done) | (simp; omega) | (simp [World.drew]; done) | (simp [World.drew]; omega))
           · first | omega | (simp; done) | (simp; omega) | (simp [World.drew]; done) | (simp [World.drew]; omega)
         have z6 := hE6.size
         try (refine with_fact (p := Bk w6 (W.heap.size) 26 #[.int .u64 0, .int .u64 0, .int .u64 0, .int .u64 0]) ?_ ?_; (focus (refine Bk.keep ?_ hb6; (first | exact N5a | exact N5a.alloc _ | exact (N5a.alloc _).alloc _); done)); intro N6a; obtain ⟨n6a0, n6a1, n6a2, n6a3, n6a4, n6a5, n6a6, n6a7, n6a8⟩ := N6a.f4)
         try (refine with_fact (p := Bk w6 (W.heap.size + 1) 26 #[.int .u64 0, .int .u64 0, .int .u64 0, .int .u64 0]) ?_ ?_; (focus (refine Bk.keep ?_ hb6; (first | exact N5b | exact N5b.alloc _ | exact (N5b.alloc _).alloc _); done)); intro N6b; obtain ⟨n6b0, n6b1, n6b2, n6b3, n6b4, n6b5, n6b6, n6b7, n6b8⟩ := N6b.f4)
         try (refine with_fact (p := Bk w6 (w5.heap.size) 26 #[.int .u64 0, .int .u64 0, .int .u64 0, .int .u64 0]) ?_ ?_; (focus (refine Bk.keep ?_ hb6; (first | exact Bk.new _ _ _ | exact (Bk.new _ _ _).alloc _); done)); intro N6c; obtain ⟨n6c0, n6c1, n6c2, n6c3, n6c4, n6c5, n6c6, n6c7, n6c8⟩ := N6c.f4)
         try (refine with_fact (p := Bk w6 (w5.heap.size + 1) 26 #[.int .u64 0, .int .u64 0, .int .u64 0, .int .u64 0]) ?_ ?_; (focus (refine Bk.keep ?_ hb6; (refine Bk.new' _ _ _ ?_; (simp; done)); done)); intro N6d; obtain ⟨n6d0, n6d1, n6d2, n6d3, n6d4, n6d5, n6d6, n6d7, n6d8⟩ := N6d.f4)))
    all_goals
      go_wp2_with fail
      go_meet
      refine ⟨_, _, rfl, rfl, ?_, ?_, ?_, ?_, ?_, ?_⟩
      · first | omega | (simp; done) | (simp; omega) | (simp [World.drew]; done) | (simp [World.drew]; omega)
      · repeat' (first | with_reducible exact Below.refl _ _ | with_reducible assumption | with_reducible refine Below.drew ?_ | with_reducible refine Below.setCell ?_ ?_ _ | with_reducible refine Below.alloc ?_ ?_ _ | with_reducible exact Nat.le_refl _ | omega | (simp; done) | (simp; omega) | (simp [World.drew]; done) | (simp [World.drew]; omega))
      · first | omega | (simp; done) | (simp; omega) | (simp [World.drew]; done) | (simp [World.drew]; omega)
      · first | omega | (simp; done) | (simp; omega) | (simp [World.drew]; done) | (simp [World.drew]; omega)
      · change Bk _ _ _ #[Value.int .u64 (wd0 x : Int), .int .u64 (wd1 x : Int), .int .u64 (wd2 x : Int), .int .u64 (wd3 x : Int)]
        first
          | with_reducible exact Bk.new _ _ _
          | (with_reducible refine Bk.new' _ _ _ ?_; (simp; done))
          | repeat' (first | with_reducible exact Bk.new _ _ _ | with_reducible exact N6a.set4 _ _ _ _ | with_reducible exact N6b.set4 _ _ _ _ | with_reducible exact N6c.set4 _ _ _ _ | with_reducible exact N6d.set4 _ _ _ _ | with_reducible refine Bk.far4 ?_ ?_ _ _ _ _ | with_reducible refine Bk.alloc ?_ _ | omega | (simp; done) | (simp; omega))
      · change Bk _ _ _ #[Value.int .u64 (wd0 y : Int), .int .u64 (wd1 y : Int), .int .u64 (wd2 y : Int), .int .u64 (wd3 y : Int)]
        first
          | with_reducible exact Bk.new _ _ _
          | (with_reducible refine Bk.new' _ _ _ ?_; (simp; done))
          | (with_reducible refine (Bk.far4 N6a ?_ _ _ _ _).set4 _ _ _ _; first | omega | (simp; done) | (simp; omega))
          | (with_reducible refine (Bk.far4 N6b ?_ _ _ _ _).set4 _ _ _ _; first | omega | (simp; done) | (simp; omega))
          | (with_reducible refine (Bk.far4 N6c ?_ _ _ _ _).set4 _ _ _ _; first | omega | (simp; done) | (simp; omega))
          | (with_reducible refine (Bk.far4 N6d ?_ _ _ _ _).set4 _ _ _ _; first | omega | (simp; done) | (simp; omega))
          | with_reducible exact (Bk.alloc N6a _).set4 _ _ _ _
          | with_reducible exact (Bk.alloc N6b _).set4 _ _ _ _
          | with_reducible exact (Bk.alloc N6c _).set4 _ _ _ _
          | with_reducible exact (Bk.alloc N6d _).set4 _ _ _ _
          | repeat' (first | with_reducible exact Bk.new _ _ _ | with_reducible exact N6a.set4 _ _ _ _ | with_reducible exact N6b.set4 _ _ _ _ | with_reducible exact N6c.set4 _ _ _ _ | with_reducible exact N6d.set4 _ _ _ _ | with_reducible refine Bk.far4 ?_ ?_ _ _ _ _ | with_reducible refine Bk.alloc ?_ _ | omega | (simp; done) | (simp; omega))
  case rest =>
    obtain ⟨g5, g6, rfl, rfl, hne, hbc, hg5, hg6, X, Y⟩ := hcut
    have hW := below_step hW hW.size hbc
    have A := A.keep hbc
    have B := B.keep hbc
    clear hbc a0 a1 a2 a3 a4 a5 a6 a7 za b0 b1 b2 b3 b4 b5 b6 b7 zb HW1 HW2 hg5 hg6 hne
    obtain ⟨x0, x1, x2, x3, x4, x5, x6, x7, zx⟩ := X.f4
    obtain ⟨y0, y1, y2, y3, y4, y5, y6, y7, zy⟩ := Y.f4
    go_wp2_with fail
    refine (HC1.out _).mono ?_
    rintro e w7 ⟨rfl, hb⟩
    have B := B.keep hb
    have X := X.keep hb
    have Y := Y.keep hb
    have hW := below_step hW hW.size hb
    clear hb x0 x1 x2 x3 x4 x5 x6 x7 zx y0 y1 y2 y3 y4 y5 y6 y7 zy A
    have hd1 : decide (z1 < 0) = false := decide_eq_false (by omega)
    obtain ⟨x0, x1, x2, x3, x4, x5, x6, x7, zx⟩ := X.f4
    go_wp2_with fail
    refine (HZ2.out _).mono ?_
    rintro e w8 ⟨rfl, hb⟩
    have B := B.keep hb
    have Y := Y.keep hb
    have hW := below_step hW hW.size hb
    clear hb x0 x1 x2 x3 x4 x5 x6 x7 zx X
    obtain ⟨y0, y1, y2, y3, y4, y5, y6, y7, zy⟩ := Y.f4
    go_wp2_with fail
    refine (HZ3.out _).mono ?_
    rintro e w9 ⟨rfl, hb⟩
    have B := B.keep hb
    have Y := Y.keep hb
    have hW := below_step hW hW.size hb
    clear hb y0 y1 y2 y3 y4 y5 y6 y7 zy
    go_upto_region 10 with fail
    clear hd1
    generalize w9 = W at *
    obtain ⟨b0, b1, b2, b3, b4, b5, b6, b7, zb⟩ := B.f4
    go_cut [7, 8] (fun s7 s8 wx => ∃ g : Nat, s7 = .pointer (some ⟨g, 0, none⟩) ∧ s8 = .bool false ∧ Below W.heap.size W wx ∧ W.heap.size ≤ g ∧ Bk wx g 26 (A4 (wd0 s) (wd1 s) (wd2 s) (wd3 s)))
    case first =>
      go_region_held3 (fun w' => w'.cell? ⟨w.heap.size + 1, 0, none⟩ = some (.int .u64 (wd0 a : Int)) ∧ w'.cell? ⟨w.heap.size + 1, 1, none⟩ = some (.int .u64 (wd1 a : Int)) ∧ w'.cell? ⟨w.heap.size + 1, 2, none⟩ = some (.int .u64 (wd2 a : Int)) ∧ w'.cell? ⟨w.heap.size + 1, 3, none⟩ = some (.int .u64 (wd3 a : Int)))
        (first | with_reducible exact ⟨cell4_far k60 (Nat.ne_of_lt zb) _ _ _ _, cell4_far k61 (Nat.ne_of_lt zb) _ _ _ _, cell4_far k62 (Nat.ne_of_lt zb) _ _ _ _, cell4_far k63 (Nat.ne_of_lt zb) _ _ _ _⟩ | with_reducible exact ⟨cell4_far k60 (Nat.ne_of_lt y5) _ _ _ _, cell4_far k61 (Nat.ne_of_lt y5) _ _ _ _, cell4_far k62 (Nat.ne_of_lt y5) _ _ _ _, cell4_far k63 (Nat.ne_of_lt y5) _ _ _ _⟩ | with_reducible exact ⟨cell4_far k60 (Nat.ne_of_lt y51) _ _ _ _, cell4_far k61 (Nat.ne_of_lt y51) _ _ _ _, cell4_far k62 (Nat.ne_of_lt y51) _ _ _ _, cell4_far k63 (Nat.ne_of_lt y51) _ _ _ _⟩ | go_keep)
        (first
          | (go_at_call 31; refine (HO.out _).mono ?_; rintro e w5 ⟨rfl, hb5⟩; have hE5 : Below W.heap.size W w5 := below_step (by repeat (first | with_reducible exact Below.refl _ _ | with_reducible assumption | refine Below.drew ?_ | refine Below.alloc ?_ (by first | omega | (simp; done) | (simp; omega)) _)) (by first | (simp; done) | (simp; omega)) hb5; have z5 := hE5.size; have y5 : w.heap.size + 1 < w5.heap.size := Nat.lt_of_lt_of_le zb z5; have y51 : w.heap.size + 1 < w5.heap.size + 1 := Nat.lt_succ_of_lt y5; have k50 := cellS hE5 b0; have k51 := cellS hE5 b1; have k52 := cellS hE5 b2; have k53 := cellS hE5 b3; try (have N5 : Bk w5 W.heap.size 26 #[.int .u64 0, .int .u64 0, .int .u64 0, .int .u64 0] := (by first | exact Bk.keep (Bk.new _ _ _) hb5 | exact Bk.keep (Bk.drew (Bk.new _ _ _)) hb5); have tok5 : True := trivial))
          | (go_at_call 14; refine (HA.out _ _ (by first | exact nums2 _ _ _ | exact nums2' _ _ _ _ (by simp) | exact Nums.alloc_ (nums2 _ _ _) (by simp) _) (by first | (simp; done) | (simp; omega))).mono ?_; rintro e w6 ⟨rfl, hb6⟩; have hE6 : Below W.heap.size W w6 := below_step (by repeat (first | with_reducible exact Below.refl _ _ | with_reducible assumption | refine Below.drew ?_ | refine Below.alloc ?_ (by first | omega | (simp; done) | (simp; omega)) _)) (by first | omega | (simp; done) | (simp; omega)) hb6; have z6 := hE6.size; have k60 := cellS hE6 b0; have k61 := cellS hE6 b1; have k62 := cellS hE6 b2; have k63 := cellS hE6 b3; (first | (have N6 : Bk w6 W.heap.size 26 #[.int .u64 0, .int .u64 0, .int .u64 0, .int .u64 0] := (N5.alloc _).keep hb6; obtain ⟨n0, n1, n2, n3, n4, n5, n6, n7, n8⟩ := N6.f4) | (have N6 : Bk w6 w5.heap.size 26 #[.int .u64 0, .int .u64 0, .int .u64 0, .int .u64 0] := ((Bk.new _ _ _).alloc _).keep hb6; obtain ⟨n0, n1, n2, n3, n4, n5, n6, n7, n8⟩ := N6.f4) | (have N6 : Bk w6 (w5.heap.size + 1) 26 #[.int .u64 0, .int .u64 0, .int .u64 0, .int .u64 0] := (Bk.new' _ _ _ (by simp)).keep hb6; obtain ⟨n0, n1, n2, n3, n4, n5, n6, n7, n8⟩ := N6.f4) | skip)))
      all_goals
        go_wp2_with fail
        go_meet
        refine ⟨_, rfl, rfl, ?_, ?_, ?_⟩
        · repeat' (first | with_reducible exact Below.refl _ _ | with_reducible assumption | with_reducible refine Below.drew ?_ | with_reducible refine Below.setCell ?_ ?_ _ | with_reducible refine Below.alloc ?_ ?_ _ | with_reducible exact Nat.le_refl _ | omega | (simp; done) | (simp; omega) | (simp [World.drew]; done) | (simp [World.drew]; omega))
        · first | omega | (simp; done) | (simp; omega) | (simp [World.drew]; done) | (simp [World.drew]; omega)
        · first | with_reducible exact Bk.new _ _ _ | with_reducible exact N6.set4 _ _ _ _
    case rest =>
      obtain ⟨g7, rfl, rfl, hbc, hg, N⟩ := hcut
      have hW := below_step hW hW.size hbc
      have B := B.keep hbc
      have Y := Y.keep hbc
      clear hbc b0 b1 b2 b3 b4 b5 b6 b7 zb hg
      clear Y
      go_upto_region 13 with fail
      generalize wc = W at *
      obtain ⟨b0, b1, b2, b3, b4, b5, b6, b7, zb⟩ := B.f4
      obtain ⟨n0, n1, n2, n3, n4, n5, n6, n7, zn⟩ := N.f4
      go_cut [9, 10] (fun s9 s10 wx => ∃ g9 g10 : Nat, s9 = .pointer (some ⟨g9, 0, none⟩) ∧ s10 = .pointer (some ⟨g10, 0, none⟩) ∧ Below W.heap.size W wx ∧ W.heap.size ≤ g10 ∧ Bk wx g10 26 (A4 (wd0 rm) (wd1 rm) (wd2 rm) (wd3 rm)))
      case first =>
        go_region_held3 (fun w' => w'.cell? ⟨w.heap.size + 1, 0, none⟩ = some (.int .u64 (wd0 a : Int)) ∧ w'.cell? ⟨w.heap.size + 1, 1, none⟩ = some (.int .u64 (wd1 a : Int)) ∧ w'.cell? ⟨w.heap.size + 1, 2, none⟩ = some (.int .u64 (wd2 a : Int)) ∧ w'.cell? ⟨w.heap.size + 1, 3, none⟩ = some (.int .u64 (wd3 a : Int)) ∧ w'.cell? ⟨g7, 0, none⟩ = some (.int .u64 (wd0 s : Int)) ∧ w'.cell? ⟨g7, 1, none⟩ = some (.int .u64 (wd1 s : Int)) ∧ w'.cell? ⟨g7, 2, none⟩ = some (.int .u64 (wd2 s : Int)) ∧ w'.cell? ⟨g7, 3, none⟩ = some (.int .u64 (wd3 s : Int)))
          ((refine ⟨?_, ?_, ?_, ?_, ?_, ?_, ?_, ?_⟩; (focus (refine cellS (w := W) ?_ b0; repeat' (first | with_reducible exact Below.refl _ _ | with_reducible assumption | with_reducible refine Below.drew ?_ | with_reducible refine Below.setCell ?_ ?_ _ | with_reducible refine Below.alloc ?_ ?_ _ | with_reducible exact Nat.le_refl _ | omega | (simp; done) | (simp; omega) | (simp [World.drew]; done) | (simp [World.drew]; omega)))); (focus (refine cellS (w := W) ?_ b1; repeat' (first | with_reducible exact Below.refl _ _ | with_reducible assumption | with_reducible refine Below.drew ?_ | with_reducible refine Below.setCell ?_ ?_ _ | with_reducible refine Below.alloc ?_ ?_ _ | with_reducible exact Nat.le_refl _ | omega | (simp; done) | (simp; omega) | (simp [World.drew]; done) | (simp [World.drew]; omega)))); (focus (refine cellS (w := W) ?_ b2; repeat' (first | with_reducible exact Below.refl _ _ | with_reducible assumption | with_reducible refine Below.drew ?_ | with_reducible refine Below.setCell ?_ ?_ _ | with_reducible refine Below.alloc ?_ ?_ _ | with_reducible exact Nat.le_refl _ | omega | (simp; done) | (simp; omega) | (simp [World.drew]; done) | (simp [World.drew]; omega)))); (focus (refine cellS (w := W) ?_ b3; repeat' (first | with_reducible exact Below.refl _ _ | with_reducible assumption | with_reducible refine Below.drew ?_ | with_reducible refine Below.setCell ?_ ?_ _ | with_reducible refine Below.alloc ?_ ?_ _ | with_reducible exact Nat.le_refl _ | omega | (simp; done) | (simp; omega) | (simp [World.drew]; done) | (simp [World.drew]; omega)))); (focus (refine cellS (w := W) ?_ n0; repeat' (first | with_reducible exact Below.refl _ _ | with_reducible assumption | with_reducible refine Below.drew ?_ | with_reducible refine Below.setCell ?_ ?_ _ | with_reducible refine Below.alloc ?_ ?_ _ | with_reducible exact Nat.le_refl _ | omega | (simp; done) | (simp; omega) | (simp [World.drew]; done) | (simp [World.drew]; omega)))); (focus (refine cellS (w := W) ?_ n1; repeat' (first | with_reducible exact Below.refl _ _ | with_reducible assumption | with_reducible refine Below.drew ?_ | with_reducible refine Below.setCell ?_ ?_ _ | with_reducible refine Below.alloc ?_ ?_ _ | with_reducible exact Nat.le_refl _ | omega | (simp; done) | (simp; omega) | (simp [World.drew]; done) | (simp [World.drew]; omega)))); (focus (refine cellS (w := W) ?_ n2; repeat' (first | with_reducible exact Below.refl _ _ | with_reducible assumption | with_reducible refine Below.drew ?_ | with_reducible refine Below.setCell ?_ ?_ _ | with_reducible refine Below.alloc ?_ ?_ _ | with_reducible exact Nat.le_refl _ | omega | (simp; done) | (simp; omega) | (simp [World.drew]; done) | (simp [World.drew]; omega)))); (focus (refine cellS (w := W) ?_ n3; repeat' (first | with_reducible exact Below.refl _ _ | with_reducible assumption | with_reducible refine Below.drew ?_ | with_reducible refine Below.setCell ?_ ?_ _ | with_reducible refine Below.alloc ?_ ?_ _ | with_reducible exact Nat.le_refl _ | omega | (simp; done) | (simp; omega) | (simp [World.drew]; done) | (simp [World.drew]; omega))))))
          (first
          | (go_at_call 33
             refine (HN.out _).mono ?_
             rintro e w5 ⟨rfl, hb5⟩
             have hE5 : Below W.heap.size W w5 := by
               refine below_step ?_ ?_ hb5
               · repeat' (first | with_reducible exact Below.refl _ _ | with_reducible assumption | with_reducible refine Below.drew ?_ | with_reducible refine Below.setCell ?_ ?_ _ | with_reducible refine Below.alloc ?_ ?_ _ | with_reducible exact Nat.le_refl _ | omega | (simp; done) | (simp; omega) | (simp [World.drew]; done) | (simp [World.drew]; omega))
               · first | omega | (simp; done) | (simp; omega) | (simp [World.drew]; done) | (simp [World.drew]; omega)
             have z5 := hE5.size
             try (refine with_fact (p := Bk w5 (W.heap.size) 26 #[.int .u64 0, .int .u64 0, .int .u64 0, .int .u64 0]) ?_ ?_; (focus (refine Bk.keep ?_ hb5; (first | exact Bk.new _ _ _ | exact (Bk.new _ _ _).drew | exact (Bk.new _ _ _).alloc _ | exact ((Bk.new _ _ _).alloc _).drew); done)); intro N5a; obtain ⟨n5a0, n5a1, n5a2, n5a3, n5a4, n5a5, n5a6, n5a7, n5a8⟩ := N5a.f4)
             try (refine with_fact (p := Bk w5 (W.heap.size + 1) 26 #[.int .u64 0, .int .u64 0, .int .u64 0, .int .u64 0]) ?_ ?_; (focus (refine Bk.keep ?_ hb5; (first | (refine Bk.new' _ _ _ ?_; (simp; done)) | (refine Bk.drew (Bk.new' _ _ _ ?_); (simp; done))); done)); intro N5b; obtain ⟨n5b0, n5b1, n5b2, n5b3, n5b4, n5b5, n5b6, n5b7, n5b8⟩ := N5b.f4))
          | (go_at_call 32
             refine (HD2.out _).mono ?_
             rintro e w6 ⟨rfl, hb6⟩
             have hE6 : Below W.heap.size W w6 := by
               refine below_step ?_ ?_ hb6
               · repeat' (first | with_reducible exact Below.refl _ _ | with_reducible assumption | with_reducible refine Below.drew ?_ | with_reducible refine Below.setCell ?_ ?_ _ | with_reducible refine Below.alloc ?_ ?_ _ | with_reducible exact Nat.le_refl _ | omega | (simp; done) | (simp; omega) | (simp [World.drew]; done) | (simp [World.drew]; omega))
               · first | omega | (simp; done) | (simp; omega) | (simp [World.drew]; done) | (simp [World.drew]; omega)
             have z6 := hE6.size
             try (refine with_fact (p := Bk w6 (W.heap.size) 26 #[.int .u64 0, .int .u64 0, .int .u64 0, .int .u64 0]) ?_ ?_; (focus (refine Bk.keep ?_ hb6; (first | exact N5a | exact N5a.alloc _ | exact (N5a.alloc _).alloc _); done)); intro N6a; obtain ⟨n6a0, n6a1, n6a2, n6a3, n6a4, n6a5, n6a6, n6a7, n6a8⟩ := N6a.f4)
             try (refine with_fact (p := Bk w6 (W.heap.size + 1) 26 #[.int .u64 0, .int .u64 0, .int .u64 0, .int .u64 0]) ?_ ?_; (focus (refine Bk.keep ?_ hb6; (first | exact N5b | exact N5b.alloc _ | exact (N5b.alloc _).alloc _); done)); intro N6b; obtain ⟨n6b0, n6b1, n6b2, n6b3, n6b4, n6b5, n6b6, n6b7, n6b8⟩ := N6b.f4)
             try (refine with_fact (p := Bk w6 (w5.heap.size) 26 #[.int .u64 0, .int .u64 0, .int .u64 0, .int .u64 0]) ?_ ?_; (focus (refine Bk.keep ?_ hb6; (first | exact Bk.new _ _ _ | exact (Bk.new _ _ _).alloc _); done)); intro N6c; obtain ⟨n6c0, n6c1, n6c2, n6c3, n6c4, n6c5, n6c6, n6c7, n6c8⟩ := N6c.f4)
             try (refine with_fact (p := Bk w6 (w5.heap.size + 1) 26 #[.int .u64 0, .int .u64 0, .int .u64 0, .int .u64 0]) ?_ ?_; (focus (refine Bk.keep ?_ hb6; (refine Bk.new' _ _ _ ?_; (simp; done)); done)); intro N6d; obtain ⟨n6d0, n6d1, n6d2, n6d3, n6d4, n6d5, n6d6, n6d7, n6d8⟩ := N6d.f4)))
        all_goals
          go_wp2_with fail
          go_meet
          refine ⟨_, _, rfl, rfl, ?_, ?_, ?_⟩
          · repeat' (first | with_reducible exact Below.refl _ _ | with_reducible assumption | with_reducible refine Below.drew ?_ | with_reducible refine Below.setCell ?_ ?_ _ | with_reducible refine Below.alloc ?_ ?_ _ | with_reducible exact Nat.le_refl _ | omega | (simp; done) | (simp; omega) | (simp [World.drew]; done) | (simp [World.drew]; omega))
          · first | omega | (simp; done) | (simp; omega) | (simp [World.drew]; done) | (simp [World.drew]; omega)
          · change Bk _ _ _ #[Value.int .u64 (wd0 rm : Int), .int .u64 (wd1 rm : Int), .int .u64 (wd2 rm : Int), .int .u64 (wd3 rm : Int)]
            first
              | with_reducible exact Bk.new _ _ _
              | (with_reducible refine Bk.new' _ _ _ ?_; (simp; done))
              | (with_reducible refine (Bk.far4 N6a ?_ _ _ _ _).set4 _ _ _ _; first | omega | (simp; done) | (simp; omega))
              | (with_reducible refine (Bk.far4 N6b ?_ _ _ _ _).set4 _ _ _ _; first | omega | (simp; done) | (simp; omega))
              | (with_reducible refine (Bk.far4 N6c ?_ _ _ _ _).set4 _ _ _ _; first | omega | (simp; done) | (simp; omega))
              | (with_reducible refine (Bk.far4 N6d ?_ _ _ _ _).set4 _ _ _ _; first | omega | (simp; done) | (simp; omega))
              | with_reducible exact (Bk.alloc N6a _).set4 _ _ _ _
              | with_reducible exact (Bk.alloc N6b _).set4 _ _ _ _
              | with_reducible exact (Bk.alloc N6c _).set4 _ _ _ _
              | with_reducible exact (Bk.alloc N6d _).set4 _ _ _ _
              | repeat' (first | with_reducible exact Bk.new _ _ _ | with_reducible exact N6a.set4 _ _ _ _ | with_reducible exact N6b.set4 _ _ _ _ | with_reducible exact N6c.set4 _ _ _ _ | with_reducible exact N6d.set4 _ _ _ _ | with_reducible refine Bk.far4 ?_ ?_ _ _ _ _ | with_reducible refine Bk.alloc ?_ _ | omega | (simp; done) | (simp; omega))
      case rest =>
        obtain ⟨g9, g10, rfl, rfl, hbc, hg, X⟩ := hcut
        have hW := below_step hW hW.size hbc
        have N := N.keep hbc
        clear hbc b0 b1 b2 b3 b4 b5 b6 b7 zb n0 n1 n2 n3 n4 n5 n6 n7 zn
        obtain ⟨x0, x1, x2, x3, x4, x5, x6, x7, zx⟩ := X.f4
        obtain ⟨n0, n1, n2, n3, n4, n5, n6, n7, zn⟩ := N.f4
        go_wp2_with fail
        refine (HC4.out _).mono ?_
        rintro e w9 ⟨rfl, hb⟩
        have hW := below_step hW hW.size hb
        go_wp2_with fail
        go_ret
        exact ⟨rfl, hW⟩
end Go.Proofs.Ytiiaijoafahdmab.bitsWork
