/-
  What is proved: for every number and every count of bits the law NumShifts returns true, and its arguments read behind the call as they read before it. No condition.
-/
import Derived.Test.YtkifehabajchhaaNshR
import Derived.Test.YtkifehabajchhaaCnt
import Derived.Test.YtkifehabajchhaaOpen
namespace Go.Proofs.Ytkifehabajchhaa.numShifts
open Go.ChangeShapes Go.WideShapes Go.ChangeAt Go.RowKit
set_option linter.unusedVariables false

theorem own : ownKnob Try.prog.godebug = none := by kernel_rfl
theorem laidOut : laidOutB Try.prog = true := by kernel_rfl

theorem bin_num (r : Nat) (hr : r < M256) (w : World) : (binOp .eql 24 (nv r) (nv r)).run Try.prog w = .ok (.bool true) w := by
  have h := nv_eql r r hr hr w
  rw [decide_eq_true rfl] at h
  show (Op.equal 24 (nv r) (nv r) >>= fun b => pure (Value.bool b)).run Try.prog w = _
  rw [Sem.run_bind]
  show ((Op.equalIn 10000 24 (nv r) (nv r)).run Try.prog w).andThen _ = _
  rw [h]
  rfl
set_option maxRecDepth 100000 in
set_option maxHeartbeats 1000000 in
theorem ofl_any (a : Nat) (w : World) (ha : a < M256) :
    Calls Try.prog 23 #[nv a] w fun e w' => ∃ v, e = .returned v ∧ BX w' v a 256 ∧ Below w.heap.size w w' := by
  have HO := Lib.hid (fun W => of2_any a W ha)
  clear ha
  go_enter Try.func23, Try.ntmps23
  go_wp2_with fail
  refine (HO.out _).mono ?_
  rintro e w1 ⟨v, rfl, hB, hb⟩
  have HB := Lib.hid hB
  obtain ⟨s, c, rfl, _⟩ := hB.slice
  have hW : Below w.heap.size w w1 := below_step ((Below.refl _ _).alloc (Nat.le_refl _) _) (by simp) hb
  clear hb hB
  go_wp2_with fail
  go_ret
  exact ⟨_, rfl, HB.out, hW⟩
set_option maxRecDepth 100000 in
set_option maxHeartbeats 6000000 in
theorem walk_inn (a l r L : Nat) (z : Bool) (n : Int) (w : World) (ha : a < M256) (hl : l < M256) (hr : r < M256) (hn0 : -9223372036854775808 ≤ n)
    (HSL : Hid (∀ W : World, Calls Try.prog 18 #[.agg #[.int .u64 (wd0 a : Int), .int .u64 (wd1 a : Int), .int .u64 (wd2 a : Int), .int .u64 (wd3 a : Int)], .int .i64 n] W fun e w' => e = .returned (nv l) ∧ Below W.heap.size W w'))
    (HSR : Hid (∀ W : World, Calls Try.prog 19 #[.agg #[.int .u64 (wd0 a : Int), .int .u64 (wd1 a : Int), .int .u64 (wd2 a : Int), .int .u64 (wd3 a : Int)], .int .i64 n] W fun e w' => e = .returned (nv r) ∧ Below W.heap.size W w'))
    (HLn : Hid (∀ W : World, Calls Try.prog 14 #[.agg #[.int .u64 (wd0 a : Int), .int .u64 (wd1 a : Int), .int .u64 (wd2 a : Int), .int .u64 (wd3 a : Int)]] W fun e w' => e = .returned (.int .i64 (L : Int)) ∧ Below W.heap.size W w'))
    (HZ : Hid (∀ W : World, Calls Try.prog 20 #[.agg #[.int .u64 (wd0 a : Int), .int .u64 (wd1 a : Int), .int .u64 (wd2 a : Int), .int .u64 (wd3 a : Int)]] W fun e w' => e = .returned (.bool z) ∧ Below W.heap.size W w'))
    (hL : L ≤ 256) (hz : z = (L == 0)) (hLa : a < 2 ^ L) (hLb : 0 < L → bit a (L - 1) = true)
    (hcase : ((n < 0 ∨ ¬ n < 0 ∧ 255 < n) ∧ Hid (∀ W : World, Calls Try.prog 20 #[.agg #[.int .u64 (wd0 l : Int), .int .u64 (wd1 l : Int), .int .u64 (wd2 l : Int), .int .u64 (wd3 l : Int)]] W fun e w' => e = .returned (.bool true) ∧ Below W.heap.size W w') ∧ Hid (∀ W : World, Calls Try.prog 20 #[.agg #[.int .u64 (wd0 r : Int), .int .u64 (wd1 r : Int), .int .u64 (wd2 r : Int), .int .u64 (wd3 r : Int)]] W fun e w' => e = .returned (.bool true) ∧ Below W.heap.size W w')) ∨ (∃ k : Nat, n = (k : Int) ∧ k < 256 ∧ shN a k % M256 = l ∧ shN a (-(k : Int)) % M256 = r)) :
    Calls Try.prog 4 #[nv a, .int .i64 n] w fun e w' => e = .returned (.bool true) ∧ Below w.heap.size w w' := by
  have HC := Lib.hid hcase
  have HOF := Lib.hid (fun W => ofl_any a W ha)
  have HQ1 : Hid (∀ w, (Op.equalIn 10000 24 (nv l) (nv l)).run Try.prog w = .ok true w) := fun w => by
    have h := nv_eql l l hl hl w
    rwa [decide_eq_true rfl] at h
  have HQ2 : Hid (∀ w, (Op.equalIn 10000 24 (nv r) (nv r)).run Try.prog w = .ok true w) := fun w => by
    have h := nv_eql r r hr hr w
    rwa [decide_eq_true rfl] at h
  have HLa := Lib.hid hLa
  have HLb := Lib.hid hLb
  have HZZ := Lib.hid hz
  have HA := Lib.hid ha
  clear hcase ha hl hr hLa hLb hz
  go_enter Try.func4, Try.ntmps4
  go_wp2_with fail
  refine (counts_any _).mono ?_
  rintro e w1 ⟨rfl, hb1⟩
  have A : Bk w1 w.heap.size 24 (A4 (wd0 a) (wd1 a) (wd2 a) (wd3 a)) := Bk.keep (Bk.new _ _ _) hb1
  have hW : Below w.heap.size w w1 := below_step ((Below.refl _ _).alloc (Nat.le_refl _) _) (by simp) hb1
  have hgA : w.heap.size < w1.heap.size := A.lt
  clear hb1
  generalize hgd : w.heap.size = gA at *
  go_upto_region 3 with fail
  generalize w1 = W at *
  obtain ⟨a0, a1, a2, a3, a4, a5, a6, a7, za⟩ := A.f4
  go_cut [5, 6] (fun s5 s6 wx => ∃ g5 g6 : Nat, s5 = .pointer (some ⟨g5, 0, none⟩) ∧ s6 = .pointer (some ⟨g6, 0, none⟩) ∧ Below W.heap.size W wx ∧ Bk wx g5 24 (A4 (wd0 l) (wd1 l) (wd2 l) (wd3 l)) ∧ Bk wx g6 24 (A4 (wd0 r) (wd1 r) (wd2 r) (wd3 r)))
  case first =>
    go_region_held3 (fun w' => w'.cell? ⟨gA, 0, none⟩ = some (.int .u64 (wd0 a : Int)) ∧ w'.cell? ⟨gA, 1, none⟩ = some (.int .u64 (wd1 a : Int)) ∧ w'.cell? ⟨gA, 2, none⟩ = some (.int .u64 (wd2 a : Int)) ∧ w'.cell? ⟨gA, 3, none⟩ = some (.int .u64 (wd3 a : Int)))
      ((refine ⟨?_, ?_, ?_, ?_⟩; (focus (refine cellS (w := W) ?_ a0; repeat' (first | with_reducible exact Below.refl _ _ | with_reducible assumption | with_reducible refine Below.drew ?_ | with_reducible refine Below.setCell ?_ ?_ _ | with_reducible refine Below.alloc ?_ ?_ _ | with_reducible exact Nat.le_refl _ | omega | (simp; done) | (simp; omega) | (simp [World.drew]; done) | (simp [World.drew]; omega)))); (focus (refine cellS (w := W) ?_ a1; repeat' (first | with_reducible exact Below.refl _ _ | with_reducible assumption | with_reducible refine Below.drew ?_ | with_reducible refine Below.setCell ?_ ?_ _ | with_reducible refine Below.alloc ?_ ?_ _ | with_reducible exact Nat.le_refl _ | omega | (simp; done) | (simp; omega) | (simp [World.drew]; done) | (simp [World.drew]; omega)))); (focus (refine cellS (w := W) ?_ a2; repeat' (first | with_reducible exact Below.refl _ _ | with_reducible assumption | with_reducible refine Below.drew ?_ | with_reducible refine Below.setCell ?_ ?_ _ | with_reducible refine Below.alloc ?_ ?_ _ | with_reducible exact Nat.le_refl _ | omega | (simp; done) | (simp; omega) | (simp [World.drew]; done) | (simp [World.drew]; omega)))); (focus (refine cellS (w := W) ?_ a3; repeat' (first | with_reducible exact Below.refl _ _ | with_reducible assumption | with_reducible refine Below.drew ?_ | with_reducible refine Below.setCell ?_ ?_ _ | with_reducible refine Below.alloc ?_ ?_ _ | with_reducible exact Nat.le_refl _ | omega | (simp; done) | (simp; omega) | (simp [World.drew]; done) | (simp [World.drew]; omega))))))
      (first
      | (go_at_call 18
         refine (HSL.out _).mono ?_
         rintro e w5 ⟨rfl, hb5⟩
         have hE5 : Below W.heap.size W w5 := by
           refine below_step ?_ ?_ hb5
           · repeat' (first | with_reducible exact Below.refl _ _ | with_reducible assumption | with_reducible refine Below.drew ?_ | with_reducible refine Below.setCell ?_ ?_ _ | with_reducible refine Below.alloc ?_ ?_ _ | with_reducible exact Nat.le_refl _ | omega | (simp; done) | (simp; omega) | (simp [World.drew]; done) | (simp [World.drew]; omega))
           · first | omega | (simp; done) | (simp; omega) | (simp [World.drew]; done) | (simp [World.drew]; omega)
         have z5 := hE5.size
         try (refine with_fact (p := Bk w5 (W.heap.size) 24 #[.int .u64 0, .int .u64 0, .int .u64 0, .int .u64 0]) ?_ ?_; (focus (refine Bk.keep ?_ hb5; (first | exact Bk.new _ _ _ | exact (Bk.new _ _ _).drew | exact (Bk.new _ _ _).alloc _ | exact ((Bk.new _ _ _).alloc _).drew); done)); intro N5a; obtain ⟨n5a0, n5a1, n5a2, n5a3, n5a4, n5a5, n5a6, n5a7, n5a8⟩ := N5a.f4)
         try (refine with_fact (p := Bk w5 (W.heap.size + 1) 24 #[.int .u64 0, .int .u64 0, .int .u64 0, .int .u64 0]) ?_ ?_; (focus (refine Bk.keep ?_ hb5; (first | (refine Bk.new' _ _ _ ?_; (simp; done)) | (refine Bk.drew (Bk.new' _ _ _ ?_); (simp; done))); done)); intro N5b; obtain ⟨n5b0, n5b1, n5b2, n5b3, n5b4, n5b5, n5b6, n5b7, n5b8⟩ := N5b.f4))
      | (go_at_call 19
         refine (HSR.out _).mono ?_
         rintro e w6 ⟨rfl, hb6⟩
         have hE6 : Below W.heap.size W w6 := by
           refine below_step ?_ ?_ hb6
           · repeat' (first | with_reducible exact Below.refl _ _ | with_reducible assumption | with_reducible refine Below.drew ?_ | with_reducible refine Below.setCell ?_ ?_ _ | with_reducible refine Below.alloc ?_ ?_ _ | with_reducible exact Nat.le_refl _ | omega | (simp; done) | (simp; omega) | (simp [World.drew]; done) | (simp [World.drew]; omega))
           · first | omega | (simp; done) | (simp; omega) | (simp [World.drew]; done) | (simp [World.drew]; omega)
         have z6 := hE6.size
         try (refine with_fact (p := Bk w6 (W.heap.size) 24 #[.int .u64 0, .int .u64 0, .int .u64 0, .int .u64 0]) ?_ ?_; (focus (refine Bk.keep ?_ hb6; (first | exact N5a | exact N5a.alloc _ | exact (N5a.alloc _).alloc _); done)); intro N6a; obtain ⟨n6a0, n6a1, n6a2, n6a3, n6a4, n6a5, n6a6, n6a7, n6a8⟩ := N6a.f4)
         try (refine with_fact (p := Bk w6 (W.heap.size + 1) 24 #[.int .u64 0, .int .u64 0, .int .u64 0, .int .u64 0]) ?_ ?_; (focus (refine Bk.keep ?_ hb6; (first | exact N5b | exact N5b.alloc _ | exact (N5b.alloc _).alloc _); done)); intro N6b; obtain ⟨n6b0, n6b1, n6b2, n6b3, n6b4, n6b5, n6b6, n6b7, n6b8⟩ := N6b.f4)
         try (refine with_fact (p := Bk w6 (w5.heap.size) 24 #[.int .u64 0, .int .u64 0, .int .u64 0, .int .u64 0]) ?_ ?_; (focus (refine Bk.keep ?_ hb6; (first | exact Bk.new _ _ _ | exact (Bk.new _ _ _).alloc _); done)); intro N6c; obtain ⟨n6c0, n6c1, n6c2, n6c3, n6c4, n6c5, n6c6, n6c7, n6c8⟩ := N6c.f4)
         try (refine with_fact (p := Bk w6 (w5.heap.size + 1) 24 #[.int .u64 0, .int .u64 0, .int .u64 0, .int .u64 0]) ?_ ?_; (focus (refine Bk.keep ?_ hb6; ((refine Bk.new' _ _ _ ?_; (simp; done))); done)); intro N6d; obtain ⟨n6d0, n6d1, n6d2, n6d3, n6d4, n6d5, n6d6, n6d7, n6d8⟩ := N6d.f4)))
    all_goals
      go_wp2_with fail
      go_meet
      refine ⟨_, _, rfl, rfl, ?_, ?_, ?_⟩
      · repeat' (first | with_reducible exact Below.refl _ _ | with_reducible assumption | with_reducible refine Below.drew ?_ | with_reducible refine Below.setCell ?_ ?_ _ | with_reducible refine Below.alloc ?_ ?_ _ | with_reducible exact Nat.le_refl _ | omega | (simp; done) | (simp; omega) | (simp [World.drew]; done) | (simp [World.drew]; omega))
      · change Bk _ _ _ #[Value.int .u64 (wd0 l : Int), .int .u64 (wd1 l : Int), .int .u64 (wd2 l : Int), .int .u64 (wd3 l : Int)]
        first
            | with_reducible exact Bk.new _ _ _
            | (with_reducible refine Bk.new' _ _ _ ?_; (simp; done))
            | repeat' (first | with_reducible exact Bk.new _ _ _ | with_reducible exact N6a.set4 _ _ _ _ | with_reducible exact N6b.set4 _ _ _ _ | with_reducible exact N6c.set4 _ _ _ _ | with_reducible exact N6d.set4 _ _ _ _ | (with_reducible refine Bk.set4 (N6a.far4 ?_ _ _ _ _) _ _ _ _) | (with_reducible refine Bk.set4 (N6b.far4 ?_ _ _ _ _) _ _ _ _) | (with_reducible refine Bk.set4 (N6c.far4 ?_ _ _ _ _) _ _ _ _) | (with_reducible refine Bk.set4 (N6d.far4 ?_ _ _ _ _) _ _ _ _) | with_reducible refine Bk.far4 ?_ ?_ _ _ _ _ | with_reducible refine Bk.alloc ?_ _ | omega | (simp; done) | (simp; omega))
      · change Bk _ _ _ #[Value.int .u64 (wd0 r : Int), .int .u64 (wd1 r : Int), .int .u64 (wd2 r : Int), .int .u64 (wd3 r : Int)]
        first
            | with_reducible exact Bk.new _ _ _
            | (with_reducible refine Bk.new' _ _ _ ?_; (simp; done))
            | repeat' (first | with_reducible exact Bk.new _ _ _ | with_reducible exact N6a.set4 _ _ _ _ | with_reducible exact N6b.set4 _ _ _ _ | with_reducible exact N6c.set4 _ _ _ _ | with_reducible exact N6d.set4 _ _ _ _ | (with_reducible refine Bk.set4 (N6a.far4 ?_ _ _ _ _) _ _ _ _) | (with_reducible refine Bk.set4 (N6b.far4 ?_ _ _ _ _) _ _ _ _) | (with_reducible refine Bk.set4 (N6c.far4 ?_ _ _ _ _) _ _ _ _) | (with_reducible refine Bk.set4 (N6d.far4 ?_ _ _ _ _) _ _ _ _) | with_reducible refine Bk.far4 ?_ ?_ _ _ _ _ | with_reducible refine Bk.alloc ?_ _ | omega | (simp; done) | (simp; omega))
  case rest =>
    obtain ⟨g5, g6, rfl, rfl, hbc, X5, X6⟩ := hcut
    have hsz := Nat.le_trans (Nat.le_of_lt hgA) hbc.size
    have hW := below_step hW (Nat.le_of_lt hgA) hbc
    have A := A.keep hbc
    clear hbc a0 a1 a2 a3 a4 a5 a6 a7 za hgA
    rcases HC.out with ⟨hn, HZL, HZR⟩ | ⟨k, rfl, hk, hl, hr⟩
    · obtain ⟨x0, x1, x2, x3, x4, x5, x6, x7, zx⟩ := X5.f4
      clear HC HSL HSR HOF HLn HZ A
      rcases hn with h | ⟨h, h'⟩
      · have hd : decide (n < 0) = true := decide_eq_true h
        go_wp2_with fail
        refine (HZL.out _).mono ?_
        rintro e w4 ⟨rfl, hb⟩
        have X6 := X6.keep hb
        have hW := below_step hW hsz hb
        clear hb x0 x1 x2 x3 x4 x5 x6 x7 zx
        obtain ⟨x0, x1, x2, x3, x4, x5, x6, x7, zx⟩ := X6.f4
        go_wp2_with fail
        refine (HZR.out _).mono ?_
        rintro e w5 ⟨rfl, hb⟩
        go_wp2_with fail
        go_ret
        rw [hgd]
        exact ⟨rfl, hW.trans (hb.mono (Nat.le_trans (Nat.le_of_eq hgd.symm) hW.size))⟩
      · have hd : decide (n < 0) = false := decide_eq_false (by omega)
        have hd2 : decide (255 < n) = true := decide_eq_true h'
        go_wp2_with fail
        refine (HZL.out _).mono ?_
        rintro e w4 ⟨rfl, hb⟩
        have X6 := X6.keep hb
        have hW := below_step hW hsz hb
        clear hb x0 x1 x2 x3 x4 x5 x6 x7 zx
        obtain ⟨x0, x1, x2, x3, x4, x5, x6, x7, zx⟩ := X6.f4
        go_wp2_with fail
        refine (HZR.out _).mono ?_
        rintro e w5 ⟨rfl, hb⟩
        go_wp2_with fail
        go_ret
        rw [hgd]
        exact ⟨rfl, hW.trans (hb.mono (Nat.le_trans (Nat.le_of_eq hgd.symm) hW.size))⟩
    · have hd : decide ((k : Int) < 0) = false := decide_eq_false (by omega)
      have hd2 : decide ((255 : Int) < (k : Int)) = false := decide_eq_false (by omega)
      have HLL := Lib.hid hl
      have HRR := Lib.hid hr
      clear HC HSL HSR hl hr hsz
      obtain ⟨a0, a1, a2, a3, a4, a5, a6, a7, za⟩ := A.f4
      go_wp2_with fail
      refine (HOF.out _).mono ?_
      rintro e u1 ⟨vu1, rfl, O1, hb⟩
      have O1 := Lib.hid O1
      obtain ⟨su1, cu1, eu1, _⟩ := O1.out.slice
      subst eu1
      have hsz := (Nat.le_trans (Nat.le_of_eq hgd.symm) hW.size)
      have hW := hW.trans (hb.mono hsz)
      have A := A.keep hb
      have X5 := X5.keep hb
      have X6 := X6.keep hb
      clear hb a0 a1 a2 a3 a4 a5 a6 a7 za hsz
      have HSH := Lib.hid (shift_any _ a 256 (k : Int) u1 O1.out (by omega) (by omega) (by omega))
      go_wp2_with fail
      refine HSH.out.mono ?_
      rintro e u2 ⟨vu2, rfl, Bu2, hb⟩
      generalize hMu2 : (((256 : Nat) : Int) + (k : Int)).toNat = Mu2 at Bu2
      have hMlu2 : Mu2 ≤ 1000 := by omega
      have HWO := words_any _ (shN a (k : Int)) Mu2 u2 Bu2 (by omega)
      rw [HLL.out] at HWO
      generalize decide (M256 ≤ shN a (k : Int)) = ou2 at HWO
      have HWO := Lib.hid HWO
      obtain ⟨su2, cu2, eu2, _⟩ := Bu2.slice
      subst eu2
      have hsz := (Nat.le_trans (Nat.le_of_eq hgd.symm) hW.size)
      have hW := hW.trans (hb.mono hsz)
      have A := A.keep hb
      have X5 := X5.keep hb
      have X6 := X6.keep hb
      clear hb HSH Bu2 hMu2 hMlu2 hsz O1
      go_wp2_with fail
      refine HWO.out.mono ?_
      rintro e u3 ⟨rfl, hb⟩
      have hsz := (Nat.le_trans (Nat.le_of_eq hgd.symm) hW.size)
      have hW := hW.trans (hb.mono hsz)
      have A := A.keep hb
      have X5 := X5.keep hb
      have X6 := X6.keep hb
      clear hb HWO hsz
      go_upto_region 7 with fail
      have hsz := (Nat.le_trans (Nat.le_of_eq hgd.symm) hW.size)
      refine wp_gen (fun W => Below gA w W ∧ Bk W gA 24 (A4 (wd0 a) (wd1 a) (wd2 a) (wd3 a)) ∧ Bk W g5 24 (A4 (wd0 l) (wd1 l) (wd2 l) (wd3 l)) ∧ Bk W g6 24 (A4 (wd0 r) (wd1 r) (wd2 r) (wd3 r)) ∧ Bk W u3.heap.size 23 (A4 (wd0 l) (wd1 l) (wd2 l) (wd3 l))) ⟨hW.alloc hsz _, A.alloc _, X5.alloc _, X6.alloc _, Bk.new _ _ _⟩ ?_
      clear hW A X5 X6 hsz 
      generalize u3.heap.size = g7 at *
      rintro Wu3 ⟨hW, A, X5, X6, Bg7⟩
      obtain ⟨a0, a1, a2, a3, a4, a5, a6, a7, za⟩ := A.f4
      have qn : IntKind.i64.wrap (-(k : Int)) = -(k : Int) := IntWalk.i64_in _ (by omega)
      go_wp2_with fail
      refine (HOF.out _).mono ?_
      rintro e u4 ⟨vu4, rfl, O4, hb⟩
      have O4 := Lib.hid O4
      obtain ⟨su4, cu4, eu4, _⟩ := O4.out.slice
      subst eu4
      have hsz := (Nat.le_trans (Nat.le_of_eq hgd.symm) hW.size)
      have hW := hW.trans (hb.mono hsz)
      have A := A.keep hb
      have X5 := X5.keep hb
      have X6 := X6.keep hb
      have Bg7 := Bg7.keep hb
      clear hb a0 a1 a2 a3 a4 a5 a6 a7 za hsz
      have HSH := Lib.hid (shift_any _ a 256 (-(k : Int)) u4 O4.out (by omega) (by omega) (by omega))
      go_wp2_with fail
      refine HSH.out.mono ?_
      rintro e u5 ⟨vu5, rfl, Bu5, hb⟩
      generalize hMu5 : (((256 : Nat) : Int) + (-(k : Int))).toNat = Mu5 at Bu5
      have hMlu5 : Mu5 ≤ 1000 := by omega
      have HWO := words_any _ (shN a (-(k : Int))) Mu5 u5 Bu5 (by omega)
      rw [HRR.out] at HWO
      generalize decide (M256 ≤ shN a (-(k : Int))) = ou5 at HWO
      have HWO := Lib.hid HWO
      obtain ⟨su5, cu5, eu5, _⟩ := Bu5.slice
      subst eu5
      have hsz := (Nat.le_trans (Nat.le_of_eq hgd.symm) hW.size)
      have hW := hW.trans (hb.mono hsz)
      have A := A.keep hb
      have X5 := X5.keep hb
      have X6 := X6.keep hb
      have Bg7 := Bg7.keep hb
      clear hb HSH Bu5 hMu5 hMlu5 hsz O4
      go_wp2_with fail
      refine HWO.out.mono ?_
      rintro e u6 ⟨rfl, hb⟩
      have hsz := (Nat.le_trans (Nat.le_of_eq hgd.symm) hW.size)
      have hW := hW.trans (hb.mono hsz)
      have A := A.keep hb
      have X5 := X5.keep hb
      have X6 := X6.keep hb
      have Bg7 := Bg7.keep hb
      clear hb HWO hsz
      go_upto_region 8 with fail
      have hsz := (Nat.le_trans (Nat.le_of_eq hgd.symm) hW.size)
      refine wp_gen (fun W => Below gA w W ∧ Bk W gA 24 (A4 (wd0 a) (wd1 a) (wd2 a) (wd3 a)) ∧ Bk W g5 24 (A4 (wd0 l) (wd1 l) (wd2 l) (wd3 l)) ∧ Bk W g6 24 (A4 (wd0 r) (wd1 r) (wd2 r) (wd3 r)) ∧ Bk W g7 23 (A4 (wd0 l) (wd1 l) (wd2 l) (wd3 l)) ∧ Bk W u6.heap.size 23 (A4 (wd0 r) (wd1 r) (wd2 r) (wd3 r))) ⟨hW.alloc hsz _, A.alloc _, X5.alloc _, X6.alloc _, Bg7.alloc _, Bk.new _ _ _⟩ ?_
      clear hW A X5 X6 hsz Bg7
      generalize u6.heap.size = g9 at *
      rintro Wu6 ⟨hW, A, X5, X6, Bg7, Bg9⟩
      obtain ⟨a0, a1, a2, a3, a4, a5, a6, a7, za⟩ := A.f4
      go_wp2_with fail
      refine (HLn.out _).mono ?_
      rintro e u7 ⟨rfl, hb⟩
      have hsz := (Nat.le_trans (Nat.le_of_eq hgd.symm) hW.size)
      have hW := hW.trans (hb.mono hsz)
      have A := A.keep hb
      have X5 := X5.keep hb
      have X6 := X6.keep hb
      have Bg7 := Bg7.keep hb
      have Bg9 := Bg9.keep hb
      clear hb a0 a1 a2 a3 a4 a5 a6 a7 za hsz
      obtain ⟨a0, a1, a2, a3, a4, a5, a6, a7, za⟩ := A.f4
      go_wp2_with fail
      refine (HOF.out _).mono ?_
      rintro e u8 ⟨vu8, rfl, O8, hb⟩
      have O8 := Lib.hid O8
      obtain ⟨su8, cu8, eu8, _⟩ := O8.out.slice
      subst eu8
      have hsz := (Nat.le_trans (Nat.le_of_eq hgd.symm) hW.size)
      have hW := hW.trans (hb.mono hsz)
      have A := A.keep hb
      have X5 := X5.keep hb
      have X6 := X6.keep hb
      have Bg7 := Bg7.keep hb
      have Bg9 := Bg9.keep hb
      clear hb a0 a1 a2 a3 a4 a5 a6 a7 za hsz
      go_wp2_with fail
      go_loopw [13] (fun i wr => ∃ j : Nat, L ≤ j ∧ j ≤ 256 ∧ i = .int .i64 j ∧ wr = u8) (fun i _ => 256 - (intOf i).toNat)
      case atStart => exact ⟨L, Nat.le_refl _, hL, rfl, rfl⟩
      case round =>
        obtain ⟨j, hj, hj2, rfl, rfl⟩ := hrel
        by_cases hlt : j < 256
        · have hdj : decide ((j : Int) < 256) = true := decide_eq_true (by omega)
          obtain ⟨b, o, rfl, hbl, hc⟩ := O8.out.at_ j hlt
          rw [bit_over HLa.out hj] at hc
          have j1 : (j : Int) < 256 := by omega
          go_wp2_with fail
          go_roundw
          case rel =>
            have hi : Value.int .i64 ((j : Int) + 1) = .int .i64 ((j + 1 : Nat) : Int) := by go_num
            first | exact ⟨j + 1, by omega, by omega, hi, rfl⟩ | exact ⟨j + 1, by omega, by omega, hi, trivial⟩ | ((repeat apply Exists.intro); exact ⟨⟨j + 1, by omega, by omega, hi, rfl⟩, rfl⟩)
          case measure => simp [intOf] <;> omega
        · have hdj : decide ((j : Int) < 256) = false := decide_eq_false (by omega)
          have hsz := (Nat.le_trans (Nat.le_of_eq hgd.symm) hW.size)
          by_cases hL0 : L = 0
          · have hz : z = true := by rw [HZZ.out, hL0]; rfl
            subst hz
            have hL1 : Hid (((L : Int) == 0) = true) := by rw [hL0]; rfl
            clear hL0 hlt hj2
            go_upto_region 15 with fail
            refine shifts_zero a l r gA g5 g6 g7 g9 L _ _ wr _ _ _ _ _ _ _ _ _ _ _ _ _ _ _ _ _ _ _ _ _ _ _ _ _ _ _ _ _ _ _ _ _ _ _ _ _ _ _ _ _ _ _ _ _ _ _ _ _ _ _ _ _ _ _ _ _ _ _ _ _ _ _ _ _ _ _ _ _ _ _ _ _ _ _ _ _ _ _ _ _ _ _ _ HQ1.out HQ2.out HZ A X5 X6 Bg7 Bg9 hL1 (fun x64 x65 x66 x67 x68 x69 x70 x71 x72 x73 x74 x75 x76 x77 x78 x79 x80 x81 x82 x83 x84 x85 x86 x87 x88 x89 w' hb => ?_)
            show Exit.then _ _ Exit.normal _ w'
            clear HOF HLn HLL HRR HA A X5 X6 Bg7 Bg9 HQ1 HQ2 HZ O8
            go_wp2_with fail
            go_ret
            rw [hgd]
            exact ⟨rfl, hW.trans (hb.mono hsz)⟩
          · have hz : z = false := by rw [HZZ.out]; simp; exact hL0
            subst hz
            have hL1 : Hid (((L : Int) == 0) = false) := by show _ = _; simp; omega
            obtain ⟨L', hL'⟩ : ∃ L', L = L' + 1 := ⟨L - 1, by omega⟩
            have qL : Hid (IntKind.i64.wrap ((L : Int) - 1) = (L' : Int)) := by show _ = _; rw [IntWalk.i64_in _ (by omega)]; omega
            obtain ⟨b, o, rfl, hbl, hc⟩ := O8.out.at_ L' (by omega)
            have hbt := HLb.out (by omega)
            rw [show L - 1 = L' by omega] at hbt
            rw [hbt] at hc
            have j1 : Hid ((L' : Int) < 256) := by show _ < _; omega
            have HC9 := Lib.hid hc
            have HL' := Lib.hid hL'
            clear hL0 hbt hL' hc hlt hj2
            go_upto_region 15 with fail
            refine shifts_more a l r gA g5 g6 g7 g9 L L' b o _ wr _ _ _ _ _ _ _ _ _ _ _ _ _ _ _ _ _ _ _ _ _ _ _ _ _ _ _ _ _ _ _ _ _ _ _ _ _ _ _ _ _ _ _ _ _ _ _ _ _ _ _ _ _ _ _ _ _ _ _ _ _ _ _ _ _ _ _ _ _ _ _ _ _ _ _ _ _ _ _ _ _ _ _ _ HQ1.out HQ2.out HZ A X5 X6 Bg7 Bg9 hL1 qL j1 HC9.out hbl (fun x64 x65 x66 x67 x68 x69 x70 x71 x72 x73 x74 x75 x76 x77 x78 x79 x80 x81 x82 x83 x84 x85 x86 x87 x88 x89 w' hb => ?_)
            show Exit.then _ _ Exit.normal _ w'
            clear HOF HLn HLL HRR HA A X5 X6 Bg7 Bg9 HQ1 HQ2 HZ O8
            go_wp2_with fail
            go_ret
            rw [hgd]
            exact ⟨rfl, hW.trans (hb.mono hsz)⟩
theorem walk (a : Nat) (n : Int) (w : World) (ha : a < M256) (hn : -9223372036854775808 ≤ n) :
    Calls Try.prog 4 #[nv a, .int .i64 n] w fun e w' => e = .returned (.bool true) ∧ Below w.heap.size w w' := by
  have HLn := fun W => len_any a W ha
  have HZ := fun W => zero_any a W ha
  obtain ⟨s1, s2, s3⟩ := blen_spec a ha
  have hL := blen_le a ha
  have hz : decide (a = 0) = (blen a == 0) := by
    by_cases h : a = 0
    · rw [decide_eq_true h, s3 h]; rfl
    · have h2 := s2 h
      have : blen a ≠ 0 := by
        intro e
        rw [e] at s1 h2
        omega
      rw [decide_eq_false h]
      simp
      exact this
  have hb : 0 < blen a → bit a (blen a - 1) = true := by
    intro hp
    have h0 : a ≠ 0 := by
      intro h
      have := s3 h
      omega
    have h2 := s2 h0
    have e : 2 ^ blen a = 2 ^ (blen a - 1) * 2 := by
      rw [← Nat.pow_succ]
      congr 1
      omega
    unfold bit
    have h3 : a / 2 ^ (blen a - 1) = 1 := by
      have hp2 := Nat.two_pow_pos (blen a - 1)
      apply Nat.div_eq_of_lt_le
      · omega
      · omega
    rw [h3]
    rfl
  have hZ0 : ∀ W : World, Calls Try.prog 20 #[nv 0] W fun e w' => e = .returned (.bool true) ∧ Below W.heap.size W w' := fun W => zero_any 0 W M256_pos
  by_cases hbad : n < 0 ∨ 256 ≤ n
  · exact walk_inn a 0 0 _ _ n w ha M256_pos M256_pos hn (fun W => shl_none a n W hbad) (fun W => shr_none a n W hbad) HLn HZ hL hz s1 hb (.inl ⟨by omega, hZ0, hZ0⟩)
  · obtain ⟨k, rfl⟩ : ∃ k : Nat, n = (k : Int) := ⟨n.toNat, by omega⟩
    have hk : k < 256 := by omega
    have e1 : shN a (k : Int) % M256 = a * 2 ^ k % M256 := by
      unfold shN
      rw [if_pos (by omega), Int.toNat_natCast]
    have hq : a / 2 ^ k < M256 := Nat.lt_of_le_of_lt (Nat.div_le_self _ _) ha
    have e2 : shN a (-(k : Int)) % M256 = a / 2 ^ k := by
      unfold shN
      by_cases h0 : k = 0
      · subst h0
        simp
        exact Nat.mod_eq_of_lt ha
      · rw [if_neg (by omega), show (-(-(k : Int))).toNat = k by omega, Nat.mod_eq_of_lt hq]
    exact walk_inn a _ _ _ _ (k : Int) w ha (Nat.mod_lt _ M256_pos) hq hn (fun W => shl_any a k W ha hk) (fun W => shr_any a k W ha hk) HLn HZ hL hz s1 hb (.inr ⟨k, rfl, hk, e1, e2⟩)

set_option maxRecDepth 100000 in
set_option maxHeartbeats 2000000 in
theorem lifted (os : Os) (started : os.Started) (H : Type) (enc : TypeId × Value → H) :
    ReturnsInHanded {} Try.checked os 4 .any (Rows.numShiftsSpec.pre6 enc Try.prog Try.f4 Rows.numShiftsRow.domain false) (Rows.numShiftsSpec.post enc Try.prog Try.f4 false true false false) := by
  refine returnsInHanded_of_change (C := Try.checked) own started (by kernel_rfl) Try.func4
    (ChangeSpec.witness6 (enc := enc) (C := Try.checked) false ⟨#[], #[I4 0 0 0 0, .int .i64 0], []⟩ 8 (by kernel_rfl) (by kernel_rfl) (by kernel_rfl) (by kernel_rfl)) ?_
  intro W base args ds gs before hval0 hW hcnd _
  have hval : ∀ (j : Nat) t v, Try.f4.params[j]? = some t → args[j]? = some v → Value.okWide Try.prog W .any base t v := hval0
  have hW' := hW
  obtain ⟨p, q, hA0, hV, rfl, hfz, hnd⟩ := hW
  have hA : DataW.TrodAll enc Try.prog W 0 (fun _ => true) true Try.f4.params.toList args.toList ds p := hA0
  rw [Try.params4] at hA hval
  obtain ⟨v0, vs0, d0, ds0, p0, q0, hargs, rfl, rfl, h0, r0⟩ := trodAll_cons hA
  obtain ⟨v1, vs1, d1, ds1, p1, q1, rfl, rfl, rfl, h1, r1⟩ := trodAll_cons r0
  obtain ⟨rfl, rfl, rfl⟩ := trodAll_nil r1
  obtain rfl : args = #[v0, v1] := by cases args; simp_all
  obtain ⟨rfl, rfl⟩ := trodVars_none hV
  have lt0 : ∀ x ∈ p0, x.block < W.heap.size := by obtain ⟨m, hm⟩ := h0; exact DataW.trod_lt m _ _ _ hm
  have lt1 : ∀ x ∈ p1, x.block < W.heap.size := by obtain ⟨m, hm⟩ := h1; exact DataW.trod_lt m _ _ _ hm
  obtain ⟨zs0, hl0, rfl, hz0⟩ := open_ints_arr (n := 4) (k := .u64) Try.underlying24 Try.underlying22 (by kernel_rfl) (by kernel_rfl) (hval 0 24 v0 rfl rfl) h0
  obtain ⟨x0, hx0, ea0⟩ := num_of_words hl0 hz0
  obtain ⟨x1, rfl, _, _, hwf1⟩ := open_int (k := .i64) Try.underlying3 (hval 1 3 v1 rfl rfl) h1
  have hy1 := wf_i64 hwf1
  clear hA0 hval0
  have hwalk := walk x0 x1 W hx0 hy1.1
  rw [← ea0] at hwalk
  refine hwalk.mono fun e W' ⟨he, bel⟩ => ?_
  subst he
  exact ⟨_, rfl, _, _, _, [], _, [], hW', trodAll_mk1 (shut_bool Try.underlying4 _), (trodAll_cons_mk (Below.trod laidOut (by kernel_rfl) (of_decide_eq_true (by kernel_rfl)) h0 bel lt0) (trodAll_cons_mk (Below.trod laidOut (by kernel_rfl) (of_decide_eq_true (by kernel_rfl)) h1 bel lt1) trodAll_mk0)), rfl, bel.frame _, fun h => by cases h⟩

theorem over : Rows.numShiftsRow.holds Try.pinned (OpenSpec.ofChange Rows.numShiftsSpec) :=
  OpenClaim.holds_of_wide 4 Try.f4 rfl rfl rfl rfl rfl rfl rfl ⟨rfl, rfl, rfl, rfl, rfl⟩ rfl rfl rfl rfl rfl (by kernel_rfl) Try.func4 (by kernel_rfl)
    (of_decide_eq_true (by kernel_rfl)) (by unfold Func.isWrapper; first | (rw [if_pos (by decide +kernel)]; kernel_rfl) | (rw [if_neg (by decide +kernel)]; exact ⟨rfl, rfl⟩))
    (fun os started H enc _ => lifted os started H enc)

theorem proved : Rows.NumShiftsSaid := over
#print axioms proved
end Go.Proofs.Ytkifehabajchhaa.numShifts
