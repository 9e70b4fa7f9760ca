/-
  What is proved: for any two numbers the law NumSums returns true, and its arguments read behind the call as they read before it. No condition.
-/
import Derived.Test.YtkifehabajchhaaNssRp
import Derived.Test.YtkifehabajchhaaNssRq
import Derived.Test.YtkifehabajchhaaNssRr
import Derived.Test.YtkifehabajchhaaCnt
import Derived.Test.YtkifehabajchhaaOpen
namespace Go.Proofs.Ytkifehabajchhaa.numSums
open Go.ChangeShapes Go.WideShapes Go.ChangeAt Go.RowKit
set_option linter.unusedVariables false

theorem own : ownKnob Try.prog.godebug = none := by kernel_rfl
theorem laidOut : laidOutB Try.prog = true := by kernel_rfl
set_option maxRecDepth 100000 in
set_option maxHeartbeats 1000000 in
theorem of_law (a : Nat) (w : World) (ha : a < M256) :
    Calls Try.prog 23 #[nv a] w fun e w' => ∃ v, e = .returned v ∧ BX w' v a 256 ∧ Below w.heap.size w w' := by
  have HO := Lib.hid (fun W => of2_any a W ha)
  clear ha
  go_enter Try.func23, Try.ntmps23
  go_wp2_with fail
  refine (HO.out _).mono ?_
  rintro e w1 ⟨v, rfl, hB, hb⟩
  have HB := Lib.hid hB
  obtain ⟨s, c, rfl, _⟩ := hB.slice
  have hW : Below w.heap.size w w1 := below_step ((Below.refl _ _).alloc (Nat.le_refl _) _) (by simp) hb
  clear hb hB
  go_wp2_with fail
  go_ret
  exact ⟨_, rfl, HB.out, hW⟩
set_option maxRecDepth 100000 in
set_option maxHeartbeats 8000000 in
theorem is_any (s X m : Nat) (ov : Bool) (v : Value) (w : World) (hB : BX w v X m) (hm : m ≤ 1000000) (hs : X % M256 = s) (ho : decide (M256 ≤ X) = ov) (hsM : s < M256) :
    Calls Try.prog 27 #[nv s, .bool ov, v] w fun e w' => e = .returned (.bool true) ∧ Below w.heap.size w w' := by
  have HQ : Hid (∀ w, (Op.equalIn 10000 24 (nv s) (nv s)).run Try.prog w = .ok true w) := fun w => by
    have h := nv_eql s s hsM hsM w
    rwa [decide_eq_true rfl] at h
  have HB := Lib.hid hB
  obtain ⟨sl, c, rfl, _⟩ := hB.slice
  have HW : Hid (∀ W, BX W (.slice sl m c) X m → Calls Try.prog 21 #[.slice sl m c] W fun e w' => e = .returned (.tuple #[nv s, .bool ov]) ∧ Below W.heap.size W w') := fun W h => by
    have h := words_any _ X m W h hm
    rw [hs, ho] at h
    exact h
  clear hB hs ho hsM
  go_enter Try.func27, Try.ntmps27
  go_wp2_with fail
  have hA : Below w.heap.size w (w.alloc (.cells (A4 (wd0 s) (wd1 s) (wd2 s) (wd3 s)) 24)) := (Below.refl _ _).alloc (Nat.le_refl _) _
  refine (HW.out _ (HB.out.keep hA)).mono ?_
  rintro e w1 ⟨rfl, hb⟩
  have S := Bk.keep (Bk.new w 24 (A4 (wd0 s) (wd1 s) (wd2 s) (wd3 s))) hb
  have hW : Below w.heap.size w w1 := below_step hA (by simp) hb
  clear hb hA HB HW
  go_upto_region 2 with fail
  refine wp_gen (fun W => Below w.heap.size w W ∧ Bk W w.heap.size 24 (A4 (wd0 s) (wd1 s) (wd2 s) (wd3 s)) ∧ Bk W w1.heap.size 23 (A4 (wd0 s) (wd1 s) (wd2 s) (wd3 s))) ⟨hW.alloc hW.size _, S.alloc _, Bk.new _ _ _⟩ ?_
  clear hW S
  generalize w1.heap.size = g7 at *
  rintro W ⟨hW, S, T⟩
  obtain ⟨s0, s1, s2, s3, _⟩ := S.f4
  obtain ⟨t0, t1, t2, t3, _⟩ := T.f4
  have hq := HQ.out
  go_wp2_with fail
  go_ret
  exact ⟨rfl, hW⟩
set_option maxRecDepth 100000 in
set_option maxHeartbeats 8000000 in
theorem walk_lt (a b s d : Nat) (ov un z o2 : Bool) (w : World)
    (hqd : ∀ w, (Op.equalIn 10000 24 (nv d) (nv d)).run Try.prog w = .ok true w) (hqe : ∀ w, (Op.equalIn 10000 24 (nv a) (nv b)).run Try.prog w = .ok false w)
    (hqz : ∀ w, (Op.equalIn 10000 24 (nv a) (I4 0 0 0 0)).run Try.prog w = .ok z w)
    (HOA : Hid (∀ W : World, Calls Try.prog 23 #[.agg #[.int .u64 (wd0 a : Int), .int .u64 (wd1 a : Int), .int .u64 (wd2 a : Int), .int .u64 (wd3 a : Int)]] W fun e w' => ∃ v, e = .returned v ∧ BX w' v a 256 ∧ Below W.heap.size W w'))
    (HOB : Hid (∀ W : World, Calls Try.prog 23 #[.agg #[.int .u64 (wd0 b : Int), .int .u64 (wd1 b : Int), .int .u64 (wd2 b : Int), .int .u64 (wd3 b : Int)]] W fun e w' => ∃ v, e = .returned v ∧ BX w' v b 256 ∧ Below W.heap.size W w'))
    (HAD : Hid (∀ (W : World) (u v : Value), BX W u a 256 → BX W v b 256 → Calls Try.prog 28 #[u, v] W fun e w' => ∃ v', e = .returned v' ∧ BX w' v' (a + b) 257 ∧ Below W.heap.size W w'))
    (HIS : Hid (∀ (W : World) (v : Value), BX W v (a + b) 257 → Calls Try.prog 27 #[.agg #[.int .u64 (wd0 s : Int), .int .u64 (wd1 s : Int), .int .u64 (wd2 s : Int), .int .u64 (wd3 s : Int)], .bool ov, v] W fun e w' => e = .returned (.bool true) ∧ Below W.heap.size W w'))
    (HL1 : Hid (∀ (W : World) (u v : Value), BX W u a 256 → BX W v b 256 → Calls Try.prog 29 #[u, v] W fun e w' => e = .returned (.bool true) ∧ w' = W))
    (HL2 : Hid (∀ (W : World) (u v : Value), BX W u b 256 → BX W v a 256 → Calls Try.prog 29 #[u, v] W fun e w' => e = .returned (.bool false) ∧ w' = W))
    (HZ : Hid (∀ W : World, Calls Try.prog 20 #[.agg #[.int .u64 (wd0 a : Int), .int .u64 (wd1 a : Int), .int .u64 (wd2 a : Int), .int .u64 (wd3 a : Int)]] W fun e w' => e = .returned (.bool z) ∧ Below W.heap.size W w'))
    (HADDN : Hid (∀ W : World, Calls Try.prog 24 #[.slice (some ⟨W.heap.size, 0, none⟩) 2 2] (W.alloc (.cells #[.int .u64 (wd0 a : Int), .int .u64 (wd1 a : Int), .int .u64 (wd2 a : Int), .int .u64 (wd3 a : Int), .int .u64 (wd0 b : Int), .int .u64 (wd1 b : Int), .int .u64 (wd2 b : Int), .int .u64 (wd3 b : Int)] 24)) fun e w' => e = .returned (.tuple #[nv s, .bool ov]) ∧ Below W.heap.size W w'))
    (HSUB : Hid (∀ W : World, Calls Try.prog 25 #[.agg #[.int .u64 (wd0 a : Int), .int .u64 (wd1 a : Int), .int .u64 (wd2 a : Int), .int .u64 (wd3 a : Int)], .agg #[.int .u64 (wd0 b : Int), .int .u64 (wd1 b : Int), .int .u64 (wd2 b : Int), .int .u64 (wd3 b : Int)]] W fun e w' => e = .returned (.tuple #[nv d, .bool un]) ∧ Below W.heap.size W w'))
    (HS2 : Hid (∀ (W : World) (u v : Value), BX W u a 256 → BX W v b 256 → Calls Try.prog 26 #[u, v] W fun e w' => ∃ v', e = .returned (.tuple #[v', .bool un]) ∧ BX w' v' d 256 ∧ Below W.heap.size W w'))
    (HWD : Hid (∀ (W : World) (v : Value), BX W v d 256 → Calls Try.prog 21 #[v] W fun e w' => e = .returned (.tuple #[nv d, .bool o2]) ∧ Below W.heap.size W w'))
    (HCM : Hid (∀ W : World, Calls Try.prog 16 #[.agg #[.int .u64 (wd0 a : Int), .int .u64 (wd1 a : Int), .int .u64 (wd2 a : Int), .int .u64 (wd3 a : Int)], .agg #[.int .u64 (wd0 b : Int), .int .u64 (wd1 b : Int), .int .u64 (wd2 b : Int), .int .u64 (wd3 b : Int)]] W fun e w' => e = .returned (.int .i64 (-1)) ∧ Below W.heap.size W w')) :
    Calls Try.prog 5 #[nv a, nv b] w fun e w' => e = .returned (.bool true) ∧ Below w.heap.size w w' := by
  have HQD := Lib.hid hqd
  have HQE := Lib.hid hqe
  have HQZ := Lib.hid hqz
  clear hqd hqe hqz
  go_enter Try.func5, Try.ntmps5
  go_wp2_with fail
  refine (counts_any _).mono ?_
  rintro e w1 ⟨rfl, hb1⟩
  have A : Bk w1 w.heap.size 24 (A4 (wd0 a) (wd1 a) (wd2 a) (wd3 a)) := Bk.keep ((Bk.new _ _ _).alloc _) hb1
  have B : Bk w1 (w.heap.size + 1) 24 (A4 (wd0 b) (wd1 b) (wd2 b) (wd3 b)) := Bk.keep (Bk.new' _ _ _ (by simp)) hb1
  have hW : Below w.heap.size w w1 := below_step (((Below.refl _ _).alloc (Nat.le_refl _) _).alloc (by simp) _) (by simp; omega) hb1
  clear hb1
  obtain ⟨gB, hgB⟩ : ∃ gB, gB = w.heap.size + 1 := ⟨_, rfl⟩
  rw [← hgB] at B
  generalize hgd : w.heap.size = gA at *
  rw [← hgB]
  clear hgB
  obtain ⟨a0, a1, a2, a3, a4, a5, a6, a7, za⟩ := A.f4
  obtain ⟨b0, b1, b2, b3, b4, b5, b6, b7, zb⟩ := B.f4
  go_wp2_with fail
  refine (HADDN.out _).mono ?_
  rintro e w2 ⟨rfl, hb⟩
  have hsz := (Nat.le_trans (Nat.le_of_eq hgd.symm) hW.size)
  have A := A.keep hb
  have B := B.keep hb
  have hW := hW.trans (hb.mono hsz)
  clear hb a0 a1 a2 a3 a4 a5 a6 a7 za b0 b1 b2 b3 b4 b5 b6 b7 zb hsz
  go_upto_region 4 with fail
  have hsz := (Nat.le_trans (Nat.le_of_eq hgd.symm) hW.size)
  refine wp_gen (fun W => Below gA w W ∧ Bk W gA 24 (A4 (wd0 a) (wd1 a) (wd2 a) (wd3 a)) ∧ Bk W gB 24 (A4 (wd0 b) (wd1 b) (wd2 b) (wd3 b)) ∧ Bk W w2.heap.size 24 (A4 (wd0 s) (wd1 s) (wd2 s) (wd3 s))) ⟨hW.alloc hsz _, A.alloc _, B.alloc _, Bk.new _ _ _⟩ ?_
  clear hW A B hsz
  generalize w2.heap.size = g5 at *
  rintro W2 ⟨hW, A, B, X5⟩
  obtain ⟨a0, a1, a2, a3, a4, a5, a6, a7, za⟩ := A.f4
  obtain ⟨b0, b1, b2, b3, b4, b5, b6, b7, zb⟩ := B.f4
  go_wp2_with fail
  refine (HSUB.out _).mono ?_
  rintro e w3 ⟨rfl, hb⟩
  have hsz := (Nat.le_trans (Nat.le_of_eq hgd.symm) hW.size)
  have A := A.keep hb
  have B := B.keep hb
  have X5 := X5.keep hb
  have hW := hW.trans (hb.mono hsz)
  clear hb a0 a1 a2 a3 a4 a5 a6 a7 za b0 b1 b2 b3 b4 b5 b6 b7 zb hsz
  go_upto_region 5 with fail
  have hsz := (Nat.le_trans (Nat.le_of_eq hgd.symm) hW.size)
  refine wp_gen (fun W => Below gA w W ∧ Bk W gA 24 (A4 (wd0 a) (wd1 a) (wd2 a) (wd3 a)) ∧ Bk W gB 24 (A4 (wd0 b) (wd1 b) (wd2 b) (wd3 b)) ∧ Bk W g5 24 (A4 (wd0 s) (wd1 s) (wd2 s) (wd3 s)) ∧ Bk W w3.heap.size 24 (A4 (wd0 d) (wd1 d) (wd2 d) (wd3 d))) ⟨hW.alloc hsz _, A.alloc _, B.alloc _, X5.alloc _, Bk.new _ _ _⟩ ?_
  clear hW A B X5 hsz
  generalize w3.heap.size = g7 at *
  rintro W ⟨hW, A, B, X5, X7⟩
  obtain ⟨a0, a1, a2, a3, a4, a5, a6, a7, za⟩ := A.f4
  obtain ⟨b0, b1, b2, b3, b4, b5, b6, b7, zb⟩ := B.f4
  go_cut [9, 10] (fun s9 s10 wx => ∃ (sx : Option Addr) (cx : Nat), s9 = .slice sx 256 cx ∧ s10 = .bool un ∧ BX wx (.slice sx 256 cx) d 256 ∧ Below W.heap.size W wx)
  case first =>
    go_region_held3 (fun w' => w'.cell? ⟨gA, 0, none⟩ = some (.int .u64 (wd0 a : Int)) ∧ w'.cell? ⟨gA, 1, none⟩ = some (.int .u64 (wd1 a : Int)) ∧ w'.cell? ⟨gA, 2, none⟩ = some (.int .u64 (wd2 a : Int)) ∧ w'.cell? ⟨gA, 3, none⟩ = some (.int .u64 (wd3 a : Int)) ∧ w'.cell? ⟨gB, 0, none⟩ = some (.int .u64 (wd0 b : Int)) ∧ w'.cell? ⟨gB, 1, none⟩ = some (.int .u64 (wd1 b : Int)) ∧ w'.cell? ⟨gB, 2, none⟩ = some (.int .u64 (wd2 b : Int)) ∧ w'.cell? ⟨gB, 3, none⟩ = some (.int .u64 (wd3 b : Int)))
      ((refine ⟨?_, ?_, ?_, ?_, ?_, ?_, ?_, ?_⟩; (focus (refine cellS (w := W) ?_ a0; repeat' (first | with_reducible exact Below.refl _ _ | with_reducible assumption | with_reducible refine Below.drew ?_ | with_reducible refine Below.setCell ?_ ?_ _ | with_reducible refine Below.alloc ?_ ?_ _ | with_reducible exact Nat.le_refl _ | omega | (simp; done) | (simp; omega) | (simp [World.drew]; done) | (simp [World.drew]; omega)))); (focus (refine cellS (w := W) ?_ a1; repeat' (first | with_reducible exact Below.refl _ _ | with_reducible assumption | with_reducible refine Below.drew ?_ | with_reducible refine Below.setCell ?_ ?_ _ | with_reducible refine Below.alloc ?_ ?_ _ | with_reducible exact Nat.le_refl _ | omega | (simp; done) | (simp; omega) | (simp [World.drew]; done) | (simp [World.drew]; omega)))); (focus (refine cellS (w := W) ?_ a2; repeat' (first | with_reducible exact Below.refl _ _ | with_reducible assumption | with_reducible refine Below.drew ?_ | with_reducible refine Below.setCell ?_ ?_ _ | with_reducible refine Below.alloc ?_ ?_ _ | with_reducible exact Nat.le_refl _ | omega | (simp; done) | (simp; omega) | (simp [World.drew]; done) | (simp [World.drew]; omega)))); (focus (refine cellS (w := W) ?_ a3; repeat' (first | with_reducible exact Below.refl _ _ | with_reducible assumption | with_reducible refine Below.drew ?_ | with_reducible refine Below.setCell ?_ ?_ _ | with_reducible refine Below.alloc ?_ ?_ _ | with_reducible exact Nat.le_refl _ | omega | (simp; done) | (simp; omega) | (simp [World.drew]; done) | (simp [World.drew]; omega)))); (focus (refine cellS (w := W) ?_ b0; repeat' (first | with_reducible exact Below.refl _ _ | with_reducible assumption | with_reducible refine Below.drew ?_ | with_reducible refine Below.setCell ?_ ?_ _ | with_reducible refine Below.alloc ?_ ?_ _ | with_reducible exact Nat.le_refl _ | omega | (simp; done) | (simp; omega) | (simp [World.drew]; done) | (simp [World.drew]; omega)))); (focus (refine cellS (w := W) ?_ b1; repeat' (first | with_reducible exact Below.refl _ _ | with_reducible assumption | with_reducible refine Below.drew ?_ | with_reducible refine Below.setCell ?_ ?_ _ | with_reducible refine Below.alloc ?_ ?_ _ | with_reducible exact Nat.le_refl _ | omega | (simp; done) | (simp; omega) | (simp [World.drew]; done) | (simp [World.drew]; omega)))); (focus (refine cellS (w := W) ?_ b2; repeat' (first | with_reducible exact Below.refl _ _ | with_reducible assumption | with_reducible refine Below.drew ?_ | with_reducible refine Below.setCell ?_ ?_ _ | with_reducible refine Below.alloc ?_ ?_ _ | with_reducible exact Nat.le_refl _ | omega | (simp; done) | (simp; omega) | (simp [World.drew]; done) | (simp [World.drew]; omega)))); (focus (refine cellS (w := W) ?_ b3; repeat' (first | with_reducible exact Below.refl _ _ | with_reducible assumption | with_reducible refine Below.drew ?_ | with_reducible refine Below.setCell ?_ ?_ _ | with_reducible refine Below.alloc ?_ ?_ _ | with_reducible exact Nat.le_refl _ | omega | (simp; done) | (simp; omega) | (simp [World.drew]; done) | (simp [World.drew]; omega))))))
      (first
      | (go_at_call 23
         with_reducible refine (HOA.out _).mono ?_
         rintro e wA ⟨uA, rfl, BA, hbwA⟩
         have hEwA : Below W.heap.size W wA := by
           refine below_step ?_ ?_ hbwA
           · repeat' (first | with_reducible exact Below.refl _ _ | with_reducible assumption | with_reducible refine Below.drew ?_ | with_reducible refine Below.setCell ?_ ?_ _ | with_reducible refine Below.alloc ?_ ?_ _ | with_reducible exact Nat.le_refl _ | omega | (simp; done) | (simp; omega) | (simp [World.drew]; done) | (simp [World.drew]; omega))
           · first | omega | (simp; done) | (simp; omega) | (simp [World.drew]; done) | (simp [World.drew]; omega)
         have zwA := hEwA.size
         try have BB := BB.keep hbwA
         obtain ⟨sA, cA, eA, _⟩ := BA.slice
         subst eA)
      | (go_at_call 23
         with_reducible refine (HOB.out _).mono ?_
         rintro e wB ⟨uB, rfl, BB, hbwB⟩
         have hEwB : Below W.heap.size W wB := by
           refine below_step ?_ ?_ hbwB
           · repeat' (first | with_reducible exact Below.refl _ _ | with_reducible assumption | with_reducible refine Below.drew ?_ | with_reducible refine Below.setCell ?_ ?_ _ | with_reducible refine Below.alloc ?_ ?_ _ | with_reducible exact Nat.le_refl _ | omega | (simp; done) | (simp; omega) | (simp [World.drew]; done) | (simp [World.drew]; omega))
           · first | omega | (simp; done) | (simp; omega) | (simp [World.drew]; done) | (simp [World.drew]; omega)
         have zwB := hEwB.size
         try have BA := BA.keep hbwB
         obtain ⟨sB, cB, eB, _⟩ := BB.slice
         subst eB)
      | (go_at_call 26
         refine (HS2.out _ _ _ BA BB).mono ?_
         rintro e wS ⟨uS, rfl, BS, hbwS⟩
         have hEwS : Below W.heap.size W wS := by
           refine below_step ?_ ?_ hbwS
           · repeat' (first | with_reducible exact Below.refl _ _ | with_reducible assumption | with_reducible refine Below.drew ?_ | with_reducible refine Below.setCell ?_ ?_ _ | with_reducible refine Below.alloc ?_ ?_ _ | with_reducible exact Nat.le_refl _ | omega | (simp; done) | (simp; omega) | (simp [World.drew]; done) | (simp [World.drew]; omega))
           · first | omega | (simp; done) | (simp; omega) | (simp [World.drew]; done) | (simp [World.drew]; omega)
         have zwS := hEwS.size
         obtain ⟨sS, cS, eS, _⟩ := BS.slice
         subst eS))
    all_goals
      go_wp2_with fail
      go_meet
      refine ⟨_, _, rfl, rfl, BS, ?_⟩
      repeat' (first | with_reducible exact Below.refl _ _ | with_reducible assumption | with_reducible refine Below.drew ?_ | with_reducible refine Below.setCell ?_ ?_ _ | with_reducible refine Below.alloc ?_ ?_ _ | with_reducible exact Nat.le_refl _ | omega | (simp; done) | (simp; omega) | (simp [World.drew]; done) | (simp [World.drew]; omega))
  case rest =>
    obtain ⟨sx, cx, rfl, rfl, BS, hb⟩ := hcut
    have hsz := (Nat.le_trans (Nat.le_of_eq hgd.symm) hW.size)
    have A := A.keep hb
    have B := B.keep hb
    have X5 := X5.keep hb
    have X7 := X7.keep hb
    have hW := hW.trans (hb.mono hsz)
    clear hb a0 a1 a2 a3 a4 a5 a6 a7 za b0 b1 b2 b3 b4 b5 b6 b7 zb hsz
    go_wp2_with fail
    refine (HWD.out _ _ BS).mono ?_
    rintro e w5 ⟨rfl, hb⟩
    have hsz := (Nat.le_trans (Nat.le_of_eq hgd.symm) hW.size)
    have A := A.keep hb
    have B := B.keep hb
    have X5 := X5.keep hb
    have X7 := X7.keep hb
    have hW := hW.trans (hb.mono hsz)
    clear hb BS hsz
    go_upto_region 7 with fail
    have hsz := (Nat.le_trans (Nat.le_of_eq hgd.symm) hW.size)
    refine wp_gen (fun W => Below gA w W ∧ Bk W gA 24 (A4 (wd0 a) (wd1 a) (wd2 a) (wd3 a)) ∧ Bk W gB 24 (A4 (wd0 b) (wd1 b) (wd2 b) (wd3 b)) ∧ Bk W g5 24 (A4 (wd0 s) (wd1 s) (wd2 s) (wd3 s)) ∧ Bk W g7 24 (A4 (wd0 d) (wd1 d) (wd2 d) (wd3 d)) ∧ Bk W w5.heap.size 23 (A4 (wd0 d) (wd1 d) (wd2 d) (wd3 d))) ⟨hW.alloc hsz _, A.alloc _, B.alloc _, X5.alloc _, X7.alloc _, Bk.new _ _ _⟩ ?_
    clear hW A B X5 X7 hsz
    generalize w5.heap.size = g11 at *
    rintro W6 ⟨hW, A, B, X5, X7, X11⟩
    obtain ⟨a0, a1, a2, a3, a4, a5, a6, a7, za⟩ := A.f4
    obtain ⟨b0, b1, b2, b3, b4, b5, b6, b7, zb⟩ := B.f4
    go_wp2_with fail
    refine (HCM.out _).mono ?_
    rintro e w7 ⟨rfl, hb⟩
    have hsz := (Nat.le_trans (Nat.le_of_eq hgd.symm) hW.size)
    have A := A.keep hb
    have B := B.keep hb
    have X5 := X5.keep hb
    have X7 := X7.keep hb
    have X11 := X11.keep hb
    have hW := hW.trans (hb.mono hsz)
    clear hb a0 a1 a2 a3 a4 a5 a6 a7 za b0 b1 b2 b3 b4 b5 b6 b7 zb hsz
    go_upto_region 8 with fail
    have hsz := (Nat.le_trans (Nat.le_of_eq hgd.symm) hW.size)
    refine sums_lt a b s d ov un z gA gB g5 g7 g11 _ _ _ _ _ _ _ _ _ _ _ _ _ _ _ _ _ _ _ _ _ _ _ _ _ _ _ _ _ _ _ _ _ _ _ _ _ _ _ _ _ _ _ _ _ _ _ _ _ _ _ _ _ _ _ _ _ _ _ _ _ _ _ _ _ _ _ _ _ _ _ _ _ _ _ _ _ _ _ _ _ _ _ _ _ _ _ _ _ _ _ _ HQD.out HQE.out HQZ.out HOA HOB HAD HIS HL1 HL2 HZ A B X5 X7 X11 (fun x45 x46 x47 x48 x49 x50 x51 x52 x53 x54 x55 x56 x57 x58 x59 x60 x61 x62 x63 x64 x65 x66 x67 x68 x69 x70 x71 x72 x73 x74 x75 x76 x77 x78 x79 x80 x81 x82 x83 x84 x85 x86 x87 x88 x89 x90 x91 x92 x93 x94 x95 x96 x97 x98 w' hb => ?_)
    show Exit.then _ _ Exit.normal _ w'
    clear HOA HOB HAD HIS HL1 HL2 HZ HADDN HSUB HS2 HWD HCM A B X5 X7 X11 HQD HQE HQZ
    go_wp2_with fail
    go_ret
    rw [hgd]
    exact ⟨rfl, hW.trans (hb.mono hsz)⟩
set_option maxRecDepth 100000 in
set_option maxHeartbeats 8000000 in
theorem walk_eq (a b s d : Nat) (ov un z o2 : Bool) (w : World)
    (hqd : ∀ w, (Op.equalIn 10000 24 (nv d) (nv d)).run Try.prog w = .ok true w) (hqe : ∀ w, (Op.equalIn 10000 24 (nv a) (nv b)).run Try.prog w = .ok true w)
    (hqz : ∀ w, (Op.equalIn 10000 24 (nv a) (I4 0 0 0 0)).run Try.prog w = .ok z w)
    (HOA : Hid (∀ W : World, Calls Try.prog 23 #[.agg #[.int .u64 (wd0 a : Int), .int .u64 (wd1 a : Int), .int .u64 (wd2 a : Int), .int .u64 (wd3 a : Int)]] W fun e w' => ∃ v, e = .returned v ∧ BX w' v a 256 ∧ Below W.heap.size W w'))
    (HOB : Hid (∀ W : World, Calls Try.prog 23 #[.agg #[.int .u64 (wd0 b : Int), .int .u64 (wd1 b : Int), .int .u64 (wd2 b : Int), .int .u64 (wd3 b : Int)]] W fun e w' => ∃ v, e = .returned v ∧ BX w' v b 256 ∧ Below W.heap.size W w'))
    (HAD : Hid (∀ (W : World) (u v : Value), BX W u a 256 → BX W v b 256 → Calls Try.prog 28 #[u, v] W fun e w' => ∃ v', e = .returned v' ∧ BX w' v' (a + b) 257 ∧ Below W.heap.size W w'))
    (HIS : Hid (∀ (W : World) (v : Value), BX W v (a + b) 257 → Calls Try.prog 27 #[.agg #[.int .u64 (wd0 s : Int), .int .u64 (wd1 s : Int), .int .u64 (wd2 s : Int), .int .u64 (wd3 s : Int)], .bool ov, v] W fun e w' => e = .returned (.bool true) ∧ Below W.heap.size W w'))
    (HL1 : Hid (∀ (W : World) (u v : Value), BX W u a 256 → BX W v b 256 → Calls Try.prog 29 #[u, v] W fun e w' => e = .returned (.bool false) ∧ w' = W))
    (HL2 : Hid (∀ (W : World) (u v : Value), BX W u b 256 → BX W v a 256 → Calls Try.prog 29 #[u, v] W fun e w' => e = .returned (.bool false) ∧ w' = W))
    (HZ : Hid (∀ W : World, Calls Try.prog 20 #[.agg #[.int .u64 (wd0 a : Int), .int .u64 (wd1 a : Int), .int .u64 (wd2 a : Int), .int .u64 (wd3 a : Int)]] W fun e w' => e = .returned (.bool z) ∧ Below W.heap.size W w'))
    (HADDN : Hid (∀ W : World, Calls Try.prog 24 #[.slice (some ⟨W.heap.size, 0, none⟩) 2 2] (W.alloc (.cells #[.int .u64 (wd0 a : Int), .int .u64 (wd1 a : Int), .int .u64 (wd2 a : Int), .int .u64 (wd3 a : Int), .int .u64 (wd0 b : Int), .int .u64 (wd1 b : Int), .int .u64 (wd2 b : Int), .int .u64 (wd3 b : Int)] 24)) fun e w' => e = .returned (.tuple #[nv s, .bool ov]) ∧ Below W.heap.size W w'))
    (HSUB : Hid (∀ W : World, Calls Try.prog 25 #[.agg #[.int .u64 (wd0 a : Int), .int .u64 (wd1 a : Int), .int .u64 (wd2 a : Int), .int .u64 (wd3 a : Int)], .agg #[.int .u64 (wd0 b : Int), .int .u64 (wd1 b : Int), .int .u64 (wd2 b : Int), .int .u64 (wd3 b : Int)]] W fun e w' => e = .returned (.tuple #[nv d, .bool un]) ∧ Below W.heap.size W w'))
    (HS2 : Hid (∀ (W : World) (u v : Value), BX W u a 256 → BX W v b 256 → Calls Try.prog 26 #[u, v] W fun e w' => ∃ v', e = .returned (.tuple #[v', .bool un]) ∧ BX w' v' d 256 ∧ Below W.heap.size W w'))
    (HWD : Hid (∀ (W : World) (v : Value), BX W v d 256 → Calls Try.prog 21 #[v] W fun e w' => e = .returned (.tuple #[nv d, .bool o2]) ∧ Below W.heap.size W w'))
    (HCM : Hid (∀ W : World, Calls Try.prog 16 #[.agg #[.int .u64 (wd0 a : Int), .int .u64 (wd1 a : Int), .int .u64 (wd2 a : Int), .int .u64 (wd3 a : Int)], .agg #[.int .u64 (wd0 b : Int), .int .u64 (wd1 b : Int), .int .u64 (wd2 b : Int), .int .u64 (wd3 b : Int)]] W fun e w' => e = .returned (.int .i64 0) ∧ Below W.heap.size W w')) :
    Calls Try.prog 5 #[nv a, nv b] w fun e w' => e = .returned (.bool true) ∧ Below w.heap.size w w' := by
  have HQD := Lib.hid hqd
  have HQE := Lib.hid hqe
  have HQZ := Lib.hid hqz
  clear hqd hqe hqz
  go_enter Try.func5, Try.ntmps5
  go_wp2_with fail
  refine (counts_any _).mono ?_
  rintro e w1 ⟨rfl, hb1⟩
  have A : Bk w1 w.heap.size 24 (A4 (wd0 a) (wd1 a) (wd2 a) (wd3 a)) := Bk.keep ((Bk.new _ _ _).alloc _) hb1
  have B : Bk w1 (w.heap.size + 1) 24 (A4 (wd0 b) (wd1 b) (wd2 b) (wd3 b)) := Bk.keep (Bk.new' _ _ _ (by simp)) hb1
  have hW : Below w.heap.size w w1 := below_step (((Below.refl _ _).alloc (Nat.le_refl _) _).alloc (by simp) _) (by simp; omega) hb1
  clear hb1
  obtain ⟨gB, hgB⟩ : ∃ gB, gB = w.heap.size + 1 := ⟨_, rfl⟩
  rw [← hgB] at B
  generalize hgd : w.heap.size = gA at *
  rw [← hgB]
  clear hgB
  obtain ⟨a0, a1, a2, a3, a4, a5, a6, a7, za⟩ := A.f4
  obtain ⟨b0, b1, b2, b3, b4, b5, b6, b7, zb⟩ := B.f4
  go_wp2_with fail
  refine (HADDN.out _).mono ?_
  rintro e w2 ⟨rfl, hb⟩
  have hsz := (Nat.le_trans (Nat.le_of_eq hgd.symm) hW.size)
  have A := A.keep hb
  have B := B.keep hb
  have hW := hW.trans (hb.mono hsz)
  clear hb a0 a1 a2 a3 a4 a5 a6 a7 za b0 b1 b2 b3 b4 b5 b6 b7 zb hsz
  go_upto_region 4 with fail
  have hsz := (Nat.le_trans (Nat.le_of_eq hgd.symm) hW.size)
  refine wp_gen (fun W => Below gA w W ∧ Bk W gA 24 (A4 (wd0 a) (wd1 a) (wd2 a) (wd3 a)) ∧ Bk W gB 24 (A4 (wd0 b) (wd1 b) (wd2 b) (wd3 b)) ∧ Bk W w2.heap.size 24 (A4 (wd0 s) (wd1 s) (wd2 s) (wd3 s))) ⟨hW.alloc hsz _, A.alloc _, B.alloc _, Bk.new _ _ _⟩ ?_
  clear hW A B hsz
  generalize w2.heap.size = g5 at *
  rintro W2 ⟨hW, A, B, X5⟩
  obtain ⟨a0, a1, a2, a3, a4, a5, a6, a7, za⟩ := A.f4
  obtain ⟨b0, b1, b2, b3, b4, b5, b6, b7, zb⟩ := B.f4
  go_wp2_with fail
  refine (HSUB.out _).mono ?_
  rintro e w3 ⟨rfl, hb⟩
  have hsz := (Nat.le_trans (Nat.le_of_eq hgd.symm) hW.size)
  have A := A.keep hb
  have B := B.keep hb
  have X5 := X5.keep hb
  have hW := hW.trans (hb.mono hsz)
  clear hb a0 a1 a2 a3 a4 a5 a6 a7 za b0 b1 b2 b3 b4 b5 b6 b7 zb hsz
  go_upto_region 5 with fail
  have hsz := (Nat.le_trans (Nat.le_of_eq hgd.symm) hW.size)
  refine wp_gen (fun W => Below gA w W ∧ Bk W gA 24 (A4 (wd0 a) (wd1 a) (wd2 a) (wd3 a)) ∧ Bk W gB 24 (A4 (wd0 b) (wd1 b) (wd2 b) (wd3 b)) ∧ Bk W g5 24 (A4 (wd0 s) (wd1 s) (wd2 s) (wd3 s)) ∧ Bk W w3.heap.size 24 (A4 (wd0 d) (wd1 d) (wd2 d) (wd3 d))) ⟨hW.alloc hsz _, A.alloc _, B.alloc _, X5.alloc _, Bk.new _ _ _⟩ ?_
  clear hW A B X5 hsz
  generalize w3.heap.size = g7 at *
  rintro W ⟨hW, A, B, X5, X7⟩
  obtain ⟨a0, a1, a2, a3, a4, a5, a6, a7, za⟩ := A.f4
  obtain ⟨b0, b1, b2, b3, b4, b5, b6, b7, zb⟩ := B.f4
  go_cut [9, 10] (fun s9 s10 wx => ∃ (sx : Option Addr) (cx : Nat), s9 = .slice sx 256 cx ∧ s10 = .bool un ∧ BX wx (.slice sx 256 cx) d 256 ∧ Below W.heap.size W wx)
  case first =>
    go_region_held3 (fun w' => w'.cell? ⟨gA, 0, none⟩ = some (.int .u64 (wd0 a : Int)) ∧ w'.cell? ⟨gA, 1, none⟩ = some (.int .u64 (wd1 a : Int)) ∧ w'.cell? ⟨gA, 2, none⟩ = some (.int .u64 (wd2 a : Int)) ∧ w'.cell? ⟨gA, 3, none⟩ = some (.int .u64 (wd3 a : Int)) ∧ w'.cell? ⟨gB, 0, none⟩ = some (.int .u64 (wd0 b : Int)) ∧ w'.cell? ⟨gB, 1, none⟩ = some (.int .u64 (wd1 b : Int)) ∧ w'.cell? ⟨gB, 2, none⟩ = some (.int .u64 (wd2 b : Int)) ∧ w'.cell? ⟨gB, 3, none⟩ = some (.int .u64 (wd3 b : Int)))
      ((refine ⟨?_, ?_, ?_, ?_, ?_, ?_, ?_, ?_⟩; (focus (refine cellS (w := W) ?_ a0; repeat' (first | with_reducible exact Below.refl _ _ | with_reducible assumption | with_reducible refine Below.drew ?_ | with_reducible refine Below.setCell ?_ ?_ _ | with_reducible refine Below.alloc ?_ ?_ _ | with_reducible exact Nat.le_refl _ | omega | (simp; done) | (simp; omega) | (simp [World.drew]; done) | (simp [World.drew]; omega)))); (focus (refine cellS (w := W) ?_ a1; repeat' (first | with_reducible exact Below.refl _ _ | with_reducible assumption | with_reducible refine Below.drew ?_ | with_reducible refine Below.setCell ?_ ?_ _ | with_reducible refine Below.alloc ?_ ?_ _ | with_reducible exact Nat.le_refl _ | omega | (simp; done) | (simp; omega) | (simp [World.drew]; done) | (simp [World.drew]; omega)))); (focus (refine cellS (w := W) ?_ a2; repeat' (first | with_reducible exact Below.refl _ _ | with_reducible assumption | with_reducible refine Below.drew ?_ | with_reducible refine Below.setCell ?_ ?_ _ | with_reducible refine Below.alloc ?_ ?_ _ | with_reducible exact Nat.le_refl _ | omega | (simp; done) | (simp; omega) | (simp [World.drew]; done) | (simp [World.drew]; omega)))); (focus (refine cellS (w := W) ?_ a3; repeat' (first | with_reducible exact Below.refl _ _ | with_reducible assumption | with_reducible refine Below.drew ?_ | with_reducible refine Below.setCell ?_ ?_ _ | with_reducible refine Below.alloc ?_ ?_ _ | with_reducible exact Nat.le_refl _ | omega | (simp; done) | (simp; omega) | (simp [World.drew]; done) | (simp [World.drew]; omega)))); (focus (refine cellS (w := W) ?_ b0; repeat' (first | with_reducible exact Below.refl _ _ | with_reducible assumption | with_reducible refine Below.drew ?_ | with_reducible refine Below.setCell ?_ ?_ _ | with_reducible refine Below.alloc ?_ ?_ _ | with_reducible exact Nat.le_refl _ | omega | (simp; done) | (simp; omega) | (simp [World.drew]; done) | (simp [World.drew]; omega)))); (focus (refine cellS (w := W) ?_ b1; repeat' (first | with_reducible exact Below.refl _ _ | with_reducible assumption | with_reducible refine Below.drew ?_ | with_reducible refine Below.setCell ?_ ?_ _ | with_reducible refine Below.alloc ?_ ?_ _ | with_reducible exact Nat.le_refl _ | omega | (simp; done) | (simp; omega) | (simp [World.drew]; done) | (simp [World.drew]; omega)))); (focus (refine cellS (w := W) ?_ b2; repeat' (first | with_reducible exact Below.refl _ _ | with_reducible assumption | with_reducible refine Below.drew ?_ | with_reducible refine Below.setCell ?_ ?_ _ | with_reducible refine Below.alloc ?_ ?_ _ | with_reducible exact Nat.le_refl _ | omega | (simp; done) | (simp; omega) | (simp [World.drew]; done) | (simp [World.drew]; omega)))); (focus (refine cellS (w := W) ?_ b3; repeat' (first | with_reducible exact Below.refl _ _ | with_reducible assumption | with_reducible refine Below.drew ?_ | with_reducible refine Below.setCell ?_ ?_ _ | with_reducible refine Below.alloc ?_ ?_ _ | with_reducible exact Nat.le_refl _ | omega | (simp; done) | (simp; omega) | (simp [World.drew]; done) | (simp [World.drew]; omega))))))
      (first
      | (go_at_call 23
         with_reducible refine (HOA.out _).mono ?_
         rintro e wA ⟨uA, rfl, BA, hbwA⟩
         have hEwA : Below W.heap.size W wA := by
           refine below_step ?_ ?_ hbwA
           · repeat' (first | with_reducible exact Below.refl _ _ | with_reducible assumption | with_reducible refine Below.drew ?_ | with_reducible refine Below.setCell ?_ ?_ _ | with_reducible refine Below.alloc ?_ ?_ _ | with_reducible exact Nat.le_refl _ | omega | (simp; done) | (simp; omega) | (simp [World.drew]; done) | (simp [World.drew]; omega))
           · first | omega | (simp; done) | (simp; omega) | (simp [World.drew]; done) | (simp [World.drew]; omega)
         have zwA := hEwA.size
         try have BB := BB.keep hbwA
         obtain ⟨sA, cA, eA, _⟩ := BA.slice
         subst eA)
      | (go_at_call 23
         with_reducible refine (HOB.out _).mono ?_
         rintro e wB ⟨uB, rfl, BB, hbwB⟩
         have hEwB : Below W.heap.size W wB := by
           refine below_step ?_ ?_ hbwB
           · repeat' (first | with_reducible exact Below.refl _ _ | with_reducible assumption | with_reducible refine Below.drew ?_ | with_reducible refine Below.setCell ?_ ?_ _ | with_reducible refine Below.alloc ?_ ?_ _ | with_reducible exact Nat.le_refl _ | omega | (simp; done) | (simp; omega) | (simp [World.drew]; done) | (simp [World.drew]; omega))
           · first | omega | (simp; done) | (simp; omega) | (simp [World.drew]; done) | (simp [World.drew]; omega)
         have zwB := hEwB.size
         try have BA := BA.keep hbwB
         obtain ⟨sB, cB, eB, _⟩ := BB.slice
         subst eB)
      | (go_at_call 26
         refine (HS2.out _ _ _ BA BB).mono ?_
         rintro e wS ⟨uS, rfl, BS, hbwS⟩
         have hEwS : Below W.heap.size W wS := by
           refine below_step ?_ ?_ hbwS
           · repeat' (first | with_reducible exact Below.refl _ _ | with_reducible assumption | with_reducible refine Below.drew ?_ | with_reducible refine Below.setCell ?_ ?_ _ | with_reducible refine Below.alloc ?_ ?_ _ | with_reducible exact Nat.le_refl _ | omega | (simp; done) | (simp; omega) | (simp [World.drew]; done) | (simp [World.drew]; omega))
           · first | omega | (simp; done) | (simp; omega) | (simp [World.drew]; done) | (simp [World.drew]; omega)
         have zwS := hEwS.size
         obtain ⟨sS, cS, eS, _⟩ := BS.slice
         subst eS))
    all_goals
      go_wp2_with fail
      go_meet
      refine ⟨_, _, rfl, rfl, BS, ?_⟩
      repeat' (first | with_reducible exact Below.refl _ _ | with_reducible assumption | with_reducible refine Below.drew ?_ | with_reducible refine Below.setCell ?_ ?_ _ | with_reducible refine Below.alloc ?_ ?_ _ | with_reducible exact Nat.le_refl _ | omega | (simp; done) | (simp; omega) | (simp [World.drew]; done) | (simp [World.drew]; omega))
  case rest =>
    obtain ⟨sx, cx, rfl, rfl, BS, hb⟩ := hcut
    have hsz := (Nat.le_trans (Nat.le_of_eq hgd.symm) hW.size)
    have A := A.keep hb
    have B := B.keep hb
    have X5 := X5.keep hb
    have X7 := X7.keep hb
    have hW := hW.trans (hb.mono hsz)
    clear hb a0 a1 a2 a3 a4 a5 a6 a7 za b0 b1 b2 b3 b4 b5 b6 b7 zb hsz
    go_wp2_with fail
    refine (HWD.out _ _ BS).mono ?_
    rintro e w5 ⟨rfl, hb⟩
    have hsz := (Nat.le_trans (Nat.le_of_eq hgd.symm) hW.size)
    have A := A.keep hb
    have B := B.keep hb
    have X5 := X5.keep hb
    have X7 := X7.keep hb
    have hW := hW.trans (hb.mono hsz)
    clear hb BS hsz
    go_upto_region 7 with fail
    have hsz := (Nat.le_trans (Nat.le_of_eq hgd.symm) hW.size)
    refine wp_gen (fun W => Below gA w W ∧ Bk W gA 24 (A4 (wd0 a) (wd1 a) (wd2 a) (wd3 a)) ∧ Bk W gB 24 (A4 (wd0 b) (wd1 b) (wd2 b) (wd3 b)) ∧ Bk W g5 24 (A4 (wd0 s) (wd1 s) (wd2 s) (wd3 s)) ∧ Bk W g7 24 (A4 (wd0 d) (wd1 d) (wd2 d) (wd3 d)) ∧ Bk W w5.heap.size 23 (A4 (wd0 d) (wd1 d) (wd2 d) (wd3 d))) ⟨hW.alloc hsz _, A.alloc _, B.alloc _, X5.alloc _, X7.alloc _, Bk.new _ _ _⟩ ?_
    clear hW A B X5 X7 hsz
    generalize w5.heap.size = g11 at *
    rintro W6 ⟨hW, A, B, X5, X7, X11⟩
    obtain ⟨a0, a1, a2, a3, a4, a5, a6, a7, za⟩ := A.f4
    obtain ⟨b0, b1, b2, b3, b4, b5, b6, b7, zb⟩ := B.f4
    go_wp2_with fail
    refine (HCM.out _).mono ?_
    rintro e w7 ⟨rfl, hb⟩
    have hsz := (Nat.le_trans (Nat.le_of_eq hgd.symm) hW.size)
    have A := A.keep hb
    have B := B.keep hb
    have X5 := X5.keep hb
    have X7 := X7.keep hb
    have X11 := X11.keep hb
    have hW := hW.trans (hb.mono hsz)
    clear hb a0 a1 a2 a3 a4 a5 a6 a7 za b0 b1 b2 b3 b4 b5 b6 b7 zb hsz
    go_upto_region 8 with fail
    have hsz := (Nat.le_trans (Nat.le_of_eq hgd.symm) hW.size)
    refine sums_eq a b s d ov un z gA gB g5 g7 g11 _ _ _ _ _ _ _ _ _ _ _ _ _ _ _ _ _ _ _ _ _ _ _ _ _ _ _ _ _ _ _ _ _ _ _ _ _ _ _ _ _ _ _ _ _ _ _ _ _ _ _ _ _ _ _ _ _ _ _ _ _ _ _ _ _ _ _ _ _ _ _ _ _ _ _ _ _ _ _ _ _ _ _ _ _ _ _ _ _ _ _ _ HQD.out HQE.out HQZ.out HOA HOB HAD HIS HL1 HL2 HZ A B X5 X7 X11 (fun x45 x46 x47 x48 x49 x50 x51 x52 x53 x54 x55 x56 x57 x58 x59 x60 x61 x62 x63 x64 x65 x66 x67 x68 x69 x70 x71 x72 x73 x74 x75 x76 x77 x78 x79 x80 x81 x82 x83 x84 x85 x86 x87 x88 x89 x90 x91 x92 x93 x94 x95 x96 x97 x98 w' hb => ?_)
    show Exit.then _ _ Exit.normal _ w'
    clear HOA HOB HAD HIS HL1 HL2 HZ HADDN HSUB HS2 HWD HCM A B X5 X7 X11 HQD HQE HQZ
    go_wp2_with fail
    go_ret
    rw [hgd]
    exact ⟨rfl, hW.trans (hb.mono hsz)⟩
set_option maxRecDepth 100000 in
set_option maxHeartbeats 8000000 in
theorem walk_gt (a b s d : Nat) (ov un z o2 : Bool) (w : World)
    (hqd : ∀ w, (Op.equalIn 10000 24 (nv d) (nv d)).run Try.prog w = .ok true w) (hqe : ∀ w, (Op.equalIn 10000 24 (nv a) (nv b)).run Try.prog w = .ok false w)
    (hqz : ∀ w, (Op.equalIn 10000 24 (nv a) (I4 0 0 0 0)).run Try.prog w = .ok z w)
    (HOA : Hid (∀ W : World, Calls Try.prog 23 #[.agg #[.int .u64 (wd0 a : Int), .int .u64 (wd1 a : Int), .int .u64 (wd2 a : Int), .int .u64 (wd3 a : Int)]] W fun e w' => ∃ v, e = .returned v ∧ BX w' v a 256 ∧ Below W.heap.size W w'))
    (HOB : Hid (∀ W : World, Calls Try.prog 23 #[.agg #[.int .u64 (wd0 b : Int), .int .u64 (wd1 b : Int), .int .u64 (wd2 b : Int), .int .u64 (wd3 b : Int)]] W fun e w' => ∃ v, e = .returned v ∧ BX w' v b 256 ∧ Below W.heap.size W w'))
    (HAD : Hid (∀ (W : World) (u v : Value), BX W u a 256 → BX W v b 256 → Calls Try.prog 28 #[u, v] W fun e w' => ∃ v', e = .returned v' ∧ BX w' v' (a + b) 257 ∧ Below W.heap.size W w'))
    (HIS : Hid (∀ (W : World) (v : Value), BX W v (a + b) 257 → Calls Try.prog 27 #[.agg #[.int .u64 (wd0 s : Int), .int .u64 (wd1 s : Int), .int .u64 (wd2 s : Int), .int .u64 (wd3 s : Int)], .bool ov, v] W fun e w' => e = .returned (.bool true) ∧ Below W.heap.size W w'))
    (HL1 : Hid (∀ (W : World) (u v : Value), BX W u a 256 → BX W v b 256 → Calls Try.prog 29 #[u, v] W fun e w' => e = .returned (.bool false) ∧ w' = W))
    (HL2 : Hid (∀ (W : World) (u v : Value), BX W u b 256 → BX W v a 256 → Calls Try.prog 29 #[u, v] W fun e w' => e = .returned (.bool true) ∧ w' = W))
    (HZ : Hid (∀ W : World, Calls Try.prog 20 #[.agg #[.int .u64 (wd0 a : Int), .int .u64 (wd1 a : Int), .int .u64 (wd2 a : Int), .int .u64 (wd3 a : Int)]] W fun e w' => e = .returned (.bool z) ∧ Below W.heap.size W w'))
    (HADDN : Hid (∀ W : World, Calls Try.prog 24 #[.slice (some ⟨W.heap.size, 0, none⟩) 2 2] (W.alloc (.cells #[.int .u64 (wd0 a : Int), .int .u64 (wd1 a : Int), .int .u64 (wd2 a : Int), .int .u64 (wd3 a : Int), .int .u64 (wd0 b : Int), .int .u64 (wd1 b : Int), .int .u64 (wd2 b : Int), .int .u64 (wd3 b : Int)] 24)) fun e w' => e = .returned (.tuple #[nv s, .bool ov]) ∧ Below W.heap.size W w'))
    (HSUB : Hid (∀ W : World, Calls Try.prog 25 #[.agg #[.int .u64 (wd0 a : Int), .int .u64 (wd1 a : Int), .int .u64 (wd2 a : Int), .int .u64 (wd3 a : Int)], .agg #[.int .u64 (wd0 b : Int), .int .u64 (wd1 b : Int), .int .u64 (wd2 b : Int), .int .u64 (wd3 b : Int)]] W fun e w' => e = .returned (.tuple #[nv d, .bool un]) ∧ Below W.heap.size W w'))
    (HS2 : Hid (∀ (W : World) (u v : Value), BX W u a 256 → BX W v b 256 → Calls Try.prog 26 #[u, v] W fun e w' => ∃ v', e = .returned (.tuple #[v', .bool un]) ∧ BX w' v' d 256 ∧ Below W.heap.size W w'))
    (HWD : Hid (∀ (W : World) (v : Value), BX W v d 256 → Calls Try.prog 21 #[v] W fun e w' => e = .returned (.tuple #[nv d, .bool o2]) ∧ Below W.heap.size W w'))
    (HCM : Hid (∀ W : World, Calls Try.prog 16 #[.agg #[.int .u64 (wd0 a : Int), .int .u64 (wd1 a : Int), .int .u64 (wd2 a : Int), .int .u64 (wd3 a : Int)], .agg #[.int .u64 (wd0 b : Int), .int .u64 (wd1 b : Int), .int .u64 (wd2 b : Int), .int .u64 (wd3 b : Int)]] W fun e w' => e = .returned (.int .i64 1) ∧ Below W.heap.size W w')) :
    Calls Try.prog 5 #[nv a, nv b] w fun e w' => e = .returned (.bool true) ∧ Below w.heap.size w w' := by
  have HQD := Lib.hid hqd
  have HQE := Lib.hid hqe
  have HQZ := Lib.hid hqz
  clear hqd hqe hqz
  go_enter Try.func5, Try.ntmps5
  go_wp2_with fail
  refine (counts_any _).mono ?_
  rintro e w1 ⟨rfl, hb1⟩
  have A : Bk w1 w.heap.size 24 (A4 (wd0 a) (wd1 a) (wd2 a) (wd3 a)) := Bk.keep ((Bk.new _ _ _).alloc _) hb1
  have B : Bk w1 (w.heap.size + 1) 24 (A4 (wd0 b) (wd1 b) (wd2 b) (wd3 b)) := Bk.keep (Bk.new' _ _ _ (by simp)) hb1
  have hW : Below w.heap.size w w1 := below_step (((Below.refl _ _).alloc (Nat.le_refl _) _).alloc (by simp) _) (by simp; omega) hb1
  clear hb1
  obtain ⟨gB, hgB⟩ : ∃ gB, gB = w.heap.size + 1 := ⟨_, rfl⟩
  rw [← hgB] at B
  generalize hgd : w.heap.size = gA at *
  rw [← hgB]
  clear hgB
  obtain ⟨a0, a1, a2, a3, a4, a5, a6, a7, za⟩ := A.f4
  obtain ⟨b0, b1, b2, b3, b4, b5, b6, b7, zb⟩ := B.f4
  go_wp2_with fail
  refine (HADDN.out _).mono ?_
  rintro e w2 ⟨rfl, hb⟩
  have hsz := (Nat.le_trans (Nat.le_of_eq hgd.symm) hW.size)
  have A := A.keep hb
  have B := B.keep hb
  have hW := hW.trans (hb.mono hsz)
  clear hb a0 a1 a2 a3 a4 a5 a6 a7 za b0 b1 b2 b3 b4 b5 b6 b7 zb hsz
  go_upto_region 4 with fail
  have hsz := (Nat.le_trans (Nat.le_of_eq hgd.symm) hW.size)
  refine wp_gen (fun W => Below gA w W ∧ Bk W gA 24 (A4 (wd0 a) (wd1 a) (wd2 a) (wd3 a)) ∧ Bk W gB 24 (A4 (wd0 b) (wd1 b) (wd2 b) (wd3 b)) ∧ Bk W w2.heap.size 24 (A4 (wd0 s) (wd1 s) (wd2 s) (wd3 s))) ⟨hW.alloc hsz _, A.alloc _, B.alloc _, Bk.new _ _ _⟩ ?_
  clear hW A B hsz
  generalize w2.heap.size = g5 at *
  rintro W2 ⟨hW, A, B, X5⟩
  obtain ⟨a0, a1, a2, a3, a4, a5, a6, a7, za⟩ := A.f4
  obtain ⟨b0, b1, b2, b3, b4, b5, b6, b7, zb⟩ := B.f4
  go_wp2_with fail
  refine (HSUB.out _).mono ?_
  rintro e w3 ⟨rfl, hb⟩
  have hsz := (Nat.le_trans (Nat.le_of_eq hgd.symm) hW.size)
  have A := A.keep hb
  have B := B.keep hb
  have X5 := X5.keep hb
  have hW := hW.trans (hb.mono hsz)
  clear hb a0 a1 a2 a3 a4 a5 a6 a7 za b0 b1 b2 b3 b4 b5 b6 b7 zb hsz
  go_upto_region 5 with fail
  have hsz := (Nat.le_trans (Nat.le_of_eq hgd.symm) hW.size)
  refine wp_gen (fun W => Below gA w W ∧ Bk W gA 24 (A4 (wd0 a) (wd1 a) (wd2 a) (wd3 a)) ∧ Bk W gB 24 (A4 (wd0 b) (wd1 b) (wd2 b) (wd3 b)) ∧ Bk W g5 24 (A4 (wd0 s) (wd1 s) (wd2 s) (wd3 s)) ∧ Bk W w3.heap.size 24 (A4 (wd0 d) (wd1 d) (wd2 d) (wd3 d))) ⟨hW.alloc hsz _, A.alloc _, B.alloc _, X5.alloc _, Bk.new _ _ _⟩ ?_
  clear hW A B X5 hsz
  generalize w3.heap.size = g7 at *
  rintro W ⟨hW, A, B, X5, X7⟩
  obtain ⟨a0, a1, a2, a3, a4, a5, a6, a7, za⟩ := A.f4
  obtain ⟨b0, b1, b2, b3, b4, b5, b6, b7, zb⟩ := B.f4
  go_cut [9, 10] (fun s9 s10 wx => ∃ (sx : Option Addr) (cx : Nat), s9 = .slice sx 256 cx ∧ s10 = .bool un ∧ BX wx (.slice sx 256 cx) d 256 ∧ Below W.heap.size W wx)
  case first =>
    go_region_held3 (fun w' => w'.cell? ⟨gA, 0, none⟩ = some (.int .u64 (wd0 a : Int)) ∧ w'.cell? ⟨gA, 1, none⟩ = some (.int .u64 (wd1 a : Int)) ∧ w'.cell? ⟨gA, 2, none⟩ = some (.int .u64 (wd2 a : Int)) ∧ w'.cell? ⟨gA, 3, none⟩ = some (.int .u64 (wd3 a : Int)) ∧ w'.cell? ⟨gB, 0, none⟩ = some (.int .u64 (wd0 b : Int)) ∧ w'.cell? ⟨gB, 1, none⟩ = some (.int .u64 (wd1 b : Int)) ∧ w'.cell? ⟨gB, 2, none⟩ = some (.int .u64 (wd2 b : Int)) ∧ w'.cell? ⟨gB, 3, none⟩ = some (.int .u64 (wd3 b : Int)))
      ((refine ⟨?_, ?_, ?_, ?_, ?_, ?_, ?_, ?_⟩; (focus (refine cellS (w := W) ?_ a0; repeat' (first | with_reducible exact Below.refl _ _ | with_reducible assumption | with_reducible refine Below.drew ?_ | with_reducible refine Below.setCell ?_ ?_ _ | with_reducible refine Below.alloc ?_ ?_ _ | with_reducible exact Nat.le_refl _ | omega | (simp; done) | (simp; omega) | (simp [World.drew]; done) | (simp [World.drew]; omega)))); (focus (refine cellS (w := W) ?_ a1; repeat' (first | with_reducible exact Below.refl _ _ | with_reducible assumption | with_reducible refine Below.drew ?_ | with_reducible refine Below.setCell ?_ ?_ _ | with_reducible refine Below.alloc ?_ ?_ _ | with_reducible exact Nat.le_refl _ | omega | (simp; done) | (simp; omega) | (simp [World.drew]; done) | (simp [World.drew]; omega)))); (focus (refine cellS (w := W) ?_ a2; repeat' (first | with_reducible exact Below.refl _ _ | with_reducible assumption | with_reducible refine Below.drew ?_ | with_reducible refine Below.setCell ?_ ?_ _ | with_reducible refine Below.alloc ?_ ?_ _ | with_reducible exact Nat.le_refl _ | omega | (simp; done) | (simp; omega) | (simp [World.drew]; done) | (simp [World.drew]; omega)))); (focus (refine cellS (w := W) ?_ a3; repeat' (first | with_reducible exact Below.refl _ _ | with_reducible assumption | with_reducible refine Below.drew ?_ | with_reducible refine Below.setCell ?_ ?_ _ | with_reducible refine Below.alloc ?_ ?_ _ | with_reducible exact Nat.le_refl _ | omega | (simp; done) | (simp; omega) | (simp [World.drew]; done) | (simp [World.drew]; omega)))); (focus (refine cellS (w := W) ?_ b0; repeat' (first | with_reducible exact Below.refl _ _ | with_reducible assumption | with_reducible refine Below.drew ?_ | with_reducible refine Below.setCell ?_ ?_ _ | with_reducible refine Below.alloc ?_ ?_ _ | with_reducible exact Nat.le_refl _ | omega | (simp; done) | (simp; omega) | (simp [World.drew]; done) | (simp [World.drew]; omega)))); (focus (refine cellS (w := W) ?_ b1; repeat' (first | with_reducible exact Below.refl _ _ | with_reducible assumption | with_reducible refine Below.drew ?_ | with_reducible refine Below.setCell ?_ ?_ _ | with_reducible refine Below.alloc ?_ ?_ _ | with_reducible exact Nat.le_refl _ | omega | (simp; done) | (simp; omega) | (simp [World.drew]; done) | (simp [World.drew]; omega)))); (focus (refine cellS (w := W) ?_ b2; repeat' (first | with_reducible exact Below.refl _ _ | with_reducible assumption | with_reducible refine Below.drew ?_ | with_reducible refine Below.setCell ?_ ?_ _ | with_reducible refine Below.alloc ?_ ?_ _ | with_reducible exact Nat.le_refl _ | omega | (simp; done) | (simp; omega) | (simp [World.drew]; done) | (simp [World.drew]; omega)))); (focus (refine cellS (w := W) ?_ b3; repeat' (first | with_reducible exact Below.refl _ _ | with_reducible assumption | with_reducible refine Below.drew ?_ | with_reducible refine Below.setCell ?_ ?_ _ | with_reducible refine Below.alloc ?_ ?_ _ | with_reducible exact Nat.le_refl _ | omega | (simp; done) | (simp; omega) | (simp [World.drew]; done) | (simp [World.drew]; omega))))))
      (first
      | (go_at_call 23
         with_reducible refine (HOA.out _).mono ?_
         rintro e wA ⟨uA, rfl, BA, hbwA⟩
         have hEwA : Below W.heap.size W wA := by
           refine below_step ?_ ?_ hbwA
           · repeat' (first | with_reducible exact Below.refl _ _ | with_reducible assumption | with_reducible refine Below.drew ?_ | with_reducible refine Below.setCell ?_ ?_ _ | with_reducible refine Below.alloc ?_ ?_ _ | with_reducible exact Nat.le_refl _ | omega | (simp; done) | (simp; omega) | (simp [World.drew]; done) | (simp [World.drew]; omega))
           · first | omega | (simp; done) | (simp; omega) | (simp [World.drew]; done) | (simp [World.drew]; omega)
         have zwA := hEwA.size
         try have BB := BB.keep hbwA
         obtain ⟨sA, cA, eA, _⟩ := BA.slice
         subst eA)
      | (go_at_call 23
         with_reducible refine (HOB.out _).mono ?_
         rintro e wB ⟨uB, rfl, BB, hbwB⟩
         have hEwB : Below W.heap.size W wB := by
           refine below_step ?_ ?_ hbwB
           · repeat' (first | with_reducible exact Below.refl _ _ | with_reducible assumption | with_reducible refine Below.drew ?_ | with_reducible refine Below.setCell ?_ ?_ _ | with_reducible refine Below.alloc ?_ ?_ _ | with_reducible exact Nat.le_refl _ | omega | (simp; done) | (simp; omega) | (simp [World.drew]; done) | (simp [World.drew]; omega))
           · first | omega | (simp; done) | (simp; omega) | (simp [World.drew]; done) | (simp [World.drew]; omega)
         have zwB := hEwB.size
         try have BA := BA.keep hbwB
         obtain ⟨sB, cB, eB, _⟩ := BB.slice
         subst eB)
      | (go_at_call 26
         refine (HS2.out _ _ _ BA BB).mono ?_
         rintro e wS ⟨uS, rfl, BS, hbwS⟩
         have hEwS : Below W.heap.size W wS := by
           refine below_step ?_ ?_ hbwS
           · repeat' (first | with_reducible exact Below.refl _ _ | with_reducible assumption | with_reducible refine Below.drew ?_ | with_reducible refine Below.setCell ?_ ?_ _ | with_reducible refine Below.alloc ?_ ?_ _ | with_reducible exact Nat.le_refl _ | omega | (simp; done) | (simp; omega) | (simp [World.drew]; done) | (simp [World.drew]; omega))
           · first | omega | (simp; done) | (simp; omega) | (simp [World.drew]; done) | (simp [World.drew]; omega)
         have zwS := hEwS.size
         obtain ⟨sS, cS, eS, _⟩ := BS.slice
         subst eS))
    all_goals
      go_wp2_with fail
      go_meet
      refine ⟨_, _, rfl, rfl, BS, ?_⟩
      repeat' (first | with_reducible exact Below.refl _ _ | with_reducible assumption | with_reducible refine Below.drew ?_ | with_reducible refine Below.setCell ?_ ?_ _ | with_reducible refine Below.alloc ?_ ?_ _ | with_reducible exact Nat.le_refl _ | omega | (simp; done) | (simp; omega) | (simp [World.drew]; done) | (simp [World.drew]; omega))
  case rest =>
    obtain ⟨sx, cx, rfl, rfl, BS, hb⟩ := hcut
    have hsz := (Nat.le_trans (Nat.le_of_eq hgd.symm) hW.size)
    have A := A.keep hb
    have B := B.keep hb
    have X5 := X5.keep hb
    have X7 := X7.keep hb
    have hW := hW.trans (hb.mono hsz)
    clear hb a0 a1 a2 a3 a4 a5 a6 a7 za b0 b1 b2 b3 b4 b5 b6 b7 zb hsz
    go_wp2_with fail
    refine (HWD.out _ _ BS).mono ?_
    rintro e w5 ⟨rfl, hb⟩
    have hsz := (Nat.le_trans (Nat.le_of_eq hgd.symm) hW.size)
    have A := A.keep hb
    have B := B.keep hb
    have X5 := X5.keep hb
    have X7 := X7.keep hb
    have hW := hW.trans (hb.mono hsz)
    clear hb BS hsz
    go_upto_region 7 with fail
    have hsz := (Nat.le_trans (Nat.le_of_eq hgd.symm) hW.size)
    refine wp_gen (fun W => Below gA w W ∧ Bk W gA 24 (A4 (wd0 a) (wd1 a) (wd2 a) (wd3 a)) ∧ Bk W gB 24 (A4 (wd0 b) (wd1 b) (wd2 b) (wd3 b)) ∧ Bk W g5 24 (A4 (wd0 s) (wd1 s) (wd2 s) (wd3 s)) ∧ Bk W g7 24 (A4 (wd0 d) (wd1 d) (wd2 d) (wd3 d)) ∧ Bk W w5.heap.size 23 (A4 (wd0 d) (wd1 d) (wd2 d) (wd3 d))) ⟨hW.alloc hsz _, A.alloc _, B.alloc _, X5.alloc _, X7.alloc _, Bk.new _ _ _⟩ ?_
    clear hW A B X5 X7 hsz
    generalize w5.heap.size = g11 at *
    rintro W6 ⟨hW, A, B, X5, X7, X11⟩
    obtain ⟨a0, a1, a2, a3, a4, a5, a6, a7, za⟩ := A.f4
    obtain ⟨b0, b1, b2, b3, b4, b5, b6, b7, zb⟩ := B.f4
    go_wp2_with fail
    refine (HCM.out _).mono ?_
    rintro e w7 ⟨rfl, hb⟩
    have hsz := (Nat.le_trans (Nat.le_of_eq hgd.symm) hW.size)
    have A := A.keep hb
    have B := B.keep hb
    have X5 := X5.keep hb
    have X7 := X7.keep hb
    have X11 := X11.keep hb
    have hW := hW.trans (hb.mono hsz)
    clear hb a0 a1 a2 a3 a4 a5 a6 a7 za b0 b1 b2 b3 b4 b5 b6 b7 zb hsz
    go_upto_region 8 with fail
    have hsz := (Nat.le_trans (Nat.le_of_eq hgd.symm) hW.size)
    refine sums_gt a b s d ov un z gA gB g5 g7 g11 _ _ _ _ _ _ _ _ _ _ _ _ _ _ _ _ _ _ _ _ _ _ _ _ _ _ _ _ _ _ _ _ _ _ _ _ _ _ _ _ _ _ _ _ _ _ _ _ _ _ _ _ _ _ _ _ _ _ _ _ _ _ _ _ _ _ _ _ _ _ _ _ _ _ _ _ _ _ _ _ _ _ _ _ _ _ _ _ _ _ _ _ HQD.out HQE.out HQZ.out HOA HOB HAD HIS HL1 HL2 HZ A B X5 X7 X11 (fun x45 x46 x47 x48 x49 x50 x51 x52 x53 x54 x55 x56 x57 x58 x59 x60 x61 x62 x63 x64 x65 x66 x67 x68 x69 x70 x71 x72 x73 x74 x75 x76 x77 x78 x79 x80 x81 x82 x83 x84 x85 x86 x87 x88 x89 x90 x91 x92 x93 x94 x95 x96 x97 x98 w' hb => ?_)
    show Exit.then _ _ Exit.normal _ w'
    clear HOA HOB HAD HIS HL1 HL2 HZ HADDN HSUB HS2 HWD HCM A B X5 X7 X11 HQD HQE HQZ
    go_wp2_with fail
    go_ret
    rw [hgd]
    exact ⟨rfl, hW.trans (hb.mono hsz)⟩
theorem walk (a b : Nat) (w : World) (ha : a < M256) (hb : b < M256) :
    Calls Try.prog 5 #[nv a, nv b] w fun e w' => e = .returned (.bool true) ∧ Below w.heap.size w w' := by
  have hsM : (a + b) % M256 < M256 := Nat.mod_lt _ M256_pos
  have hdM : (a + (M256 - b)) % M256 < M256 := Nat.mod_lt _ M256_pos
  have ed : (a + M256 - b) % M256 = (a + (M256 - b)) % M256 := by rw [Nat.add_sub_assoc (Nat.le_of_lt hb)]
  have HOA := fun W => of_law a W ha
  have HOB := fun W => of_law b W hb
  have HAD := fun (W : World) (u v : Value) (h1 : BX W u a 256) (h2 : BX W v b 256) => add2_any u v a b 256 256 W h1 h2 (by omega) (by omega)
  have HIS := fun (W : World) (v : Value) (h : BX W v (a + b) 257) => is_any ((a + b) % M256) (a + b) 257 (decide (M256 ≤ a + b)) v W h (by omega) rfl rfl hsM
  have HL1 := fun (W : World) (u v : Value) (h1 : BX W u a 256) (h2 : BX W v b 256) => less_any u v a b 256 256 W h1 h2 (by omega) (by omega)
  have HL2 := fun (W : World) (u v : Value) (h1 : BX W u b 256) (h2 : BX W v a 256) => less_any u v b a 256 256 W h1 h2 (by omega) (by omega)
  have HZ := fun W => zero_any a W ha
  have HADDN := fun W => add2 a b W ha hb
  have HSUB := fun W => sub_any a b W ha hb
  rw [ed] at HSUB
  have HS2 := fun (W : World) (u v : Value) (h1 : BX W u a 256) (h2 : BX W v b 256) => sub2_any u v a b 256 256 W h1 h2 (by omega) (by omega) ha hb
  have HWD := fun (W : World) (v : Value) (h : BX W v ((a + (M256 - b)) % M256) 256) => words_any v _ 256 W h (by omega)
  rw [Nat.mod_eq_of_lt hdM] at HWD
  have HCM := fun W => cmp_any a b W ha hb
  have hqd := fun w => nv_eql _ _ hdM hdM w
  rw [decide_eq_true rfl] at hqd
  have hqe := fun w => nv_eql a b ha hb w
  have hqz := fun w => nv_eql a 0 ha M256_pos w
  rw [nv_zero] at hqz
  rcases Nat.lt_trichotomy a b with h | h | h
  · rw [decide_eq_true h] at HL1 HSUB HS2
    rw [decide_eq_false (show ¬ b < a by omega)] at HL2
    rw [decide_eq_false (show ¬ a = b by omega)] at hqe
    rw [show cmpI a b = -1 by unfold cmpI; rw [if_pos h]] at HCM
    exact walk_lt a b _ _ _ _ _ _ w hqd hqe hqz HOA HOB HAD HIS HL1 HL2 HZ HADDN HSUB HS2 HWD HCM
  · rw [decide_eq_false (show ¬ a < b by omega)] at HL1 HSUB HS2
    rw [decide_eq_false (show ¬ b < a by omega)] at HL2
    rw [decide_eq_true h] at hqe
    rw [show cmpI a b = 0 by unfold cmpI; rw [if_neg (by omega), if_pos h]] at HCM
    exact walk_eq a b _ _ _ _ _ _ w hqd hqe hqz HOA HOB HAD HIS HL1 HL2 HZ HADDN HSUB HS2 HWD HCM
  · rw [decide_eq_false (show ¬ a < b by omega)] at HL1 HSUB HS2
    rw [decide_eq_true h] at HL2
    rw [decide_eq_false (show ¬ a = b by omega)] at hqe
    rw [show cmpI a b = 1 by unfold cmpI; rw [if_neg (by omega), if_neg (by omega)]] at HCM
    exact walk_gt a b _ _ _ _ _ _ w hqd hqe hqz HOA HOB HAD HIS HL1 HL2 HZ HADDN HSUB HS2 HWD HCM

set_option maxRecDepth 100000 in
set_option maxHeartbeats 2000000 in
theorem lifted (os : Os) (started : os.Started) (H : Type) (enc : TypeId × Value → H) :
    ReturnsInHanded {} Try.checked os 5 .any (Rows.numSumsSpec.pre6 enc Try.prog Try.f5 Rows.numSumsRow.domain false) (Rows.numSumsSpec.post enc Try.prog Try.f5 false true false false) := by
  refine returnsInHanded_of_change (C := Try.checked) own started (by kernel_rfl) Try.func5
    (ChangeSpec.witness6 (enc := enc) (C := Try.checked) false ⟨#[], #[I4 0 0 0 0, I4 0 0 0 0], []⟩ 8 (by kernel_rfl) (by kernel_rfl) (by kernel_rfl) (by kernel_rfl)) ?_
  intro W base args ds gs before hval0 hW hcnd _
  have hval : ∀ (j : Nat) t v, Try.f5.params[j]? = some t → args[j]? = some v → Value.okWide Try.prog W .any base t v := hval0
  have hW' := hW
  obtain ⟨p, q, hA0, hV, rfl, hfz, hnd⟩ := hW
  have hA : DataW.TrodAll enc Try.prog W 0 (fun _ => true) true Try.f5.params.toList args.toList ds p := hA0
  rw [Try.params5] at hA hval
  obtain ⟨v0, vs0, d0, ds0, p0, q0, hargs, rfl, rfl, h0, r0⟩ := trodAll_cons hA
  obtain ⟨v1, vs1, d1, ds1, p1, q1, rfl, rfl, rfl, h1, r1⟩ := trodAll_cons r0
  obtain ⟨rfl, rfl, rfl⟩ := trodAll_nil r1
  obtain rfl : args = #[v0, v1] := by cases args; simp_all
  obtain ⟨rfl, rfl⟩ := trodVars_none hV
  have lt0 : ∀ x ∈ p0, x.block < W.heap.size := by obtain ⟨m, hm⟩ := h0; exact DataW.trod_lt m _ _ _ hm
  have lt1 : ∀ x ∈ p1, x.block < W.heap.size := by obtain ⟨m, hm⟩ := h1; exact DataW.trod_lt m _ _ _ hm
  obtain ⟨zs0, hl0, rfl, hz0⟩ := open_ints_arr (n := 4) (k := .u64) Try.underlying24 Try.underlying22 (by kernel_rfl) (by kernel_rfl) (hval 0 24 v0 rfl rfl) h0
  obtain ⟨x0, hx0, ea0⟩ := num_of_words hl0 hz0
  obtain ⟨zs1, hl1, rfl, hz1⟩ := open_ints_arr (n := 4) (k := .u64) Try.underlying24 Try.underlying22 (by kernel_rfl) (by kernel_rfl) (hval 1 24 v1 rfl rfl) h1
  obtain ⟨x1, hx1, ea1⟩ := num_of_words hl1 hz1
  clear hA0 hval0
  have hwalk := walk x0 x1 W hx0 hx1
  rw [← ea0] at hwalk
  rw [← ea1] at hwalk
  refine hwalk.mono fun e W' ⟨he, bel⟩ => ?_
  subst he
  exact ⟨_, rfl, _, _, _, [], _, [], hW', trodAll_mk1 (shut_bool Try.underlying4 _), (trodAll_cons_mk (Below.trod laidOut (by kernel_rfl) (of_decide_eq_true (by kernel_rfl)) h0 bel lt0) (trodAll_cons_mk (Below.trod laidOut (by kernel_rfl) (of_decide_eq_true (by kernel_rfl)) h1 bel lt1) trodAll_mk0)), rfl, bel.frame _, fun h => by cases h⟩

theorem over : Rows.numSumsRow.holds Try.pinned (OpenSpec.ofChange Rows.numSumsSpec) :=
  OpenClaim.holds_of_wide 5 Try.f5 rfl rfl rfl rfl rfl rfl rfl ⟨rfl, rfl, rfl, rfl, rfl⟩ rfl rfl rfl rfl rfl (by kernel_rfl) Try.func5 (by kernel_rfl)
    (of_decide_eq_true (by kernel_rfl)) (by unfold Func.isWrapper; first | (rw [if_pos (by decide +kernel)]; kernel_rfl) | (rw [if_neg (by decide +kernel)]; exact ⟨rfl, rfl⟩))
    (fun os started H enc _ => lifted os started H enc)

theorem proved : Rows.NumSumsSaid := over
#print axioms proved
end Go.Proofs.Ytkifehabajchhaa.numSums
