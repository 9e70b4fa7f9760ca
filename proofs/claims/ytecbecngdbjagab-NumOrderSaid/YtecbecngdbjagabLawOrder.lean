/-
  What is proved: for all numbers a, b, c the law NumOrder returns true, and its arguments read behind the call as they read before it. No condition.
-/
import Derived.Test.YtecbecngdbjagabCnt
import Derived.Test.YtecbecngdbjagabOpen
namespace Go.Proofs.Ytecbecngdbjagab.numOrder
open Go.ChangeShapes Go.WideShapes Go.ChangeAt Go.RowKit
set_option linter.unusedVariables false

theorem own : ownKnob Try.prog.godebug = none := by kernel_rfl
theorem laidOut : laidOutB Try.prog = true := by kernel_rfl

set_option maxRecDepth 100000 in
set_option maxHeartbeats 8000000 in
theorem walk_lt_le (a b c s : Nat) (z u g1 g2 : Int) (o : Bool) (w : World)
    (HX : Hid (∀ W : World, Calls Try.prog 8 #[nv a, nv b] W fun e w' => e = .returned (.int .i64 (-1)) ∧ Below W.heap.size W w'))
    (HY : Hid (∀ W : World, Calls Try.prog 8 #[nv b, nv a] W fun e w' => e = .returned (.int .i64 1) ∧ Below W.heap.size W w'))
    (HZ : Hid (∀ W : World, Calls Try.prog 8 #[nv b, nv c] W fun e w' => e = .returned (.int .i64 z) ∧ Below W.heap.size W w'))
    (HU : Hid (∀ W : World, Calls Try.prog 8 #[nv a, nv c] W fun e w' => e = .returned (.int .i64 u) ∧ Below W.heap.size W w'))
    (HA : Hid (∀ W : World, Calls Try.prog 7 #[.slice (some ⟨W.heap.size, 0, none⟩) 2 2] (W.alloc (.cells #[.int .u64 (wd0 a : Int), .int .u64 (wd1 a : Int), .int .u64 (wd2 a : Int), .int .u64 (wd3 a : Int), .int .u64 (wd0 b : Int), .int .u64 (wd1 b : Int), .int .u64 (wd2 b : Int), .int .u64 (wd3 b : Int)] 26)) fun e w' => e = .returned (.tuple #[nv s, .bool o]) ∧ Below W.heap.size W w'))
    (HG1 : Hid (∀ W : World, Calls Try.prog 8 #[nv s, nv a] W fun e w' => e = .returned (.int .i64 g1) ∧ Below W.heap.size W w'))
    (HG2 : Hid (∀ W : World, Calls Try.prog 8 #[nv s, nv b] W fun e w' => e = .returned (.int .i64 g2) ∧ Below W.heap.size W w'))
    (HO : Hid ((o = false → 0 ≤ g1 ∧ 0 ≤ g2) ∧ (o = true → g1 < 0 ∧ g2 < 0)))
    (he : ∀ w : World, (Op.equalIn 10000 26 (nv a) (nv b)).run Try.prog w = .ok false w) (h2 : z ≤ 0) (h3 : u ≤ 0) :
    Calls Try.prog 4 #[nv a, nv b, nv c] w fun e w' => e = .returned (.bool true) ∧ Below w.heap.size w w' := by
  go_enter Try.func4, Try.ntmps4
  go_wp2_with fail
  refine (counts_any _).mono ?_
  rintro e w1 ⟨rfl, hb1⟩
  have A : Bk w1 w.heap.size 26 (A4 (wd0 a) (wd1 a) (wd2 a) (wd3 a)) := Bk.keep (((Bk.new _ _ _).alloc _).alloc _) hb1
  have B : Bk w1 (w.heap.size + 1) 26 (A4 (wd0 b) (wd1 b) (wd2 b) (wd3 b)) := Bk.keep ((Bk.new' _ _ _ (by simp)).alloc _) hb1
  have C : Bk w1 (w.heap.size + 2) 26 (A4 (wd0 c) (wd1 c) (wd2 c) (wd3 c)) := Bk.keep (Bk.new' _ _ _ (by simp)) hb1
  have hW : Below w.heap.size w w1 := below_step ((((Below.refl _ _).alloc (Nat.le_refl _) _).alloc (by simp) _).alloc (by simp; omega) _) (by simp; omega) hb1
  clear hb1
  obtain ⟨a0, a1, a2, a3, a4, a5, a6, a7, za⟩ := A.f4
  obtain ⟨b0, b1, b2, b3, b4, b5, b6, b7, zb⟩ := B.f4
  have r0 := cell_regrown a0
  have r1 := cell_regrown a1
  have r2 := cell_regrown a2
  have r3 := cell_regrown a3
  have r4 := cell_regrown b0
  have r5 := cell_regrown b1
  have r6 := cell_regrown b2
  have r7 := cell_regrown b3
  go_wp2_with fail
  refine wp_region_quiet_below (by kernel_rfl) (by kernel_rfl) ?_
  quiet_step (fail)
  quiet_step (fail)
  quiet_step (exact Calls.regrown_of (HX.out _))
  quiet_step (fail)
  quiet_step (fail)
  quiet_step (exact Calls.regrown_of (HY.out _))
  quiet_step (fail)
  quiet_step (fail)
  refine wpQuiet_nil ?_
  intro _ hw'
  obtain ⟨⟨dq, osq⟩, hw''⟩ := hw'
  subst hw''
  have hG := below_regrown w1 dq osq
  have A := A.keep hG
  have B := B.keep hG
  have C := C.keep hG
  have hW := below_step hW (by omega) hG
  show Exit.then _ _ Exit.normal _ (Go.Sort.grow (redrawn w1 dq) osq)
  clear a0 a1 a2 a3 a4 a5 a6 a7 za b0 b1 b2 b3 b4 b5 b6 b7 zb r0 r1 r2 r3 r4 r5 r6 r7 hG
  generalize Go.Sort.grow (redrawn w1 dq) osq = w2 at *
  obtain ⟨a0, a1, a2, a3, a4, a5, a6, a7, za⟩ := A.f4
  obtain ⟨b0, b1, b2, b3, b4, b5, b6, b7, zb⟩ := B.f4
  obtain ⟨c0, c1, c2, c3, c4, c5, c6, c7, zc⟩ := C.f4
  go_wp2_with fail
  refine (HX.out _).mono ?_
  rintro e w3 ⟨rfl, hb⟩
  have A := A.keep hb
  have B := B.keep hb
  have C := C.keep hb
  have hW := below_step hW (by omega) hb
  clear hb a0 a1 a2 a3 a4 a5 a6 a7 za b0 b1 b2 b3 b4 b5 b6 b7 zb c0 c1 c2 c3 c4 c5 c6 c7 zc
  obtain ⟨a0, a1, a2, a3, a4, a5, a6, a7, za⟩ := A.f4
  obtain ⟨b0, b1, b2, b3, b4, b5, b6, b7, zb⟩ := B.f4
  obtain ⟨c0, c1, c2, c3, c4, c5, c6, c7, zc⟩ := C.f4
  go_wp2_with fail
  refine (HZ.out _).mono ?_
  rintro e w4 ⟨rfl, hb⟩
  have A := A.keep hb
  have B := B.keep hb
  have C := C.keep hb
  have hW := below_step hW (by omega) hb
  clear hb a0 a1 a2 a3 a4 a5 a6 a7 za b0 b1 b2 b3 b4 b5 b6 b7 zb c0 c1 c2 c3 c4 c5 c6 c7 zc
  obtain ⟨a0, a1, a2, a3, a4, a5, a6, a7, za⟩ := A.f4
  obtain ⟨b0, b1, b2, b3, b4, b5, b6, b7, zb⟩ := B.f4
  obtain ⟨c0, c1, c2, c3, c4, c5, c6, c7, zc⟩ := C.f4
  go_wp2_with fail
  refine (HU.out _).mono ?_
  rintro e w5 ⟨rfl, hb⟩
  have A := A.keep hb
  have B := B.keep hb
  have C := C.keep hb
  have hW := below_step hW (by omega) hb
  clear hb a0 a1 a2 a3 a4 a5 a6 a7 za b0 b1 b2 b3 b4 b5 b6 b7 zb c0 c1 c2 c3 c4 c5 c6 c7 zc
  obtain ⟨a0, a1, a2, a3, a4, a5, a6, a7, za⟩ := A.f4
  obtain ⟨b0, b1, b2, b3, b4, b5, b6, b7, zb⟩ := B.f4
  obtain ⟨c0, c1, c2, c3, c4, c5, c6, c7, zc⟩ := C.f4
  go_wp2_with fail
  refine (HA.out _).mono ?_
  rintro e w6 ⟨rfl, hb⟩
  have A := A.keep hb
  have B := B.keep hb
  have hW := below_step hW (by omega) hb
  clear hb a0 a1 a2 a3 a4 a5 a6 a7 za b0 b1 b2 b3 b4 b5 b6 b7 zb c0 c1 c2 c3 c4 c5 c6 c7 zc C HX HY HZ HU HA he
  have hW : Below w.heap.size w (w6.alloc (.cells (A4 (wd0 s) (wd1 s) (wd2 s) (wd3 s)) 26)) := hW.alloc (by have := A.lt; omega) _
  have S := Bk.new w6 26 (A4 (wd0 s) (wd1 s) (wd2 s) (wd3 s))
  obtain ⟨a0, a1, a2, a3, a4, a5, a6, a7, za⟩ := A.f4
  obtain ⟨b0, b1, b2, b3, b4, b5, b6, b7, zb⟩ := B.f4
  have A := A.alloc (.cells (A4 (wd0 s) (wd1 s) (wd2 s) (wd3 s)) 26)
  have B := B.alloc (.cells (A4 (wd0 s) (wd1 s) (wd2 s) (wd3 s)) 26)
  obtain ⟨ho1, ho2⟩ := HO.out
  cases o
  all_goals
    go_wp2_with fail
    refine (HG1.out _).mono ?_
    rintro e w7 ⟨rfl, hb⟩
    have A := A.keep hb
    have B := B.keep hb
    have S := S.keep hb
    have hW := below_step hW (by simp; omega) hb
    clear hb a0 a1 a2 a3 a4 a5 a6 a7 za b0 b1 b2 b3 b4 b5 b6 b7 zb
    obtain ⟨a0, a1, a2, a3, a4, a5, a6, a7, za⟩ := A.f4
    obtain ⟨b0, b1, b2, b3, b4, b5, b6, b7, zb⟩ := B.f4
    obtain ⟨s0, s1, s2, s3, s4, s5, s6, s7, zs⟩ := S.f4
    simp only [forall_const, reduceCtorEq, false_implies] at ho1 ho2
    try obtain ⟨g1a, g2a⟩ := ho1
    try obtain ⟨g1a, g2a⟩ := ho2
    go_wp2_with fail
    refine (HG2.out _).mono ?_
    rintro e w8 ⟨rfl, hb⟩
    have hW := below_step hW (by omega) hb
    go_wp2_with fail
    go_ret
    exact ⟨rfl, hW⟩

set_option maxRecDepth 100000 in
set_option maxHeartbeats 8000000 in
theorem walk_lt_gt (a b c s : Nat) (z u g1 g2 : Int) (o : Bool) (w : World)
    (HX : Hid (∀ W : World, Calls Try.prog 8 #[nv a, nv b] W fun e w' => e = .returned (.int .i64 (-1)) ∧ Below W.heap.size W w'))
    (HY : Hid (∀ W : World, Calls Try.prog 8 #[nv b, nv a] W fun e w' => e = .returned (.int .i64 1) ∧ Below W.heap.size W w'))
    (HZ : Hid (∀ W : World, Calls Try.prog 8 #[nv b, nv c] W fun e w' => e = .returned (.int .i64 z) ∧ Below W.heap.size W w'))
    (HU : Hid (∀ W : World, Calls Try.prog 8 #[nv a, nv c] W fun e w' => e = .returned (.int .i64 u) ∧ Below W.heap.size W w'))
    (HA : Hid (∀ W : World, Calls Try.prog 7 #[.slice (some ⟨W.heap.size, 0, none⟩) 2 2] (W.alloc (.cells #[.int .u64 (wd0 a : Int), .int .u64 (wd1 a : Int), .int .u64 (wd2 a : Int), .int .u64 (wd3 a : Int), .int .u64 (wd0 b : Int), .int .u64 (wd1 b : Int), .int .u64 (wd2 b : Int), .int .u64 (wd3 b : Int)] 26)) fun e w' => e = .returned (.tuple #[nv s, .bool o]) ∧ Below W.heap.size W w'))
    (HG1 : Hid (∀ W : World, Calls Try.prog 8 #[nv s, nv a] W fun e w' => e = .returned (.int .i64 g1) ∧ Below W.heap.size W w'))
    (HG2 : Hid (∀ W : World, Calls Try.prog 8 #[nv s, nv b] W fun e w' => e = .returned (.int .i64 g2) ∧ Below W.heap.size W w'))
    (HO : Hid ((o = false → 0 ≤ g1 ∧ 0 ≤ g2) ∧ (o = true → g1 < 0 ∧ g2 < 0)))
    (he : ∀ w : World, (Op.equalIn 10000 26 (nv a) (nv b)).run Try.prog w = .ok false w) (h2 : 0 < z) :
    Calls Try.prog 4 #[nv a, nv b, nv c] w fun e w' => e = .returned (.bool true) ∧ Below w.heap.size w w' := by
  go_enter Try.func4, Try.ntmps4
  go_wp2_with fail
  refine (counts_any _).mono ?_
  rintro e w1 ⟨rfl, hb1⟩
  have A : Bk w1 w.heap.size 26 (A4 (wd0 a) (wd1 a) (wd2 a) (wd3 a)) := Bk.keep (((Bk.new _ _ _).alloc _).alloc _) hb1
  have B : Bk w1 (w.heap.size + 1) 26 (A4 (wd0 b) (wd1 b) (wd2 b) (wd3 b)) := Bk.keep ((Bk.new' _ _ _ (by simp)).alloc _) hb1
  have C : Bk w1 (w.heap.size + 2) 26 (A4 (wd0 c) (wd1 c) (wd2 c) (wd3 c)) := Bk.keep (Bk.new' _ _ _ (by simp)) hb1
  have hW : Below w.heap.size w w1 := below_step ((((Below.refl _ _).alloc (Nat.le_refl _) _).alloc (by simp) _).alloc (by simp; omega) _) (by simp; omega) hb1
  clear hb1
  obtain ⟨a0, a1, a2, a3, a4, a5, a6, a7, za⟩ := A.f4
  obtain ⟨b0, b1, b2, b3, b4, b5, b6, b7, zb⟩ := B.f4
  have r0 := cell_regrown a0
  have r1 := cell_regrown a1
  have r2 := cell_regrown a2
  have r3 := cell_regrown a3
  have r4 := cell_regrown b0
  have r5 := cell_regrown b1
  have r6 := cell_regrown b2
  have r7 := cell_regrown b3
  go_wp2_with fail
  refine wp_region_quiet_below (by kernel_rfl) (by kernel_rfl) ?_
  quiet_step (fail)
  quiet_step (fail)
  quiet_step (exact Calls.regrown_of (HX.out _))
  quiet_step (fail)
  quiet_step (fail)
  quiet_step (exact Calls.regrown_of (HY.out _))
  quiet_step (fail)
  quiet_step (fail)
  refine wpQuiet_nil ?_
  intro _ hw'
  obtain ⟨⟨dq, osq⟩, hw''⟩ := hw'
  subst hw''
  have hG := below_regrown w1 dq osq
  have A := A.keep hG
  have B := B.keep hG
  have C := C.keep hG
  have hW := below_step hW (by omega) hG
  show Exit.then _ _ Exit.normal _ (Go.Sort.grow (redrawn w1 dq) osq)
  clear a0 a1 a2 a3 a4 a5 a6 a7 za b0 b1 b2 b3 b4 b5 b6 b7 zb r0 r1 r2 r3 r4 r5 r6 r7 hG
  generalize Go.Sort.grow (redrawn w1 dq) osq = w2 at *
  obtain ⟨a0, a1, a2, a3, a4, a5, a6, a7, za⟩ := A.f4
  obtain ⟨b0, b1, b2, b3, b4, b5, b6, b7, zb⟩ := B.f4
  obtain ⟨c0, c1, c2, c3, c4, c5, c6, c7, zc⟩ := C.f4
  go_wp2_with fail
  refine (HX.out _).mono ?_
  rintro e w3 ⟨rfl, hb⟩
  have A := A.keep hb
  have B := B.keep hb
  have C := C.keep hb
  have hW := below_step hW (by omega) hb
  clear hb a0 a1 a2 a3 a4 a5 a6 a7 za b0 b1 b2 b3 b4 b5 b6 b7 zb c0 c1 c2 c3 c4 c5 c6 c7 zc
  obtain ⟨a0, a1, a2, a3, a4, a5, a6, a7, za⟩ := A.f4
  obtain ⟨b0, b1, b2, b3, b4, b5, b6, b7, zb⟩ := B.f4
  obtain ⟨c0, c1, c2, c3, c4, c5, c6, c7, zc⟩ := C.f4
  go_wp2_with fail
  refine (HZ.out _).mono ?_
  rintro e w4 ⟨rfl, hb⟩
  have A := A.keep hb
  have B := B.keep hb
  have C := C.keep hb
  have hW := below_step hW (by omega) hb
  clear hb a0 a1 a2 a3 a4 a5 a6 a7 za b0 b1 b2 b3 b4 b5 b6 b7 zb c0 c1 c2 c3 c4 c5 c6 c7 zc
  obtain ⟨a0, a1, a2, a3, a4, a5, a6, a7, za⟩ := A.f4
  obtain ⟨b0, b1, b2, b3, b4, b5, b6, b7, zb⟩ := B.f4
  obtain ⟨c0, c1, c2, c3, c4, c5, c6, c7, zc⟩ := C.f4
  go_wp2_with fail
  refine (HA.out _).mono ?_
  rintro e w6 ⟨rfl, hb⟩
  have A := A.keep hb
  have B := B.keep hb
  have hW := below_step hW (by omega) hb
  clear hb a0 a1 a2 a3 a4 a5 a6 a7 za b0 b1 b2 b3 b4 b5 b6 b7 zb c0 c1 c2 c3 c4 c5 c6 c7 zc C HX HY HZ HU HA he
  have hW : Below w.heap.size w (w6.alloc (.cells (A4 (wd0 s) (wd1 s) (wd2 s) (wd3 s)) 26)) := hW.alloc (by have := A.lt; omega) _
  have S := Bk.new w6 26 (A4 (wd0 s) (wd1 s) (wd2 s) (wd3 s))
  obtain ⟨a0, a1, a2, a3, a4, a5, a6, a7, za⟩ := A.f4
  obtain ⟨b0, b1, b2, b3, b4, b5, b6, b7, zb⟩ := B.f4
  have A := A.alloc (.cells (A4 (wd0 s) (wd1 s) (wd2 s) (wd3 s)) 26)
  have B := B.alloc (.cells (A4 (wd0 s) (wd1 s) (wd2 s) (wd3 s)) 26)
  obtain ⟨ho1, ho2⟩ := HO.out
  cases o
  all_goals
    go_wp2_with fail
    refine (HG1.out _).mono ?_
    rintro e w7 ⟨rfl, hb⟩
    have A := A.keep hb
    have B := B.keep hb
    have S := S.keep hb
    have hW := below_step hW (by simp; omega) hb
    clear hb a0 a1 a2 a3 a4 a5 a6 a7 za b0 b1 b2 b3 b4 b5 b6 b7 zb
    obtain ⟨a0, a1, a2, a3, a4, a5, a6, a7, za⟩ := A.f4
    obtain ⟨b0, b1, b2, b3, b4, b5, b6, b7, zb⟩ := B.f4
    obtain ⟨s0, s1, s2, s3, s4, s5, s6, s7, zs⟩ := S.f4
    simp only [forall_const, reduceCtorEq, false_implies] at ho1 ho2
    try obtain ⟨g1a, g2a⟩ := ho1
    try obtain ⟨g1a, g2a⟩ := ho2
    go_wp2_with fail
    refine (HG2.out _).mono ?_
    rintro e w8 ⟨rfl, hb⟩
    have hW := below_step hW (by omega) hb
    go_wp2_with fail
    go_ret
    exact ⟨rfl, hW⟩

set_option maxRecDepth 100000 in
set_option maxHeartbeats 8000000 in
theorem walk_eq_le (a b c s : Nat) (z u g1 g2 : Int) (o : Bool) (w : World)
    (HX : Hid (∀ W : World, Calls Try.prog 8 #[nv a, nv b] W fun e w' => e = .returned (.int .i64 0) ∧ Below W.heap.size W w'))
    (HY : Hid (∀ W : World, Calls Try.prog 8 #[nv b, nv a] W fun e w' => e = .returned (.int .i64 0) ∧ Below W.heap.size W w'))
    (HZ : Hid (∀ W : World, Calls Try.prog 8 #[nv b, nv c] W fun e w' => e = .returned (.int .i64 z) ∧ Below W.heap.size W w'))
    (HU : Hid (∀ W : World, Calls Try.prog 8 #[nv a, nv c] W fun e w' => e = .returned (.int .i64 u) ∧ Below W.heap.size W w'))
    (HA : Hid (∀ W : World, Calls Try.prog 7 #[.slice (some ⟨W.heap.size, 0, none⟩) 2 2] (W.alloc (.cells #[.int .u64 (wd0 a : Int), .int .u64 (wd1 a : Int), .int .u64 (wd2 a : Int), .int .u64 (wd3 a : Int), .int .u64 (wd0 b : Int), .int .u64 (wd1 b : Int), .int .u64 (wd2 b : Int), .int .u64 (wd3 b : Int)] 26)) fun e w' => e = .returned (.tuple #[nv s, .bool o]) ∧ Below W.heap.size W w'))
    (HG1 : Hid (∀ W : World, Calls Try.prog 8 #[nv s, nv a] W fun e w' => e = .returned (.int .i64 g1) ∧ Below W.heap.size W w'))
    (HG2 : Hid (∀ W : World, Calls Try.prog 8 #[nv s, nv b] W fun e w' => e = .returned (.int .i64 g2) ∧ Below W.heap.size W w'))
    (HO : Hid ((o = false → 0 ≤ g1 ∧ 0 ≤ g2) ∧ (o = true → g1 < 0 ∧ g2 < 0)))
    (he : ∀ w : World, (Op.equalIn 10000 26 (nv a) (nv b)).run Try.prog w = .ok true w) (h2 : z ≤ 0) (h3 : u ≤ 0) :
    Calls Try.prog 4 #[nv a, nv b, nv c] w fun e w' => e = .returned (.bool true) ∧ Below w.heap.size w w' := by
  go_enter Try.func4, Try.ntmps4
  go_wp2_with fail
  refine (counts_any _).mono ?_
  rintro e w1 ⟨rfl, hb1⟩
  have A : Bk w1 w.heap.size 26 (A4 (wd0 a) (wd1 a) (wd2 a) (wd3 a)) := Bk.keep (((Bk.new _ _ _).alloc _).alloc _) hb1
  have B : Bk w1 (w.heap.size + 1) 26 (A4 (wd0 b) (wd1 b) (wd2 b) (wd3 b)) := Bk.keep ((Bk.new' _ _ _ (by simp)).alloc _) hb1
  have C : Bk w1 (w.heap.size + 2) 26 (A4 (wd0 c) (wd1 c) (wd2 c) (wd3 c)) := Bk.keep (Bk.new' _ _ _ (by simp)) hb1
  have hW : Below w.heap.size w w1 := below_step ((((Below.refl _ _).alloc (Nat.le_refl _) _).alloc (by simp) _).alloc (by simp; omega) _) (by simp; omega) hb1
  clear hb1
  obtain ⟨a0, a1, a2, a3, a4, a5, a6, a7, za⟩ := A.f4
  obtain ⟨b0, b1, b2, b3, b4, b5, b6, b7, zb⟩ := B.f4
  have r0 := cell_regrown a0
  have r1 := cell_regrown a1
  have r2 := cell_regrown a2
  have r3 := cell_regrown a3
  have r4 := cell_regrown b0
  have r5 := cell_regrown b1
  have r6 := cell_regrown b2
  have r7 := cell_regrown b3
  go_wp2_with fail
  refine wp_region_quiet_below (by kernel_rfl) (by kernel_rfl) ?_
  quiet_step (fail)
  quiet_step (fail)
  quiet_step (exact Calls.regrown_of (HX.out _))
  quiet_step (fail)
  quiet_step (fail)
  quiet_step (exact Calls.regrown_of (HY.out _))
  quiet_step (fail)
  quiet_step (fail)
  refine wpQuiet_nil ?_
  intro _ hw'
  obtain ⟨⟨dq, osq⟩, hw''⟩ := hw'
  subst hw''
  have hG := below_regrown w1 dq osq
  have A := A.keep hG
  have B := B.keep hG
  have C := C.keep hG
  have hW := below_step hW (by omega) hG
  show Exit.then _ _ Exit.normal _ (Go.Sort.grow (redrawn w1 dq) osq)
  clear a0 a1 a2 a3 a4 a5 a6 a7 za b0 b1 b2 b3 b4 b5 b6 b7 zb r0 r1 r2 r3 r4 r5 r6 r7 hG
  generalize Go.Sort.grow (redrawn w1 dq) osq = w2 at *
  obtain ⟨a0, a1, a2, a3, a4, a5, a6, a7, za⟩ := A.f4
  obtain ⟨b0, b1, b2, b3, b4, b5, b6, b7, zb⟩ := B.f4
  obtain ⟨c0, c1, c2, c3, c4, c5, c6, c7, zc⟩ := C.f4
  go_wp2_with fail
  refine (HX.out _).mono ?_
  rintro e w3 ⟨rfl, hb⟩
  have A := A.keep hb
  have B := B.keep hb
  have C := C.keep hb
  have hW := below_step hW (by omega) hb
  clear hb a0 a1 a2 a3 a4 a5 a6 a7 za b0 b1 b2 b3 b4 b5 b6 b7 zb c0 c1 c2 c3 c4 c5 c6 c7 zc
  obtain ⟨a0, a1, a2, a3, a4, a5, a6, a7, za⟩ := A.f4
  obtain ⟨b0, b1, b2, b3, b4, b5, b6, b7, zb⟩ := B.f4
  obtain ⟨c0, c1, c2, c3, c4, c5, c6, c7, zc⟩ := C.f4
  go_wp2_with fail
  refine (HZ.out _).mono ?_
  rintro e w4 ⟨rfl, hb⟩
  have A := A.keep hb
  have B := B.keep hb
  have C := C.keep hb
  have hW := below_step hW (by omega) hb
  clear hb a0 a1 a2 a3 a4 a5 a6 a7 za b0 b1 b2 b3 b4 b5 b6 b7 zb c0 c1 c2 c3 c4 c5 c6 c7 zc
  obtain ⟨a0, a1, a2, a3, a4, a5, a6, a7, za⟩ := A.f4
  obtain ⟨b0, b1, b2, b3, b4, b5, b6, b7, zb⟩ := B.f4
  obtain ⟨c0, c1, c2, c3, c4, c5, c6, c7, zc⟩ := C.f4
  go_wp2_with fail
  refine (HU.out _).mono ?_
  rintro e w5 ⟨rfl, hb⟩
  have A := A.keep hb
  have B := B.keep hb
  have C := C.keep hb
  have hW := below_step hW (by omega) hb
  clear hb a0 a1 a2 a3 a4 a5 a6 a7 za b0 b1 b2 b3 b4 b5 b6 b7 zb c0 c1 c2 c3 c4 c5 c6 c7 zc
  obtain ⟨a0, a1, a2, a3, a4, a5, a6, a7, za⟩ := A.f4
  obtain ⟨b0, b1, b2, b3, b4, b5, b6, b7, zb⟩ := B.f4
  obtain ⟨c0, c1, c2, c3, c4, c5, c6, c7, zc⟩ := C.f4
  go_wp2_with fail
  refine (HA.out _).mono ?_
  rintro e w6 ⟨rfl, hb⟩
  have A := A.keep hb
  have B := B.keep hb
  have hW := below_step hW (by omega) hb
  clear hb a0 a1 a2 a3 a4 a5 a6 a7 za b0 b1 b2 b3 b4 b5 b6 b7 zb c0 c1 c2 c3 c4 c5 c6 c7 zc C HX HY HZ HU HA he
  have hW : Below w.heap.size w (w6.alloc (.cells (A4 (wd0 s) (wd1 s) (wd2 s) (wd3 s)) 26)) := hW.alloc (by have := A.lt; omega) _
  have S := Bk.new w6 26 (A4 (wd0 s) (wd1 s) (wd2 s) (wd3 s))
  obtain ⟨a0, a1, a2, a3, a4, a5, a6, a7, za⟩ := A.f4
  obtain ⟨b0, b1, b2, b3, b4, b5, b6, b7, zb⟩ := B.f4
  have A := A.alloc (.cells (A4 (wd0 s) (wd1 s) (wd2 s) (wd3 s)) 26)
  have B := B.alloc (.cells (A4 (wd0 s) (wd1 s) (wd2 s) (wd3 s)) 26)
  obtain ⟨ho1, ho2⟩ := HO.out
  cases o
  all_goals
    go_wp2_with fail
    refine (HG1.out _).mono ?_
    rintro e w7 ⟨rfl, hb⟩
    have A := A.keep hb
    have B := B.keep hb
    have S := S.keep hb
    have hW := below_step hW (by simp; omega) hb
    clear hb a0 a1 a2 a3 a4 a5 a6 a7 za b0 b1 b2 b3 b4 b5 b6 b7 zb
    obtain ⟨a0, a1, a2, a3, a4, a5, a6, a7, za⟩ := A.f4
    obtain ⟨b0, b1, b2, b3, b4, b5, b6, b7, zb⟩ := B.f4
    obtain ⟨s0, s1, s2, s3, s4, s5, s6, s7, zs⟩ := S.f4
    simp only [forall_const, reduceCtorEq, false_implies] at ho1 ho2
    try obtain ⟨g1a, g2a⟩ := ho1
    try obtain ⟨g1a, g2a⟩ := ho2
    go_wp2_with fail
    refine (HG2.out _).mono ?_
    rintro e w8 ⟨rfl, hb⟩
    have hW := below_step hW (by omega) hb
    go_wp2_with fail
    go_ret
    exact ⟨rfl, hW⟩

set_option maxRecDepth 100000 in
set_option maxHeartbeats 8000000 in
theorem walk_eq_gt (a b c s : Nat) (z u g1 g2 : Int) (o : Bool) (w : World)
    (HX : Hid (∀ W : World, Calls Try.prog 8 #[nv a, nv b] W fun e w' => e = .returned (.int .i64 0) ∧ Below W.heap.size W w'))
    (HY : Hid (∀ W : World, Calls Try.prog 8 #[nv b, nv a] W fun e w' => e = .returned (.int .i64 0) ∧ Below W.heap.size W w'))
    (HZ : Hid (∀ W : World, Calls Try.prog 8 #[nv b, nv c] W fun e w' => e = .returned (.int .i64 z) ∧ Below W.heap.size W w'))
    (HU : Hid (∀ W : World, Calls Try.prog 8 #[nv a, nv c] W fun e w' => e = .returned (.int .i64 u) ∧ Below W.heap.size W w'))
    (HA : Hid (∀ W : World, Calls Try.prog 7 #[.slice (some ⟨W.heap.size, 0, none⟩) 2 2] (W.alloc (.cells #[.int .u64 (wd0 a : Int), .int .u64 (wd1 a : Int), .int .u64 (wd2 a : Int), .int .u64 (wd3 a : Int), .int .u64 (wd0 b : Int), .int .u64 (wd1 b : Int), .int .u64 (wd2 b : Int), .int .u64 (wd3 b : Int)] 26)) fun e w' => e = .returned (.tuple #[nv s, .bool o]) ∧ Below W.heap.size W w'))
    (HG1 : Hid (∀ W : World, Calls Try.prog 8 #[nv s, nv a] W fun e w' => e = .returned (.int .i64 g1) ∧ Below W.heap.size W w'))
    (HG2 : Hid (∀ W : World, Calls Try.prog 8 #[nv s, nv b] W fun e w' => e = .returned (.int .i64 g2) ∧ Below W.heap.size W w'))
    (HO : Hid ((o = false → 0 ≤ g1 ∧ 0 ≤ g2) ∧ (o = true → g1 < 0 ∧ g2 < 0)))
    (he : ∀ w : World, (Op.equalIn 10000 26 (nv a) (nv b)).run Try.prog w = .ok true w) (h2 : 0 < z) :
    Calls Try.prog 4 #[nv a, nv b, nv c] w fun e w' => e = .returned (.bool true) ∧ Below w.heap.size w w' := by
  go_enter Try.func4, Try.ntmps4
  go_wp2_with fail
  refine (counts_any _).mono ?_
  rintro e w1 ⟨rfl, hb1⟩
  have A : Bk w1 w.heap.size 26 (A4 (wd0 a) (wd1 a) (wd2 a) (wd3 a)) := Bk.keep (((Bk.new _ _ _).alloc _).alloc _) hb1
  have B : Bk w1 (w.heap.size + 1) 26 (A4 (wd0 b) (wd1 b) (wd2 b) (wd3 b)) := Bk.keep ((Bk.new' _ _ _ (by simp)).alloc _) hb1
  have C : Bk w1 (w.heap.size + 2) 26 (A4 (wd0 c) (wd1 c) (wd2 c) (wd3 c)) := Bk.keep (Bk.new' _ _ _ (by simp)) hb1
  have hW : Below w.heap.size w w1 := below_step ((((Below.refl _ _).alloc (Nat.le_refl _) _).alloc (by simp) _).alloc (by simp; omega) _) (by simp; omega) hb1
  clear hb1
  obtain ⟨a0, a1, a2, a3, a4, a5, a6, a7, za⟩ := A.f4
  obtain ⟨b0, b1, b2, b3, b4, b5, b6, b7, zb⟩ := B.f4
  have r0 := cell_regrown a0
  have r1 := cell_regrown a1
  have r2 := cell_regrown a2
  have r3 := cell_regrown a3
  have r4 := cell_regrown b0
  have r5 := cell_regrown b1
  have r6 := cell_regrown b2
  have r7 := cell_regrown b3
  go_wp2_with fail
  refine wp_region_quiet_below (by kernel_rfl) (by kernel_rfl) ?_
  quiet_step (fail)
  quiet_step (fail)
  quiet_step (exact Calls.regrown_of (HX.out _))
  quiet_step (fail)
  quiet_step (fail)
  quiet_step (exact Calls.regrown_of (HY.out _))
  quiet_step (fail)
  quiet_step (fail)
  refine wpQuiet_nil ?_
  intro _ hw'
  obtain ⟨⟨dq, osq⟩, hw''⟩ := hw'
  subst hw''
  have hG := below_regrown w1 dq osq
  have A := A.keep hG
  have B := B.keep hG
  have C := C.keep hG
  have hW := below_step hW (by omega) hG
  show Exit.then _ _ Exit.normal _ (Go.Sort.grow (redrawn w1 dq) osq)
  clear a0 a1 a2 a3 a4 a5 a6 a7 za b0 b1 b2 b3 b4 b5 b6 b7 zb r0 r1 r2 r3 r4 r5 r6 r7 hG
  generalize Go.Sort.grow (redrawn w1 dq) osq = w2 at *
  obtain ⟨a0, a1, a2, a3, a4, a5, a6, a7, za⟩ := A.f4
  obtain ⟨b0, b1, b2, b3, b4, b5, b6, b7, zb⟩ := B.f4
  obtain ⟨c0, c1, c2, c3, c4, c5, c6, c7, zc⟩ := C.f4
  go_wp2_with fail
  refine (HX.out _).mono ?_
  rintro e w3 ⟨rfl, hb⟩
  have A := A.keep hb
  have B := B.keep hb
  have C := C.keep hb
  have hW := below_step hW (by omega) hb
  clear hb a0 a1 a2 a3 a4 a5 a6 a7 za b0 b1 b2 b3 b4 b5 b6 b7 zb c0 c1 c2 c3 c4 c5 c6 c7 zc
  obtain ⟨a0, a1, a2, a3, a4, a5, a6, a7, za⟩ := A.f4
  obtain ⟨b0, b1, b2, b3, b4, b5, b6, b7, zb⟩ := B.f4
  obtain ⟨c0, c1, c2, c3, c4, c5, c6, c7, zc⟩ := C.f4
  go_wp2_with fail
  refine (HZ.out _).mono ?_
  rintro e w4 ⟨rfl, hb⟩
  have A := A.keep hb
  have B := B.keep hb
  have C := C.keep hb
  have hW := below_step hW (by omega) hb
  clear hb a0 a1 a2 a3 a4 a5 a6 a7 za b0 b1 b2 b3 b4 b5 b6 b7 zb c0 c1 c2 c3 c4 c5 c6 c7 zc
  obtain ⟨a0, a1, a2, a3, a4, a5, a6, a7, za⟩ := A.f4
  obtain ⟨b0, b1, b2, b3, b4, b5, b6, b7, zb⟩ := B.f4
  obtain ⟨c0, c1, c2, c3, c4, c5, c6, c7, zc⟩ := C.f4
  go_wp2_with fail
  refine (HA.out _).mono ?_
  rintro e w6 ⟨rfl, hb⟩
  have A := A.keep hb
  have B := B.keep hb
  have hW := below_step hW (by omega) hb
  clear hb a0 a1 a2 a3 a4 a5 a6 a7 za b0 b1 b2 b3 b4 b5 b6 b7 zb c0 c1 c2 c3 c4 c5 c6 c7 zc C HX HY HZ HU HA he
  have hW : Below w.heap.size w (w6.alloc (.cells (A4 (wd0 s) (wd1 s) (wd2 s) (wd3 s)) 26)) := hW.alloc (by have := A.lt; omega) _
  have S := Bk.new w6 26 (A4 (wd0 s) (wd1 s) (wd2 s) (wd3 s))
  obtain ⟨a0, a1, a2, a3, a4, a5, a6, a7, za⟩ := A.f4
  obtain ⟨b0, b1, b2, b3, b4, b5, b6, b7, zb⟩ := B.f4
  have A := A.alloc (.cells (A4 (wd0 s) (wd1 s) (wd2 s) (wd3 s)) 26)
  have B := B.alloc (.cells (A4 (wd0 s) (wd1 s) (wd2 s) (wd3 s)) 26)
  obtain ⟨ho1, ho2⟩ := HO.out
  cases o
  all_goals
    go_wp2_with fail
    refine (HG1.out _).mono ?_
    rintro e w7 ⟨rfl, hb⟩
    have A := A.keep hb
    have B := B.keep hb
    have S := S.keep hb
    have hW := below_step hW (by simp; omega) hb
    clear hb a0 a1 a2 a3 a4 a5 a6 a7 za b0 b1 b2 b3 b4 b5 b6 b7 zb
    obtain ⟨a0, a1, a2, a3, a4, a5, a6, a7, za⟩ := A.f4
    obtain ⟨b0, b1, b2, b3, b4, b5, b6, b7, zb⟩ := B.f4
    obtain ⟨s0, s1, s2, s3, s4, s5, s6, s7, zs⟩ := S.f4
    simp only [forall_const, reduceCtorEq, false_implies] at ho1 ho2
    try obtain ⟨g1a, g2a⟩ := ho1
    try obtain ⟨g1a, g2a⟩ := ho2
    go_wp2_with fail
    refine (HG2.out _).mono ?_
    rintro e w8 ⟨rfl, hb⟩
    have hW := below_step hW (by omega) hb
    go_wp2_with fail
    go_ret
    exact ⟨rfl, hW⟩

set_option maxRecDepth 100000 in
set_option maxHeartbeats 8000000 in
theorem walk_gt (a b c s : Nat) (z u g1 g2 : Int) (o : Bool) (w : World)
    (HX : Hid (∀ W : World, Calls Try.prog 8 #[nv a, nv b] W fun e w' => e = .returned (.int .i64 1) ∧ Below W.heap.size W w'))
    (HY : Hid (∀ W : World, Calls Try.prog 8 #[nv b, nv a] W fun e w' => e = .returned (.int .i64 (-1)) ∧ Below W.heap.size W w'))
    (HZ : Hid (∀ W : World, Calls Try.prog 8 #[nv b, nv c] W fun e w' => e = .returned (.int .i64 z) ∧ Below W.heap.size W w'))
    (HU : Hid (∀ W : World, Calls Try.prog 8 #[nv a, nv c] W fun e w' => e = .returned (.int .i64 u) ∧ Below W.heap.size W w'))
    (HA : Hid (∀ W : World, Calls Try.prog 7 #[.slice (some ⟨W.heap.size, 0, none⟩) 2 2] (W.alloc (.cells #[.int .u64 (wd0 a : Int), .int .u64 (wd1 a : Int), .int .u64 (wd2 a : Int), .int .u64 (wd3 a : Int), .int .u64 (wd0 b : Int), .int .u64 (wd1 b : Int), .int .u64 (wd2 b : Int), .int .u64 (wd3 b : Int)] 26)) fun e w' => e = .returned (.tuple #[nv s, .bool o]) ∧ Below W.heap.size W w'))
    (HG1 : Hid (∀ W : World, Calls Try.prog 8 #[nv s, nv a] W fun e w' => e = .returned (.int .i64 g1) ∧ Below W.heap.size W w'))
    (HG2 : Hid (∀ W : World, Calls Try.prog 8 #[nv s, nv b] W fun e w' => e = .returned (.int .i64 g2) ∧ Below W.heap.size W w'))
    (HO : Hid ((o = false → 0 ≤ g1 ∧ 0 ≤ g2) ∧ (o = true → g1 < 0 ∧ g2 < 0)))
    (he : ∀ w : World, (Op.equalIn 10000 26 (nv a) (nv b)).run Try.prog w = .ok false w)  :
    Calls Try.prog 4 #[nv a, nv b, nv c] w fun e w' => e = .returned (.bool true) ∧ Below w.heap.size w w' := by
  go_enter Try.func4, Try.ntmps4
  go_wp2_with fail
  refine (counts_any _).mono ?_
  rintro e w1 ⟨rfl, hb1⟩
  have A : Bk w1 w.heap.size 26 (A4 (wd0 a) (wd1 a) (wd2 a) (wd3 a)) := Bk.keep (((Bk.new _ _ _).alloc _).alloc _) hb1
  have B : Bk w1 (w.heap.size + 1) 26 (A4 (wd0 b) (wd1 b) (wd2 b) (wd3 b)) := Bk.keep ((Bk.new' _ _ _ (by simp)).alloc _) hb1
  have C : Bk w1 (w.heap.size + 2) 26 (A4 (wd0 c) (wd1 c) (wd2 c) (wd3 c)) := Bk.keep (Bk.new' _ _ _ (by simp)) hb1
  have hW : Below w.heap.size w w1 := below_step ((((Below.refl _ _).alloc (Nat.le_refl _) _).alloc (by simp) _).alloc (by simp; omega) _) (by simp; omega) hb1
  clear hb1
  obtain ⟨a0, a1, a2, a3, a4, a5, a6, a7, za⟩ := A.f4
  obtain ⟨b0, b1, b2, b3, b4, b5, b6, b7, zb⟩ := B.f4
  have r0 := cell_regrown a0
  have r1 := cell_regrown a1
  have r2 := cell_regrown a2
  have r3 := cell_regrown a3
  have r4 := cell_regrown b0
  have r5 := cell_regrown b1
  have r6 := cell_regrown b2
  have r7 := cell_regrown b3
  go_wp2_with fail
  refine wp_region_quiet_below (by kernel_rfl) (by kernel_rfl) ?_
  quiet_step (fail)
  quiet_step (fail)
  quiet_step (exact Calls.regrown_of (HX.out _))
  quiet_step (fail)
  quiet_step (fail)
  quiet_step (exact Calls.regrown_of (HY.out _))
  quiet_step (fail)
  quiet_step (fail)
  refine wpQuiet_nil ?_
  intro _ hw'
  obtain ⟨⟨dq, osq⟩, hw''⟩ := hw'
  subst hw''
  have hG := below_regrown w1 dq osq
  have A := A.keep hG
  have B := B.keep hG
  have C := C.keep hG
  have hW := below_step hW (by omega) hG
  show Exit.then _ _ Exit.normal _ (Go.Sort.grow (redrawn w1 dq) osq)
  clear a0 a1 a2 a3 a4 a5 a6 a7 za b0 b1 b2 b3 b4 b5 b6 b7 zb r0 r1 r2 r3 r4 r5 r6 r7 hG
  generalize Go.Sort.grow (redrawn w1 dq) osq = w2 at *
  obtain ⟨a0, a1, a2, a3, a4, a5, a6, a7, za⟩ := A.f4
  obtain ⟨b0, b1, b2, b3, b4, b5, b6, b7, zb⟩ := B.f4
  obtain ⟨c0, c1, c2, c3, c4, c5, c6, c7, zc⟩ := C.f4
  go_wp2_with fail
  refine (HX.out _).mono ?_
  rintro e w3 ⟨rfl, hb⟩
  have A := A.keep hb
  have B := B.keep hb
  have C := C.keep hb
  have hW := below_step hW (by omega) hb
  clear hb a0 a1 a2 a3 a4 a5 a6 a7 za b0 b1 b2 b3 b4 b5 b6 b7 zb c0 c1 c2 c3 c4 c5 c6 c7 zc
  obtain ⟨a0, a1, a2, a3, a4, a5, a6, a7, za⟩ := A.f4
  obtain ⟨b0, b1, b2, b3, b4, b5, b6, b7, zb⟩ := B.f4
  obtain ⟨c0, c1, c2, c3, c4, c5, c6, c7, zc⟩ := C.f4
  go_wp2_with fail
  refine (HA.out _).mono ?_
  rintro e w6 ⟨rfl, hb⟩
  have A := A.keep hb
  have B := B.keep hb
  have hW := below_step hW (by omega) hb
  clear hb a0 a1 a2 a3 a4 a5 a6 a7 za b0 b1 b2 b3 b4 b5 b6 b7 zb c0 c1 c2 c3 c4 c5 c6 c7 zc C HX HY HZ HU HA he
  have hW : Below w.heap.size w (w6.alloc (.cells (A4 (wd0 s) (wd1 s) (wd2 s) (wd3 s)) 26)) := hW.alloc (by have := A.lt; omega) _
  have S := Bk.new w6 26 (A4 (wd0 s) (wd1 s) (wd2 s) (wd3 s))
  obtain ⟨a0, a1, a2, a3, a4, a5, a6, a7, za⟩ := A.f4
  obtain ⟨b0, b1, b2, b3, b4, b5, b6, b7, zb⟩ := B.f4
  have A := A.alloc (.cells (A4 (wd0 s) (wd1 s) (wd2 s) (wd3 s)) 26)
  have B := B.alloc (.cells (A4 (wd0 s) (wd1 s) (wd2 s) (wd3 s)) 26)
  obtain ⟨ho1, ho2⟩ := HO.out
  cases o
  all_goals
    go_wp2_with fail
    refine (HG1.out _).mono ?_
    rintro e w7 ⟨rfl, hb⟩
    have A := A.keep hb
    have B := B.keep hb
    have S := S.keep hb
    have hW := below_step hW (by simp; omega) hb
    clear hb a0 a1 a2 a3 a4 a5 a6 a7 za b0 b1 b2 b3 b4 b5 b6 b7 zb
    obtain ⟨a0, a1, a2, a3, a4, a5, a6, a7, za⟩ := A.f4
    obtain ⟨b0, b1, b2, b3, b4, b5, b6, b7, zb⟩ := B.f4
    obtain ⟨s0, s1, s2, s3, s4, s5, s6, s7, zs⟩ := S.f4
    simp only [forall_const, reduceCtorEq, false_implies] at ho1 ho2
    try obtain ⟨g1a, g2a⟩ := ho1
    try obtain ⟨g1a, g2a⟩ := ho2
    go_wp2_with fail
    refine (HG2.out _).mono ?_
    rintro e w8 ⟨rfl, hb⟩
    have hW := below_step hW (by omega) hb
    go_wp2_with fail
    go_ret
    exact ⟨rfl, hW⟩

theorem cmp_lt {a b : Nat} (h : a < b) : cmpI a b = -1 := by unfold cmpI; rw [if_pos h]
theorem cmp_eq {a b : Nat} (h : a = b) : cmpI a b = 0 := by unfold cmpI; rw [if_neg (by omega), if_pos h]
theorem cmp_gt {a b : Nat} (h : b < a) : cmpI a b = 1 := by unfold cmpI; rw [if_neg (by omega), if_neg (by omega)]
theorem cmp_le_of {a b : Nat} (h : a ≤ b) : cmpI a b ≤ 0 := by unfold cmpI; split <;> (try split) <;> omega
theorem cmp_ge_of {a b : Nat} (h : b ≤ a) : 0 ≤ cmpI a b := by unfold cmpI; split <;> (try split) <;> omega

theorem sum_cmp (a b : Nat) (ha : a < M256) (hb : b < M256) :
    (decide (M256 ≤ a + b) = false → 0 ≤ cmpI ((a + b) % M256) a ∧ 0 ≤ cmpI ((a + b) % M256) b) ∧ (decide (M256 ≤ a + b) = true → cmpI ((a + b) % M256) a < 0 ∧ cmpI ((a + b) % M256) b < 0) := by
  constructor
  · intro h
    have h := of_decide_eq_false h
    rw [Nat.mod_eq_of_lt (by omega)]
    exact ⟨cmp_ge_of (by omega), cmp_ge_of (by omega)⟩
  · intro h
    have h := of_decide_eq_true h
    have e : (a + b) % M256 = a + b - M256 := by rw [Nat.mod_eq_sub_mod h, Nat.mod_eq_of_lt (by omega)]
    rw [e, cmp_lt (by omega), cmp_lt (by omega)]
    decide

theorem walk (a b c : Nat) (w : World) (ha : a < M256) (hb : b < M256) (hc : c < M256) :
    Calls Try.prog 4 #[nv a, nv b, nv c] w fun e w' => e = .returned (.bool true) ∧ Below w.heap.size w w' := by
  have hs : (a + b) % M256 < M256 := Nat.mod_lt _ M256_pos
  have HX := fun W => cmp_any a b W ha hb
  have HY := fun W => cmp_any b a W hb ha
  have HZ := fun W => cmp_any b c W hb hc
  have HU := fun W => cmp_any a c W ha hc
  have HA := fun W => add2 a b W ha hb
  have HG1 := fun W => cmp_any _ a W hs ha
  have HG2 := fun W => cmp_any _ b W hs hb
  have HO := sum_cmp a b ha hb
  have he := nv_eql a b ha hb
  rcases Nat.lt_trichotomy a b with h | h | h
  · rw [cmp_lt h] at HX
    rw [cmp_gt h] at HY
    rw [decide_eq_false (by omega)] at he
    by_cases hz : b ≤ c
    · exact walk_lt_le a b c _ _ _ _ _ _ w HX HY HZ HU HA HG1 HG2 HO he (cmp_le_of hz) (cmp_le_of (by omega))
    · exact walk_lt_gt a b c _ _ _ _ _ _ w HX HY HZ HU HA HG1 HG2 HO he (by rw [cmp_gt (by omega)]; decide)
  · rw [cmp_eq h] at HX
    rw [cmp_eq h.symm] at HY
    rw [decide_eq_true h] at he
    by_cases hz : b ≤ c
    · exact walk_eq_le a b c _ _ _ _ _ _ w HX HY HZ HU HA HG1 HG2 HO he (cmp_le_of hz) (cmp_le_of (by omega))
    · exact walk_eq_gt a b c _ _ _ _ _ _ w HX HY HZ HU HA HG1 HG2 HO he (by rw [cmp_gt (by omega)]; decide)
  · rw [cmp_gt h] at HX
    rw [cmp_lt h] at HY
    rw [decide_eq_false (by omega)] at he
    exact walk_gt a b c _ _ _ _ _ _ w HX HY HZ HU HA HG1 HG2 HO he

set_option maxRecDepth 100000 in
theorem lifted (os : Os) (started : os.Started) (H : Type) (enc : TypeId × Value → H) :
    ReturnsInHanded {} Try.checked os 4 .any (Rows.numOrderSpec.pre6 enc Try.prog Try.f4 Rows.numOrderRow.domain false) (Rows.numOrderSpec.post enc Try.prog Try.f4 false true false false) := by
  refine returnsInHanded_of_change (C := Try.checked) own started (by kernel_rfl) Try.func4
    (ChangeSpec.witness6 (enc := enc) (C := Try.checked) false ⟨#[], #[I4 0 0 0 0, I4 0 0 0 0, I4 0 0 0 0], []⟩ 8 (by kernel_rfl) (by kernel_rfl) (by kernel_rfl) (by kernel_rfl)) ?_
  intro W base args ds gs before hval0 hW hcnd _
  have hval : ∀ (j : Nat) t v, Try.f4.params[j]? = some t → args[j]? = some v → Value.okWide Try.prog W .any base t v := hval0
  have hW' := hW
  obtain ⟨p, q, hA0, hV, rfl, hfz, hnd⟩ := hW
  have hA : DataW.TrodAll enc Try.prog W 0 (fun _ => true) true Try.f4.params.toList args.toList ds p := hA0
  rw [Try.params4] at hA hval
  obtain ⟨v0, vs0, d0, ds0, p0, q0, hargs, rfl, rfl, h0, r0⟩ := trodAll_cons hA
  obtain ⟨v1, vs1, d1, ds1, p1, q1, rfl, rfl, rfl, h1, r1⟩ := trodAll_cons r0
  obtain ⟨v2, vs2, d2, ds2, p2, q2, rfl, rfl, rfl, h2, r2⟩ := trodAll_cons r1
  obtain ⟨rfl, rfl, rfl⟩ := trodAll_nil r2
  obtain rfl : args = #[v0, v1, v2] := by cases args; simp_all
  obtain ⟨rfl, rfl⟩ := trodVars_none hV
  have lt0 : ∀ x ∈ p0, x.block < W.heap.size := by obtain ⟨m, hm⟩ := h0; exact DataW.trod_lt m _ _ _ hm
  have lt2 : ∀ x ∈ p2, x.block < W.heap.size := by obtain ⟨m, hm⟩ := h2; exact DataW.trod_lt m _ _ _ hm
  have lt1 : ∀ x ∈ p1, x.block < W.heap.size := by obtain ⟨m, hm⟩ := h1; exact DataW.trod_lt m _ _ _ hm
  obtain ⟨zs0, hl0, rfl, hz0⟩ := open_ints_arr (n := 4) (k := .u64) Try.underlying26 Try.underlying24 (by kernel_rfl) (by kernel_rfl) (hval 0 26 v0 rfl rfl) h0
  obtain ⟨a0, ha0, ea0⟩ := num_of_words hl0 hz0
  obtain ⟨zs1, hl1, rfl, hz1⟩ := open_ints_arr (n := 4) (k := .u64) Try.underlying26 Try.underlying24 (by kernel_rfl) (by kernel_rfl) (hval 1 26 v1 rfl rfl) h1
  obtain ⟨a1, ha1, ea1⟩ := num_of_words hl1 hz1
  obtain ⟨zs2, hl2, rfl, hz2⟩ := open_ints_arr (n := 4) (k := .u64) Try.underlying26 Try.underlying24 (by kernel_rfl) (by kernel_rfl) (hval 2 26 v2 rfl rfl) h2
  obtain ⟨a2, ha2, ea2⟩ := num_of_words hl2 hz2
  clear hA0 hval0
  have hwalk := walk a0 a1 a2 W ha0 ha1 ha2
  rw [← ea0, ← ea1, ← ea2] at hwalk
  refine hwalk.mono fun e W' ⟨he, bel⟩ => ?_
  subst he
  exact ⟨_, rfl, _, _, _, [], _, [], hW', trodAll_mk1 (shut_bool Try.underlying4 _), (trodAll_cons_mk (Below.trod laidOut (by kernel_rfl) (of_decide_eq_true (by kernel_rfl)) h0 bel lt0) (trodAll_cons_mk (Below.trod laidOut (by kernel_rfl) (of_decide_eq_true (by kernel_rfl)) h1 bel lt1) (trodAll_cons_mk (Below.trod laidOut (by kernel_rfl) (of_decide_eq_true (by kernel_rfl)) h2 bel lt2) trodAll_mk0))), rfl, bel.frame _, fun h => by cases h⟩

theorem over : Rows.numOrderRow.holds Try.pinned (OpenSpec.ofChange Rows.numOrderSpec) :=
  OpenClaim.holds_of_wide 4 Try.f4 rfl rfl rfl rfl rfl rfl rfl ⟨rfl, rfl, rfl, rfl, rfl⟩ rfl rfl rfl rfl rfl (by kernel_rfl) Try.func4 (by kernel_rfl)
    (of_decide_eq_true (by kernel_rfl)) (by unfold Func.isWrapper; first | (rw [if_pos (by decide +kernel)]; kernel_rfl) | (rw [if_neg (by decide +kernel)]; exact ⟨rfl, rfl⟩))
    (fun os started H enc _ => lifted os started H enc)

theorem proved : Rows.NumOrderSaid := over
#print axioms proved
end Go.Proofs.Ytecbecngdbjagab.numOrder
