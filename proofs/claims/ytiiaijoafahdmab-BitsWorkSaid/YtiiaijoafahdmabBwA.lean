/-
  The walks of the law BitsWork, the smaller number nought.
-/
import Derived.Test.YtiiaijoafahdmabBitN
import Derived.Test.YtiiaijoafahdmabOpen
import Derived.Lib.QuietBelow
namespace Go.Proofs.Ytiiaijoafahdmab.bitsWork
open Go.ChangeShapes Go.WideShapes Go.ChangeAt Go.RowKit
set_option linter.unusedVariables false

set_option maxRecDepth 100000 in
set_option maxHeartbeats 4000000 in
theorem walk_zero (a b x y : Nat) (z : Int) (w : World)
    (HC : Hid (∀ W : World, Calls Try.prog 15 #[nv a, nv b] W fun e w' => e = .returned (.int .i64 z) ∧ Below W.heap.size W w'))
    (HZ : Hid (∀ W : World, Calls Try.prog 20 #[nv a] W fun e w' => e = .returned (.bool true) ∧ Below W.heap.size W w'))
    (HW1 : Hid (∀ W : World, Calls Try.prog 22 #[nv a] W fun e w' => e = .returned (nv x) ∧ Below W.heap.size W w'))
    (HZ2 : Hid (∀ W : World, Calls Try.prog 20 #[nv x] W fun e w' => e = .returned (.bool true) ∧ Below W.heap.size W w'))
    (hz : decide ((0 : Int) < z) = false) :
    Calls Try.prog 9 #[nv a, nv b] w fun e w' => e = .returned (.bool true) ∧ Below w.heap.size w w' := by
  go_enter Try.func9, Try.ntmps9
  go_wp2_with fail
  refine (means_any _).mono ?_
  rintro e w1 ⟨rfl, hb1⟩
  have A : Bk w1 w.heap.size 26 (A4 (wd0 a) (wd1 a) (wd2 a) (wd3 a)) := Bk.keep ((Bk.new _ _ _).alloc _) hb1
  have B : Bk w1 (w.heap.size + 1) 26 (A4 (wd0 b) (wd1 b) (wd2 b) (wd3 b)) := Bk.keep (Bk.new' _ _ _ (by simp)) hb1
  have hW : Below w.heap.size w w1 := below_step (((Below.refl _ _).alloc (Nat.le_refl _) _).alloc (by simp) _) (by simp; omega) hb1
  clear hb1
  obtain ⟨a0, a1, a2, a3, a4, a5, a6, a7, za⟩ := A.f4
  obtain ⟨b0, b1, b2, b3, b4, b5, b6, b7, zb⟩ := B.f4
  go_wp2_with fail
  refine (HC.out _).mono ?_
  rintro e w2 ⟨rfl, hb⟩
  have A := A.keep hb
  have B := B.keep hb
  have hW := below_step hW hW.size hb
  clear hb a0 a1 a2 a3 a4 a5 a6 a7 za b0 b1 b2 b3 b4 b5 b6 b7 zb
  obtain ⟨a0, a1, a2, a3, a4, a5, a6, a7, za⟩ := A.f4
  obtain ⟨b0, b1, b2, b3, b4, b5, b6, b7, zb⟩ := B.f4
  go_upto_region 5 with fail
  refine wp_abs (fun W => Below w.heap.size w W ∧ Bk W w.heap.size 26 (A4 (wd0 a) (wd1 a) (wd2 a) (wd3 a)) ∧ Bk W (w.heap.size + 1) 26 (A4 (wd0 b) (wd1 b) (wd2 b) (wd3 b)))
    ⟨hW, A, B⟩ ?_
  clear hW A B a0 a1 a2 a3 a4 a5 a6 a7 za b0 b1 b2 b3 b4 b5 b6 b7 zb
  rintro W ⟨hW, A, B⟩
  obtain ⟨a0, a1, a2, a3, a4, a5, a6, a7, za⟩ := A.f4
  go_wp2_with fail
  refine (HZ.out _).mono ?_
  rintro e w3 ⟨rfl, hb⟩
  have A := A.keep hb
  have hW := below_step hW hW.size hb
  clear hb a0 a1 a2 a3 a4 a5 a6 a7 za
  obtain ⟨a0, a1, a2, a3, a4, a5, a6, a7, za⟩ := A.f4
  go_wp2_with fail
  refine (HW1.out _).mono ?_
  rintro e w4 ⟨rfl, hb⟩
  have hW := below_step hW hW.size hb
  clear hb a0 a1 a2 a3 a4 a5 a6 a7 za
  go_wp2_with fail
  refine (HZ2.out _).mono ?_
  rintro e w5 ⟨rfl, hb⟩
  have hW := below_step hW hW.size hb
  go_wp2_with fail
  go_ret
  exact ⟨rfl, hW⟩

set_option maxRecDepth 100000 in
set_option maxHeartbeats 4000000 in
theorem walk_zero_s (a b x y : Nat) (z : Int) (w : World)
    (HC : Hid (∀ W : World, Calls Try.prog 15 #[nv a, nv b] W fun e w' => e = .returned (.int .i64 z) ∧ Below W.heap.size W w'))
    (HZ : Hid (∀ W : World, Calls Try.prog 20 #[nv b] W fun e w' => e = .returned (.bool true) ∧ Below W.heap.size W w'))
    (HW1 : Hid (∀ W : World, Calls Try.prog 22 #[nv b] W fun e w' => e = .returned (nv x) ∧ Below W.heap.size W w'))
    (HZ2 : Hid (∀ W : World, Calls Try.prog 20 #[nv x] W fun e w' => e = .returned (.bool true) ∧ Below W.heap.size W w'))
    (hz : decide ((0 : Int) < z) = true) :
    Calls Try.prog 9 #[nv a, nv b] w fun e w' => e = .returned (.bool true) ∧ Below w.heap.size w w' := by
  go_enter Try.func9, Try.ntmps9
  go_wp2_with fail
  refine (means_any _).mono ?_
  rintro e w1 ⟨rfl, hb1⟩
  have A : Bk w1 w.heap.size 26 (A4 (wd0 a) (wd1 a) (wd2 a) (wd3 a)) := Bk.keep ((Bk.new _ _ _).alloc _) hb1
  have B : Bk w1 (w.heap.size + 1) 26 (A4 (wd0 b) (wd1 b) (wd2 b) (wd3 b)) := Bk.keep (Bk.new' _ _ _ (by simp)) hb1
  have hW : Below w.heap.size w w1 := below_step (((Below.refl _ _).alloc (Nat.le_refl _) _).alloc (by simp) _) (by simp; omega) hb1
  clear hb1
  obtain ⟨a0, a1, a2, a3, a4, a5, a6, a7, za⟩ := A.f4
  obtain ⟨b0, b1, b2, b3, b4, b5, b6, b7, zb⟩ := B.f4
  go_wp2_with fail
  refine (HC.out _).mono ?_
  rintro e w2 ⟨rfl, hb⟩
  have A := A.keep hb
  have B := B.keep hb
  have hW := below_step hW hW.size hb
  clear hb a0 a1 a2 a3 a4 a5 a6 a7 za b0 b1 b2 b3 b4 b5 b6 b7 zb
  obtain ⟨a0, a1, a2, a3, a4, a5, a6, a7, za⟩ := A.f4
  obtain ⟨b0, b1, b2, b3, b4, b5, b6, b7, zb⟩ := B.f4
  go_upto_region 5 with fail
  refine wp_abs (fun W => Below w.heap.size w W ∧ Bk W w.heap.size 26 (A4 (wd0 b) (wd1 b) (wd2 b) (wd3 b)) ∧ Bk W (w.heap.size + 1) 26 (A4 (wd0 a) (wd1 a) (wd2 a) (wd3 a)))
    ⟨Below.set4 (Below.set4 hW (Nat.le_refl _) _ _ _ _) (by omega) _ _ _ _, (A.set4 _ _ _ _).far4 (by omega) _ _ _ _, (B.far4 (by omega) _ _ _ _).set4 _ _ _ _⟩ ?_
  clear hW A B a0 a1 a2 a3 a4 a5 a6 a7 za b0 b1 b2 b3 b4 b5 b6 b7 zb
  rintro W ⟨hW, A, B⟩
  obtain ⟨a0, a1, a2, a3, a4, a5, a6, a7, za⟩ := A.f4
  go_wp2_with fail
  refine (HZ.out _).mono ?_
  rintro e w3 ⟨rfl, hb⟩
  have A := A.keep hb
  have hW := below_step hW hW.size hb
  clear hb a0 a1 a2 a3 a4 a5 a6 a7 za
  obtain ⟨a0, a1, a2, a3, a4, a5, a6, a7, za⟩ := A.f4
  go_wp2_with fail
  refine (HW1.out _).mono ?_
  rintro e w4 ⟨rfl, hb⟩
  have hW := below_step hW hW.size hb
  clear hb a0 a1 a2 a3 a4 a5 a6 a7 za
  go_wp2_with fail
  refine (HZ2.out _).mono ?_
  rintro e w5 ⟨rfl, hb⟩
  have hW := below_step hW hW.size hb
  go_wp2_with fail
  go_ret
  exact ⟨rfl, hW⟩
end Go.Proofs.Ytiiaijoafahdmab.bitsWork
