/-
  The law's own head: small numbers are reckoned right.
-/
import Derived.Test.YtkkkfcdoilojmaaNumI
namespace Go.Proofs.Ytkkkfcdoilojmaa
open Go.RowKit
set_option linter.unusedVariables false

theorem nums2 (w : World) (x y : Nat) : Nums (w.alloc (.cells #[.int .u64 (wd0 x : Int), .int .u64 (wd1 x : Int), .int .u64 (wd2 x : Int), .int .u64 (wd3 x : Int), .int .u64 (wd0 y : Int), .int .u64 (wd1 y : Int), .int .u64 (wd2 y : Int), .int .u64 (wd3 y : Int)] 24)) w.heap.size 0 [x, y] := by
  have h := heap_alloc_new w (.cells #[.int .u64 (wd0 x : Int), .int .u64 (wd1 x : Int), .int .u64 (wd2 x : Int), .int .u64 (wd3 x : Int), .int .u64 (wd0 y : Int), .int .u64 (wd1 y : Int), .int .u64 (wd2 y : Int), .int .u64 (wd3 y : Int)] 24)
  have hc := fun j => cell_of_row _ w.heap.size j _ _ _ h
  intro k z hz
  match k with
  | 0 =>
    obtain rfl : x = z := by simpa using hz
    exact ⟨hc 0, hc 1, hc 2, hc 3⟩
  | 1 =>
    obtain rfl : y = z := by simpa using hz
    exact ⟨hc 4, hc 5, hc 6, hc 7⟩
  | k + 2 => simp at hz

theorem add2 (x y : Nat) (w : World) (hx : x < M256) (hy : y < M256) :
    Calls Try.prog 30 #[.slice (some ⟨w.heap.size, 0, none⟩) 2 2] (w.alloc (.cells #[.int .u64 (wd0 x : Int), .int .u64 (wd1 x : Int), .int .u64 (wd2 x : Int), .int .u64 (wd3 x : Int), .int .u64 (wd0 y : Int), .int .u64 (wd1 y : Int), .int .u64 (wd2 y : Int), .int .u64 (wd3 y : Int)] 24)) fun e w' =>
      e = .returned (.tuple #[nv ((x + y) % M256), .bool (decide (M256 ≤ x + y))]) ∧ Below w.heap.size w w' := by
  refine (add_any [x, y] w.heap.size 0 2 _ (by simp) (by intro z hz; simp at hz; rcases hz with rfl | rfl <;> assumption) (nums2 w x y) (.inr (by simp))).mono ?_
  rintro e w' ⟨rfl, hb⟩
  have hs : [x, y].sum = x + y := by simp
  refine ⟨by rw [hs], below_step ((Below.refl _ _).alloc (Nat.le_refl _) _) (by simp) hb⟩

set_option maxRecDepth 100000 in
set_option maxHeartbeats 4000000 in
theorem counts_any (w : World) : Calls Try.prog 7 #[] w fun e w' => e = .returned (.bool true) ∧ Below w.heap.size w w' := by
  have B8 : 100 < B64 := by decide
  have M8 : 100 < M256 := by decide
  have C34 : ∀ W : World, Calls Try.prog 30 #[.slice (some ⟨W.heap.size, 0, none⟩) 2 2] _ fun e w' => e = .returned (.tuple #[nv 7, .bool false]) ∧ Below W.heap.size W w' := fun W => by
    have h := add2 3 4 W (by omega) (by omega)
    have e1 : (3 + 4) % M256 = 7 := Nat.mod_eq_of_lt (by omega)
    have e2 : decide (M256 ≤ 3 + 4) = false := decide_eq_false (by omega)
    rw [e1, e2] at h
    exact h
  have D17 : ∀ W : World, Calls Try.prog 13 #[nv 17, nv 5] W fun e w' => e = .returned (.tuple #[nv 3, nv 2, .int .i64 0]) ∧ Below W.heap.size W w' := fun W => div_any 17 5 W (by omega) (by omega) (by omega)
  have K12 : ∀ W : World, Calls Try.prog 26 #[nv 1, nv 2] W fun e w' => e = .returned (.int .i64 (-1)) ∧ Below W.heap.size W w' := fun W => cmp_any 1 2 W (by omega) (by omega)
  have bl8 : blen 8 = 4 := by kernel_rfl
  have L8 : ∀ W : World, Calls Try.prog 31 #[nv 8] W fun e w' => e = .returned (.int .i64 4) ∧ Below W.heap.size W w' := fun W => by
    have h := len_any 8 W (by omega)
    rw [bl8] at h
    exact h
  have O : ∀ (n : Nat) (W : World), n < 100 → Calls Try.prog 12 #[.int .u64 (n : Int)] W fun e w' => e = .returned (nv n) ∧ Below W.heap.size W w' := fun n W h => of_any n W (by omega)
  have q7 : ∀ w, (Op.equalIn 10000 24 (nv 7) (nv 7)).run Try.prog w = .ok true w := fun w => nv_eql 7 7 (by omega) (by omega) w
  have q3 : ∀ w, (Op.equalIn 10000 24 (nv 3) (nv 3)).run Try.prog w = .ok true w := fun w => nv_eql 3 3 (by omega) (by omega) w
  have q2 : ∀ w, (Op.equalIn 10000 24 (nv 2) (nv 2)).run Try.prog w = .ok true w := fun w => nv_eql 2 2 (by omega) (by omega) w
  have HC := Lib.hid C34
  have HD := Lib.hid D17
  have HK := Lib.hid K12
  have HL := Lib.hid L8
  have HO := Lib.hid O
  clear C34 D17 K12 L8 O bl8
  go_enter Try.func7, Try.ntmps7
  go_wp2_with fail
  refine (HO.out 3 _ (by omega)).mono ?_
  rintro e w1 ⟨rfl, hb1⟩
  go_wp2_with fail
  refine (HO.out 4 _ (by omega)).mono ?_
  rintro e w2 ⟨rfl, hb2⟩
  go_wp2_with fail
  refine (HC.out _).mono ?_
  rintro e w3 ⟨rfl, hb3⟩
  go_wp2_with fail
  refine (HO.out 17 _ (by omega)).mono ?_
  rintro e w4 ⟨rfl, hb4⟩
  go_wp2_with fail
  refine (HO.out 5 _ (by omega)).mono ?_
  rintro e w5 ⟨rfl, hb5⟩
  go_wp2_with fail
  refine (HD.out _).mono ?_
  rintro e w6 ⟨rfl, hb6⟩
  go_wp2_with fail
  have z3 := hb3.size
  have z4 := hb4.size
  have z5 := hb5.size
  have z6 := hb6.size
  have z1 := hb1.size
  have z2 := hb2.size
  simp only [World.size_alloc] at z4
  have N7 : Bk w6 w3.heap.size 24 (A4 (wd0 7) (wd1 7) (wd2 7) (wd3 7)) := (((Bk.new _ _ _).keep hb4).keep hb5).keep hb6
  have hW6 : Below w.heap.size w w6 := below_step (below_step (below_step (Below.alloc (below_step (below_step hb1 (by omega) hb2) (by omega) hb3) (by omega) _) (by simp; omega) hb4) (by omega) hb5) (by omega) hb6
  refine wp_abs (fun W => Below w.heap.size w W ∧ Bk W w3.heap.size 24 (A4 (wd0 7) (wd1 7) (wd2 7) (wd3 7)) ∧ Bk W w6.heap.size 24 (A4 (wd0 3) (wd1 3) (wd2 3) (wd3 3)) ∧ Bk W (w6.heap.size + 1) 24 (A4 (wd0 2) (wd1 2) (wd2 2) (wd3 2)))
    ⟨(hW6.alloc (by omega) _).alloc (by simp; omega) _, (N7.alloc _).alloc _, (Bk.new _ _ _).alloc _, Bk.new' _ _ _ (by simp)⟩ ?_
  have g3 : w.heap.size ≤ w3.heap.size := by omega
  clear N7 hW6 hb1 hb2 hb3 hb4 hb5 hb6 z1 z2 z3 z4 z5 z6
  rintro W ⟨hW, N7, N3, N2⟩
  obtain ⟨a0, a1, a2, a3, _, _, _, _, za⟩ := N7.f4
  obtain ⟨b0, b1, b2, b3, _, _, _, _, zb⟩ := N3.f4
  obtain ⟨c0, c1, c2, c3, _, _, _, _, zc⟩ := N2.f4
  have r0 := cell_regrown a0
  have r1 := cell_regrown a1
  have r2 := cell_regrown a2
  have r3 := cell_regrown a3
  have r4 := cell_regrown b0
  have r5 := cell_regrown b1
  have r6 := cell_regrown b2
  have r7 := cell_regrown b3
  have r8 := cell_regrown c0
  have r9 := cell_regrown c1
  have r10 := cell_regrown c2
  have r11 := cell_regrown c3
  refine wp_region_quiet_below (by kernel_rfl) (by kernel_rfl) ?_
  quiet_step (fail)
  quiet_step (exact Calls.regrown_of (HO.out 7 _ (by omega)))
  quiet_step (fail)
  quiet_step (fail)
  quiet_step (fail)
  quiet_step (fail)
  quiet_step (fail)
  quiet_step (fail)
  quiet_step (fail)
  quiet_step (exact Calls.regrown_of (HO.out 3 _ (by omega)))
  quiet_step (fail)
  quiet_step (fail)
  quiet_step (fail)
  quiet_step (fail)
  quiet_step (exact Calls.regrown_of (HO.out 2 _ (by omega)))
  quiet_step (fail)
  quiet_step (fail)
  quiet_step (fail)
  quiet_step (fail)
  quiet_step (fail)
  quiet_step (fail)
  quiet_step (fail)
  quiet_step (exact Calls.regrown_of (HO.out 1 _ (by omega)))
  quiet_step (exact Calls.regrown_of (HO.out 2 _ (by omega)))
  quiet_step (exact Calls.regrown_of (HK.out _))
  quiet_step (fail)
  quiet_step (fail)
  quiet_step (fail)
  quiet_step (exact Calls.regrown_of (HO.out 8 _ (by omega)))
  quiet_step (exact Calls.regrown_of (HL.out _))
  quiet_step (fail)
  quiet_step (fail)
  quiet_step (fail)
  refine wpQuiet_nil ?_
  intro _ hw'
  obtain ⟨⟨dq, osq⟩, hw''⟩ := hw'
  subst hw''
  have hG := below_step hW (by omega) (below_regrown W dq osq)
  show Exit.then _ _ Exit.normal _ (Go.Sort.grow (redrawn W dq) osq)
  generalize Go.Sort.grow (redrawn W dq) osq = W2 at *
  go_wp2_with fail
  go_ret
  exact ⟨rfl, hG⟩
end Go.Proofs.Ytkkkfcdoilojmaa
