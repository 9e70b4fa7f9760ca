/-
  Contracts of package bits: Next.
-/
import Derived.Test.YtkkkfcdoilojmaaBitQ
namespace Go.Proofs.Ytkkkfcdoilojmaa
open Go.RowKit
set_option linter.unusedVariables false

set_option maxRecDepth 100000 in
set_option maxHeartbeats 1000000 in
theorem next_over (b s c t r n : Nat) (tk : Int) (l : Nat) (w : World) (h1 : 1 ≤ s) (h2 : s ≤ 1099511627776) (h0 : -9223372036854775808 ≤ tk) (h3 : tk ≤ 9223372036854775807)
    (hc : min (max tk ((s : Int) / 4)) (4 * (s : Int)) = (c : Int))
    (HT : Hid (∀ W : World, Calls Try.prog 17 #[.int .u32 (b : Int)] W fun e w' => e = .returned (.tuple #[nv t, .bool true]) ∧ Below W.heap.size W w'))
    (HS : Hid (∀ W : World, Calls Try.prog 45 #[nv t, .int .u64 (c : Int), .int .u64 (s : Int)] W fun e w' => e = .returned (.tuple #[nv n, .bool true]) ∧ Below W.heap.size W w'))
    (HF : Hid (∀ W : World, Calls Try.prog 22 #[nv l] W fun e w' => e = .returned (.int .u32 (r : Int)) ∧ Below W.heap.size W w')) :
    Calls Try.prog 28 #[.int .u32 (b : Int), .int .i64 tk, .int .i64 (s : Int), nv l] w fun e w' => e = .returned (.tuple #[.int .u32 (r : Int), .bool true]) ∧ Below w.heap.size w w' := by
  have hd1 : decide ((s : Int) < 1) = false := decide_eq_false (by omega)
  have hd2 : decide ((1099511627776 : Int) < (s : Int)) = false := decide_eq_false (by omega)
  go_enter Try.func28, Try.ntmps28
  go_wp2_with fail
  refine (HT.out _).mono ?_
  rintro e w1 ⟨rfl, hb1⟩
  have L : Bk (w1.alloc (.cells (A4 (wd0 t) (wd1 t) (wd2 t) (wd3 t)) 24)) w.heap.size 24 (A4 (wd0 l) (wd1 l) (wd2 l) (wd3 l)) := (Bk.keep (Bk.new _ _ _) hb1).alloc _
  have hW1 : Below w.heap.size w w1 := below_step ((Below.refl _ _).alloc (Nat.le_refl _) _) (by simp) hb1
  have hW := hW1.alloc hW1.size (.cells (A4 (wd0 t) (wd1 t) (wd2 t) (wd3 t)) 24)
  go_wp2_with fail
  refine (HS.out _).mono ?_
  rintro e w2 ⟨rfl, hb2⟩
  have L := L.keep hb2
  have hW := below_step hW (by have := hW1.size; simp; omega) hb2
  clear hb1 hb2 hW1 hd1 hd2
  go_upto_region 6 with fail
  have hl := L.lt
  refine wp_abs (fun W => Below w.heap.size w W ∧ Bk W w.heap.size 24 (A4 (wd0 l) (wd1 l) (wd2 l) (wd3 l)) ∧ Bk W w2.heap.size 24 (A4 (wd0 n) (wd1 n) (wd2 n) (wd3 n))) ⟨hW.alloc hW.size _, L.alloc _, Bk.new _ _ _⟩ ?_
  clear hW L
  generalize w2.heap.size = g at *
  rintro W ⟨hW, L, N⟩
  obtain ⟨a0, a1, a2, a3, a4, a5, a6, a7, za⟩ := L.f4
  obtain ⟨n0, n1, n2, n3, n4, n5, n6, n7, zn⟩ := N.f4
  go_upto_region 8 with fail
  refine wp_abs (fun W => Below w.heap.size w W ∧ Bk W g 24 (A4 (wd0 l) (wd1 l) (wd2 l) (wd3 l))) ⟨Below.set4 hW (by omega) _ _ _ _, N.set4 _ _ _ _⟩ ?_
  clear hW L N a0 a1 a2 a3 a4 a5 a6 a7 za n0 n1 n2 n3 n4 n5 n6 n7 zn
  rintro V ⟨hW, N⟩
  obtain ⟨n0, n1, n2, n3, n4, n5, n6, n7, zn⟩ := N.f4
  go_wp2_with fail
  refine (HF.out _).mono ?_
  rintro e w4 ⟨rfl, hb⟩
  have hW := below_step hW hW.size hb
  go_wp2_with fail
  exact bodyPost_ret (results_tmp2 rfl _ _ _) rfl ⟨rfl, hW⟩
set_option maxRecDepth 100000 in
set_option maxHeartbeats 1000000 in
theorem next_gt (b s c t r n : Nat) (tk : Int) (z : Int) (l : Nat) (w : World) (h1 : 1 ≤ s) (h2 : s ≤ 1099511627776) (h0 : -9223372036854775808 ≤ tk) (h3 : tk ≤ 9223372036854775807)
    (hc : min (max tk ((s : Int) / 4)) (4 * (s : Int)) = (c : Int))
    (HT : Hid (∀ W : World, Calls Try.prog 17 #[.int .u32 (b : Int)] W fun e w' => e = .returned (.tuple #[nv t, .bool true]) ∧ Below W.heap.size W w'))
    (HS : Hid (∀ W : World, Calls Try.prog 45 #[nv t, .int .u64 (c : Int), .int .u64 (s : Int)] W fun e w' => e = .returned (.tuple #[nv n, .bool false]) ∧ Below W.heap.size W w'))
    (HC : Hid (∀ W : World, Calls Try.prog 26 #[nv n, nv l] W fun e w' => e = .returned (.int .i64 z) ∧ Below W.heap.size W w'))
    (HF : Hid (∀ W : World, Calls Try.prog 22 #[nv l] W fun e w' => e = .returned (.int .u32 (r : Int)) ∧ Below W.heap.size W w'))
    (hz : decide ((0 : Int) < z) = true) :
    Calls Try.prog 28 #[.int .u32 (b : Int), .int .i64 tk, .int .i64 (s : Int), nv l] w fun e w' => e = .returned (.tuple #[.int .u32 (r : Int), .bool true]) ∧ Below w.heap.size w w' := by
  have hd1 : decide ((s : Int) < 1) = false := decide_eq_false (by omega)
  have hd2 : decide ((1099511627776 : Int) < (s : Int)) = false := decide_eq_false (by omega)
  go_enter Try.func28, Try.ntmps28
  go_wp2_with fail
  refine (HT.out _).mono ?_
  rintro e w1 ⟨rfl, hb1⟩
  have L : Bk (w1.alloc (.cells (A4 (wd0 t) (wd1 t) (wd2 t) (wd3 t)) 24)) w.heap.size 24 (A4 (wd0 l) (wd1 l) (wd2 l) (wd3 l)) := (Bk.keep (Bk.new _ _ _) hb1).alloc _
  have hW1 : Below w.heap.size w w1 := below_step ((Below.refl _ _).alloc (Nat.le_refl _) _) (by simp) hb1
  have hW := hW1.alloc hW1.size (.cells (A4 (wd0 t) (wd1 t) (wd2 t) (wd3 t)) 24)
  go_wp2_with fail
  refine (HS.out _).mono ?_
  rintro e w2 ⟨rfl, hb2⟩
  have L := L.keep hb2
  have hW := below_step hW (by have := hW1.size; simp; omega) hb2
  clear hb1 hb2 hW1 hd1 hd2
  go_upto_region 6 with fail
  have hl := L.lt
  refine wp_abs (fun W => Below w.heap.size w W ∧ Bk W w.heap.size 24 (A4 (wd0 l) (wd1 l) (wd2 l) (wd3 l)) ∧ Bk W w2.heap.size 24 (A4 (wd0 n) (wd1 n) (wd2 n) (wd3 n))) ⟨hW.alloc hW.size _, L.alloc _, Bk.new _ _ _⟩ ?_
  clear hW L
  generalize w2.heap.size = g at *
  rintro W ⟨hW, L, N⟩
  obtain ⟨a0, a1, a2, a3, a4, a5, a6, a7, za⟩ := L.f4
  obtain ⟨n0, n1, n2, n3, n4, n5, n6, n7, zn⟩ := N.f4
  go_wp2_with fail
  refine (HC.out _).mono ?_
  rintro e w3 ⟨rfl, hb⟩
  have L := L.keep hb
  have N := N.keep hb
  have hW := below_step hW hW.size hb
  clear hb a0 a1 a2 a3 a4 a5 a6 a7 za n0 n1 n2 n3 n4 n5 n6 n7 zn
  obtain ⟨a0, a1, a2, a3, a4, a5, a6, a7, za⟩ := L.f4
  obtain ⟨n0, n1, n2, n3, n4, n5, n6, n7, zn⟩ := N.f4
  go_upto_region 8 with fail
  refine wp_abs (fun W => Below w.heap.size w W ∧ Bk W g 24 (A4 (wd0 l) (wd1 l) (wd2 l) (wd3 l))) ⟨Below.set4 hW (by omega) _ _ _ _, N.set4 _ _ _ _⟩ ?_
  clear hW L N a0 a1 a2 a3 a4 a5 a6 a7 za n0 n1 n2 n3 n4 n5 n6 n7 zn
  rintro V ⟨hW, N⟩
  obtain ⟨n0, n1, n2, n3, n4, n5, n6, n7, zn⟩ := N.f4
  go_wp2_with fail
  refine (HF.out _).mono ?_
  rintro e w4 ⟨rfl, hb⟩
  have hW := below_step hW hW.size hb
  go_wp2_with fail
  exact bodyPost_ret (results_tmp2 rfl _ _ _) rfl ⟨rfl, hW⟩
set_option maxRecDepth 100000 in
set_option maxHeartbeats 1000000 in
theorem next_le (b s c t r n : Nat) (tk : Int) (z : Int) (l : Nat) (w : World) (h1 : 1 ≤ s) (h2 : s ≤ 1099511627776) (h0 : -9223372036854775808 ≤ tk) (h3 : tk ≤ 9223372036854775807)
    (hc : min (max tk ((s : Int) / 4)) (4 * (s : Int)) = (c : Int))
    (HT : Hid (∀ W : World, Calls Try.prog 17 #[.int .u32 (b : Int)] W fun e w' => e = .returned (.tuple #[nv t, .bool true]) ∧ Below W.heap.size W w'))
    (HS : Hid (∀ W : World, Calls Try.prog 45 #[nv t, .int .u64 (c : Int), .int .u64 (s : Int)] W fun e w' => e = .returned (.tuple #[nv n, .bool false]) ∧ Below W.heap.size W w'))
    (HC : Hid (∀ W : World, Calls Try.prog 26 #[nv n, nv l] W fun e w' => e = .returned (.int .i64 z) ∧ Below W.heap.size W w'))
    (HF : Hid (∀ W : World, Calls Try.prog 22 #[nv n] W fun e w' => e = .returned (.int .u32 (r : Int)) ∧ Below W.heap.size W w'))
    (hz : decide ((0 : Int) < z) = false) :
    Calls Try.prog 28 #[.int .u32 (b : Int), .int .i64 tk, .int .i64 (s : Int), nv l] w fun e w' => e = .returned (.tuple #[.int .u32 (r : Int), .bool true]) ∧ Below w.heap.size w w' := by
  have hd1 : decide ((s : Int) < 1) = false := decide_eq_false (by omega)
  have hd2 : decide ((1099511627776 : Int) < (s : Int)) = false := decide_eq_false (by omega)
  go_enter Try.func28, Try.ntmps28
  go_wp2_with fail
  refine (HT.out _).mono ?_
  rintro e w1 ⟨rfl, hb1⟩
  have L : Bk (w1.alloc (.cells (A4 (wd0 t) (wd1 t) (wd2 t) (wd3 t)) 24)) w.heap.size 24 (A4 (wd0 l) (wd1 l) (wd2 l) (wd3 l)) := (Bk.keep (Bk.new _ _ _) hb1).alloc _
  have hW1 : Below w.heap.size w w1 := below_step ((Below.refl _ _).alloc (Nat.le_refl _) _) (by simp) hb1
  have hW := hW1.alloc hW1.size (.cells (A4 (wd0 t) (wd1 t) (wd2 t) (wd3 t)) 24)
  go_wp2_with fail
  refine (HS.out _).mono ?_
  rintro e w2 ⟨rfl, hb2⟩
  have L := L.keep hb2
  have hW := below_step hW (by have := hW1.size; simp; omega) hb2
  clear hb1 hb2 hW1 hd1 hd2
  go_upto_region 6 with fail
  have hl := L.lt
  refine wp_abs (fun W => Below w.heap.size w W ∧ Bk W w.heap.size 24 (A4 (wd0 l) (wd1 l) (wd2 l) (wd3 l)) ∧ Bk W w2.heap.size 24 (A4 (wd0 n) (wd1 n) (wd2 n) (wd3 n))) ⟨hW.alloc hW.size _, L.alloc _, Bk.new _ _ _⟩ ?_
  clear hW L
  generalize w2.heap.size = g at *
  rintro W ⟨hW, L, N⟩
  obtain ⟨a0, a1, a2, a3, a4, a5, a6, a7, za⟩ := L.f4
  obtain ⟨n0, n1, n2, n3, n4, n5, n6, n7, zn⟩ := N.f4
  go_wp2_with fail
  refine (HC.out _).mono ?_
  rintro e w3 ⟨rfl, hb⟩
  have L := L.keep hb
  have N := N.keep hb
  have hW := below_step hW hW.size hb
  clear hb a0 a1 a2 a3 a4 a5 a6 a7 za n0 n1 n2 n3 n4 n5 n6 n7 zn
  obtain ⟨a0, a1, a2, a3, a4, a5, a6, a7, za⟩ := L.f4
  obtain ⟨n0, n1, n2, n3, n4, n5, n6, n7, zn⟩ := N.f4
  go_wp2_with fail
  refine (HF.out _).mono ?_
  rintro e w4 ⟨rfl, hb⟩
  have hW := below_step hW hW.size hb
  go_wp2_with fail
  exact bodyPost_ret (results_tmp2 rfl _ _ _) rfl ⟨rfl, hW⟩
end Go.Proofs.Ytkkkfcdoilojmaa
