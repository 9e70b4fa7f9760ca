/-
  What is proved: for all short bits, all spans of time and every limit the law BitsLimit returns true, and its arguments read behind the call as they read before it. No condition.
-/
import Derived.Test.YtiiaijoafahdmabBitN
import Derived.Test.YtiiaijoafahdmabBitX
import Derived.Test.YtiiaijoafahdmabOpen
namespace Go.Proofs.Ytiiaijoafahdmab.bitsLimit
open Go.ChangeShapes Go.WideShapes Go.ChangeAt Go.RowKit
set_option linter.unusedVariables false

theorem own : ownKnob Try.prog.godebug = none := by kernel_rfl
theorem laidOut : laidOutB Try.prog = true := by kernel_rfl
theorem wf_u32 {z : Int} (h : (Lit.int .u32 z).wf = true) : 0 ≤ z ∧ z < 4294967296 := by
  simp [Lit.wf, IntKind.min, IntKind.max, IntKind.signed, IntKind.bits] at h
  omega
theorem two_of {zs : List Int} (hl : zs.length = 2) : ∃ s0 s1, zs = [s0, s1] := by
  match zs, hl with
  | [a, b], _ => exact ⟨a, b, rfl⟩
theorem wf_i64' {z : Int} (h : (Lit.int .i64 z).wf = true) : -9223372036854775808 ≤ z ∧ z ≤ 9223372036854775807 := by
  simp [Lit.wf, IntKind.min, IntKind.max, IntKind.signed, IntKind.bits] at h
  omega

set_option maxRecDepth 100000 in
set_option maxHeartbeats 1000000 in
theorem next_bad (b t l : Nat) (tk sh : Int) (o : Bool) (w : World) (h : o = false ∨ o = true ∧ sh < 1 ∨ o = true ∧ ¬ sh < 1 ∧ 1099511627776 < sh)
    (HT : Hid (∀ W : World, Calls Try.prog 18 #[.int .u32 (b : Int)] W fun e w' => e = .returned (.tuple #[nv t, .bool o]) ∧ Below W.heap.size W w')) :
    Calls Try.prog 29 #[.int .u32 (b : Int), .int .i64 tk, .int .i64 sh, nv l] w fun e w' => e = .returned (.tuple #[.int .u32 0, .bool false]) ∧ Below w.heap.size w w' := by
  rcases h with rfl | ⟨rfl, h⟩ | ⟨rfl, h1, h⟩
  · go_enter Try.func29, Try.ntmps29
    go_wp2_with fail
    refine (HT.out _).mono ?_
    rintro e w1 ⟨rfl, hb1⟩
    have hW : Below w.heap.size w w1 := below_step ((Below.refl _ _).alloc (Nat.le_refl _) _) (by simp) hb1
    go_wp2_with fail
    exact bodyPost_ret (results_tmp2 rfl _ _ _) rfl ⟨rfl, hW.alloc hW.size _⟩
  · have hd : decide (sh < 1) = true := decide_eq_true h
    go_enter Try.func29, Try.ntmps29
    go_wp2_with fail
    refine (HT.out _).mono ?_
    rintro e w1 ⟨rfl, hb1⟩
    have hW : Below w.heap.size w w1 := below_step ((Below.refl _ _).alloc (Nat.le_refl _) _) (by simp) hb1
    go_wp2_with fail
    exact bodyPost_ret (results_tmp2 rfl _ _ _) rfl ⟨rfl, hW.alloc hW.size _⟩
  · have hd : decide (sh < 1) = false := decide_eq_false h1
    have hd2 : decide (1099511627776 < sh) = true := decide_eq_true h
    go_enter Try.func29, Try.ntmps29
    go_wp2_with fail
    refine (HT.out _).mono ?_
    rintro e w1 ⟨rfl, hb1⟩
    have hW : Below w.heap.size w w1 := below_step ((Below.refl _ _).alloc (Nat.le_refl _) _) (by simp) hb1
    go_wp2_with fail
    exact bodyPost_ret (results_tmp2 rfl _ _ _) rfl ⟨rfl, hW.alloc hW.size _⟩

set_option maxRecDepth 100000 in
set_option maxHeartbeats 1000000 in
theorem walk_bad (b l : Nat) (s0 s1 : Int) (w : World)
    (HX : Hid (∀ W : World, Calls Try.prog 29 #[.int .u32 (b : Int), .int .i64 s0, .int .i64 s1, .agg #[.int .u64 (wd0 l : Int), .int .u64 (wd1 l : Int), .int .u64 (wd2 l : Int), .int .u64 (wd3 l : Int)]] W fun e w' => e = .returned (.tuple #[.int .u32 0, .bool false]) ∧ Below W.heap.size W w')) :
    Calls Try.prog 12 #[.int .u32 (b : Int), .agg #[.int .i64 s0, .int .i64 s1], nv l] w fun e w' => e = .returned (.bool true) ∧ Below w.heap.size w w' := by
  go_enter Try.func12, Try.ntmps12
  go_wp2_with fail
  refine (means_any _).mono ?_
  rintro e w1 ⟨rfl, hb1⟩
  have SP : Bk w1 w.heap.size 50 #[.int .i64 s0, .int .i64 s1] := Bk.keep ((Bk.new _ _ _).alloc _) hb1
  have L : Bk w1 (w.heap.size + 1) 26 (A4 (wd0 l) (wd1 l) (wd2 l) (wd3 l)) := Bk.keep (Bk.new' _ _ _ (by simp)) hb1
  have hW : Below w.heap.size w w1 := below_step (((Below.refl _ _).alloc (Nat.le_refl _) _).alloc (by simp) _) (by simp; omega) hb1
  have p0 : w1.cell? ⟨w.heap.size, 0, none⟩ = some (.int .i64 s0) := SP.cell 0
  have p1 : w1.cell? ⟨w.heap.size, 1, none⟩ = some (.int .i64 s1) := SP.cell 1
  obtain ⟨a0, a1, a2, a3, a4, a5, a6, a7, za⟩ := L.f4
  go_wp2_with fail
  refine (HX.out _).mono ?_
  rintro e w2 ⟨rfl, hb⟩
  have L := L.keep hb
  have hW := below_step hW hW.size hb
  clear hb hb1 SP p0 p1 a0 a1 a2 a3 a4 a5 a6 a7 za
  go_wp2_with fail
  go_ret
  exact ⟨rfl, hW⟩

set_option maxRecDepth 100000 in
set_option maxHeartbeats 1000000 in
theorem walk_over (b l r v T f : Nat) (s0 s1 z1 : Int) (o1 o2 : Bool) (w : World)
    (HX : Hid (∀ W : World, Calls Try.prog 29 #[.int .u32 (b : Int), .int .i64 s0, .int .i64 s1, .agg #[.int .u64 (wd0 l : Int), .int .u64 (wd1 l : Int), .int .u64 (wd2 l : Int), .int .u64 (wd3 l : Int)]] W fun e w' => e = .returned (.tuple #[.int .u32 (r : Int), .bool true]) ∧ Below W.heap.size W w'))
    (HR : Hid (∀ W : World, Calls Try.prog 18 #[.int .u32 (r : Int)] W fun e w' => e = .returned (.tuple #[nv v, .bool o1]) ∧ Below W.heap.size W w'))
    (HB : Hid (∀ W : World, Calls Try.prog 18 #[.int .u32 (b : Int)] W fun e w' => e = .returned (.tuple #[nv T, .bool o2]) ∧ Below W.heap.size W w'))
    (HM : Hid (∀ W : World, Calls Try.prog 16 #[nv T, .int .u64 4] W fun e w' => e = .returned (.tuple #[nv f, .bool true]) ∧ Below W.heap.size W w'))
    (HC1 : Hid (∀ W : World, Calls Try.prog 15 #[nv v, nv l] W fun e w' => e = .returned (.int .i64 z1) ∧ Below W.heap.size W w'))
    (h1 : z1 ≤ 0) :
    Calls Try.prog 12 #[.int .u32 (b : Int), .agg #[.int .i64 s0, .int .i64 s1], nv l] w fun e w' => e = .returned (.bool true) ∧ Below w.heap.size w w' := by
  go_enter Try.func12, Try.ntmps12
  go_wp2_with fail
  refine (means_any _).mono ?_
  rintro e w1 ⟨rfl, hb1⟩
  have SP : Bk w1 w.heap.size 50 #[.int .i64 s0, .int .i64 s1] := Bk.keep ((Bk.new _ _ _).alloc _) hb1
  have L : Bk w1 (w.heap.size + 1) 26 (A4 (wd0 l) (wd1 l) (wd2 l) (wd3 l)) := Bk.keep (Bk.new' _ _ _ (by simp)) hb1
  have hW : Below w.heap.size w w1 := below_step (((Below.refl _ _).alloc (Nat.le_refl _) _).alloc (by simp) _) (by simp; omega) hb1
  have p0 : w1.cell? ⟨w.heap.size, 0, none⟩ = some (.int .i64 s0) := SP.cell 0
  have p1 : w1.cell? ⟨w.heap.size, 1, none⟩ = some (.int .i64 s1) := SP.cell 1
  obtain ⟨a0, a1, a2, a3, a4, a5, a6, a7, za⟩ := L.f4
  go_wp2_with fail
  refine (HX.out _).mono ?_
  rintro e w2 ⟨rfl, hb⟩
  have L := L.keep hb
  have hW := below_step hW hW.size hb
  clear hb hb1 SP p0 p1 a0 a1 a2 a3 a4 a5 a6 a7 za
  go_wp2_with fail
  refine (HR.out _).mono ?_
  rintro e w3 ⟨rfl, hb⟩
  have L := L.keep hb
  have hW := below_step hW hW.size hb
  clear hb
  go_upto_region 7 with fail
  refine wp_abs (fun W => Below w.heap.size w W ∧ Bk W (w.heap.size + 1) 26 (A4 (wd0 l) (wd1 l) (wd2 l) (wd3 l)) ∧ Bk W w3.heap.size 26 (A4 (wd0 v) (wd1 v) (wd2 v) (wd3 v))) ⟨hW.alloc hW.size _, L.alloc _, Bk.new _ _ _⟩ ?_
  clear hW L
  generalize w3.heap.size = g9 at *
  rintro V ⟨hW, L, X⟩
  go_wp2_with fail
  refine (HB.out _).mono ?_
  rintro e w4 ⟨rfl, hb⟩
  have L := L.keep hb
  have X := X.keep hb
  have hW := below_step hW hW.size hb
  clear hb
  go_upto_region 8 with fail
  refine wp_abs (fun W => Below w.heap.size w W ∧ Bk W (w.heap.size + 1) 26 (A4 (wd0 l) (wd1 l) (wd2 l) (wd3 l)) ∧ Bk W g9 26 (A4 (wd0 v) (wd1 v) (wd2 v) (wd3 v)) ∧ Bk W w4.heap.size 26 (A4 (wd0 T) (wd1 T) (wd2 T) (wd3 T))) ⟨hW.alloc hW.size _, L.alloc _, X.alloc _, Bk.new _ _ _⟩ ?_
  clear hW L X
  generalize w4.heap.size = g11 at *
  rintro V ⟨hW, L, X, Y⟩
  obtain ⟨y0, y1, y2, y3, y4, y5, y6, y7, zy⟩ := Y.f4
  go_wp2_with fail
  refine (HM.out _).mono ?_
  rintro e w5 ⟨rfl, hb⟩
  have L := L.keep hb
  have X := X.keep hb
  have hW := below_step hW hW.size hb
  clear hb y0 y1 y2 y3 y4 y5 y6 y7 zy Y
  go_upto_region 9 with fail
  refine wp_abs (fun W => Below w.heap.size w W ∧ Bk W (w.heap.size + 1) 26 (A4 (wd0 l) (wd1 l) (wd2 l) (wd3 l)) ∧ Bk W g9 26 (A4 (wd0 v) (wd1 v) (wd2 v) (wd3 v)) ∧ Bk W w5.heap.size 26 (A4 (wd0 f) (wd1 f) (wd2 f) (wd3 f))) ⟨hW.alloc hW.size _, L.alloc _, X.alloc _, Bk.new _ _ _⟩ ?_
  clear hW L X
  generalize w5.heap.size = g13 at *
  rintro V ⟨hW, L, X, Y⟩
  obtain ⟨x0, x1, x2, x3, x4, x5, x6, x7, zx⟩ := X.f4
  obtain ⟨a0, a1, a2, a3, a4, a5, a6, a7, za⟩ := L.f4
  go_wp2_with fail
  refine (HC1.out _).mono ?_
  rintro e w6 ⟨rfl, hb⟩
  have X := X.keep hb
  have Y := Y.keep hb
  have hW := below_step hW hW.size hb
  clear hb x0 x1 x2 x3 x4 x5 x6 x7 zx a0 a1 a2 a3 a4 a5 a6 a7 za
  go_wp2_with fail
  go_ret
  exact ⟨rfl, hW⟩

set_option maxRecDepth 100000 in
set_option maxHeartbeats 1000000 in
theorem walk_fit (b l r v T f : Nat) (s0 s1 z1 z2 : Int) (o1 o2 : Bool) (w : World)
    (HX : Hid (∀ W : World, Calls Try.prog 29 #[.int .u32 (b : Int), .int .i64 s0, .int .i64 s1, .agg #[.int .u64 (wd0 l : Int), .int .u64 (wd1 l : Int), .int .u64 (wd2 l : Int), .int .u64 (wd3 l : Int)]] W fun e w' => e = .returned (.tuple #[.int .u32 (r : Int), .bool true]) ∧ Below W.heap.size W w'))
    (HR : Hid (∀ W : World, Calls Try.prog 18 #[.int .u32 (r : Int)] W fun e w' => e = .returned (.tuple #[nv v, .bool o1]) ∧ Below W.heap.size W w'))
    (HB : Hid (∀ W : World, Calls Try.prog 18 #[.int .u32 (b : Int)] W fun e w' => e = .returned (.tuple #[nv T, .bool o2]) ∧ Below W.heap.size W w'))
    (HM : Hid (∀ W : World, Calls Try.prog 16 #[nv T, .int .u64 4] W fun e w' => e = .returned (.tuple #[nv f, .bool false]) ∧ Below W.heap.size W w'))
    (HC1 : Hid (∀ W : World, Calls Try.prog 15 #[nv v, nv l] W fun e w' => e = .returned (.int .i64 z1) ∧ Below W.heap.size W w'))
    (HC2 : Hid (∀ W : World, Calls Try.prog 15 #[nv v, nv f] W fun e w' => e = .returned (.int .i64 z2) ∧ Below W.heap.size W w'))
    (h1 : z1 ≤ 0) (h2 : z2 ≤ 0) :
    Calls Try.prog 12 #[.int .u32 (b : Int), .agg #[.int .i64 s0, .int .i64 s1], nv l] w fun e w' => e = .returned (.bool true) ∧ Below w.heap.size w w' := by
  go_enter Try.func12, Try.ntmps12
  go_wp2_with fail
  refine (means_any _).mono ?_
  rintro e w1 ⟨rfl, hb1⟩
  have SP : Bk w1 w.heap.size 50 #[.int .i64 s0, .int .i64 s1] := Bk.keep ((Bk.new _ _ _).alloc _) hb1
  have L : Bk w1 (w.heap.size + 1) 26 (A4 (wd0 l) (wd1 l) (wd2 l) (wd3 l)) := Bk.keep (Bk.new' _ _ _ (by simp)) hb1
  have hW : Below w.heap.size w w1 := below_step (((Below.refl _ _).alloc (Nat.le_refl _) _).alloc (by simp) _) (by simp; omega) hb1
  have p0 : w1.cell? ⟨w.heap.size, 0, none⟩ = some (.int .i64 s0) := SP.cell 0
  have p1 : w1.cell? ⟨w.heap.size, 1, none⟩ = some (.int .i64 s1) := SP.cell 1
  obtain ⟨a0, a1, a2, a3, a4, a5, a6, a7, za⟩ := L.f4
  go_wp2_with fail
  refine (HX.out _).mono ?_
  rintro e w2 ⟨rfl, hb⟩
  have L := L.keep hb
  have hW := below_step hW hW.size hb
  clear hb hb1 SP p0 p1 a0 a1 a2 a3 a4 a5 a6 a7 za
  go_wp2_with fail
  refine (HR.out _).mono ?_
  rintro e w3 ⟨rfl, hb⟩
  have L := L.keep hb
  have hW := below_step hW hW.size hb
  clear hb
  go_upto_region 7 with fail
  refine wp_abs (fun W => Below w.heap.size w W ∧ Bk W (w.heap.size + 1) 26 (A4 (wd0 l) (wd1 l) (wd2 l) (wd3 l)) ∧ Bk W w3.heap.size 26 (A4 (wd0 v) (wd1 v) (wd2 v) (wd3 v))) ⟨hW.alloc hW.size _, L.alloc _, Bk.new _ _ _⟩ ?_
  clear hW L
  generalize w3.heap.size = g9 at *
  rintro V ⟨hW, L, X⟩
  go_wp2_with fail
  refine (HB.out _).mono ?_
  rintro e w4 ⟨rfl, hb⟩
  have L := L.keep hb
  have X := X.keep hb
  have hW := below_step hW hW.size hb
  clear hb
  go_upto_region 8 with fail
  refine wp_abs (fun W => Below w.heap.size w W ∧ Bk W (w.heap.size + 1) 26 (A4 (wd0 l) (wd1 l) (wd2 l) (wd3 l)) ∧ Bk W g9 26 (A4 (wd0 v) (wd1 v) (wd2 v) (wd3 v)) ∧ Bk W w4.heap.size 26 (A4 (wd0 T) (wd1 T) (wd2 T) (wd3 T))) ⟨hW.alloc hW.size _, L.alloc _, X.alloc _, Bk.new _ _ _⟩ ?_
  clear hW L X
  generalize w4.heap.size = g11 at *
  rintro V ⟨hW, L, X, Y⟩
  obtain ⟨y0, y1, y2, y3, y4, y5, y6, y7, zy⟩ := Y.f4
  go_wp2_with fail
  refine (HM.out _).mono ?_
  rintro e w5 ⟨rfl, hb⟩
  have L := L.keep hb
  have X := X.keep hb
  have hW := below_step hW hW.size hb
  clear hb y0 y1 y2 y3 y4 y5 y6 y7 zy Y
  go_upto_region 9 with fail
  refine wp_abs (fun W => Below w.heap.size w W ∧ Bk W (w.heap.size + 1) 26 (A4 (wd0 l) (wd1 l) (wd2 l) (wd3 l)) ∧ Bk W g9 26 (A4 (wd0 v) (wd1 v) (wd2 v) (wd3 v)) ∧ Bk W w5.heap.size 26 (A4 (wd0 f) (wd1 f) (wd2 f) (wd3 f))) ⟨hW.alloc hW.size _, L.alloc _, X.alloc _, Bk.new _ _ _⟩ ?_
  clear hW L X
  generalize w5.heap.size = g13 at *
  rintro V ⟨hW, L, X, Y⟩
  obtain ⟨x0, x1, x2, x3, x4, x5, x6, x7, zx⟩ := X.f4
  obtain ⟨a0, a1, a2, a3, a4, a5, a6, a7, za⟩ := L.f4
  go_wp2_with fail
  refine (HC1.out _).mono ?_
  rintro e w6 ⟨rfl, hb⟩
  have X := X.keep hb
  have Y := Y.keep hb
  have hW := below_step hW hW.size hb
  clear hb x0 x1 x2 x3 x4 x5 x6 x7 zx a0 a1 a2 a3 a4 a5 a6 a7 za
  obtain ⟨x0, x1, x2, x3, x4, x5, x6, x7, zx⟩ := X.f4
  obtain ⟨y0, y1, y2, y3, y4, y5, y6, y7, zy⟩ := Y.f4
  go_wp2_with fail
  refine (HC2.out _).mono ?_
  rintro e w7 ⟨rfl, hb⟩
  have hW := below_step hW hW.size hb
  go_wp2_with fail
  go_ret
  exact ⟨rfl, hW⟩

theorem cmp_gt {a b : Nat} (h : b < a) : cmpI a b = 1 := by unfold cmpI; rw [if_neg (by omega), if_neg (by omega)]
theorem cmp_le_of {a b : Nat} (h : a ≤ b) : cmpI a b ≤ 0 := by unfold cmpI; split <;> (try split) <;> omega
/-- What is scaled, if it fits, is at most four times what was. -/
theorem scale_le (T c s : Nat) (hT : T < M256) (hs : 1 ≤ s) (hc : c ≤ 4 * s) : (scaleO T c s = false → scaleV T c s ≤ T * 4) ∧ (scaleO T c s = true → M256 ≤ T * 4) ∧ scaleV T c s < M256 := by
  have h1 : T / s * c ≤ T * 4 := by
    refine Nat.le_trans (Nat.mul_le_mul_left _ hc) ?_
    have := Nat.div_mul_le_self T s
    rw [show T / s * (4 * s) = T / s * s * 4 from by rw [Nat.mul_comm 4 s, Nat.mul_assoc]]
    exact Nat.mul_le_mul_right _ this
  have h2 : T * c / s ≤ T * 4 := by
    refine Nat.le_trans (Nat.div_le_div_right (Nat.mul_le_mul_left _ hc)) ?_
    rw [show T * (4 * s) = T * 4 * s from by rw [Nat.mul_assoc], Nat.mul_div_cancel _ hs]
    exact Nat.le_refl _
  unfold scaleO scaleV
  by_cases h : M256 ≤ T * c
  · rw [if_pos h, decide_eq_true h]
    refine ⟨fun hf => ?_, fun ht => ?_, Nat.mod_lt _ M256_pos'⟩
    · exact Nat.le_trans (Nat.mod_le _ _) h1
    · have : M256 ≤ T / s * c := by simpa using ht
      exact Nat.le_trans this h1
  · rw [if_neg h, decide_eq_false h]
    refine ⟨fun _ => h2, fun ht => by simp at ht, Nat.lt_of_le_of_lt (Nat.div_le_self _ _) (Nat.lt_of_not_le h)⟩
theorem last (b r V T l : Nat) (s0 s1 : Int) (w : World) (hr : r = shortN V) (hV : V < M256) (hT : T = tgtV b) (hb : b < 4294967296) (hl : l < M256) (h1 : V ≤ l) (h2 : M256 ≤ T * 4 ∨ V ≤ T * 4)
    (HX : Hid (∀ W : World, Calls Try.prog 29 #[.int .u32 (b : Int), .int .i64 s0, .int .i64 s1, .agg #[.int .u64 (wd0 l : Int), .int .u64 (wd1 l : Int), .int .u64 (wd2 l : Int), .int .u64 (wd3 l : Int)]] W fun e w' => e = .returned (.tuple #[.int .u32 (r : Int), .bool true]) ∧ Below W.heap.size W w')) :
    Calls Try.prog 12 #[.int .u32 (b : Int), .agg #[.int .i64 s0, .int .i64 s1], nv l] w fun e w' => e = .returned (.bool true) ∧ Below w.heap.size w w' := by
  have hTM : T < M256 := by rw [hT]; exact tgtV_lt b
  have HR := fun W => target_any r W (by rw [hr]; exact shortN_lt V hV)
  have ev : tgtV r = trunc V := by rw [hr]; exact tgt_short V hV
  rw [ev] at HR
  have tv := trunc_le V
  have tM : trunc V < M256 := Nat.lt_of_le_of_lt tv hV
  have HB := fun W => target_any b W hb
  rw [← hT] at HB
  have HM := fun W => mul_any T 4 W hTM (by rw [B64_pow]; exact Nat.lt_of_lt_of_le (show 4 < 2 ^ 3 by decide) (Nat.pow_le_pow_right (by omega) (by omega)))
  have HC1 := fun W => cmp_any (trunc V) l W tM hl
  by_cases ho : M256 ≤ T * 4
  · rw [decide_eq_true ho] at HM
    exact walk_over b l r _ T _ s0 s1 _ _ _ w HX HR HB HM HC1 (cmp_le_of (by omega))
  · rw [decide_eq_false ho, Nat.mod_eq_of_lt (by omega)] at HM
    have HC2 := fun W => cmp_any (trunc V) (T * 4) W tM (by omega)
    exact walk_fit b l r _ T _ s0 s1 _ _ _ _ w HX HR HB HM HC1 HC2 (cmp_le_of (by omega)) (cmp_le_of (by omega))
theorem walk (b : Nat) (s0 s1 : Int) (l : Nat) (w : World) (hb : b < 4294967296) (h0 : -9223372036854775808 ≤ s0 ∧ s0 ≤ 9223372036854775807) (h1 : -9223372036854775808 ≤ s1 ∧ s1 ≤ 9223372036854775807) (hl : l < M256) :
    Calls Try.prog 12 #[.int .u32 (b : Int), .agg #[.int .i64 s0, .int .i64 s1], nv l] w fun e w' => e = .returned (.bool true) ∧ Below w.heap.size w w' := by
  have HT := fun W => target_any b W hb
  by_cases hok : tgtV b = 0
  · rw [decide_eq_true hok] at HT
    exact walk_bad b l s0 s1 w (fun W => next_bad b _ l s0 s1 false W (.inl rfl) HT)
  rw [decide_eq_false hok] at HT
  by_cases hs : s1 < 1
  · exact walk_bad b l s0 s1 w (fun W => next_bad b _ l s0 s1 true W (.inr (.inl ⟨rfl, hs⟩)) HT)
  by_cases hs2 : 1099511627776 < s1
  · exact walk_bad b l s0 s1 w (fun W => next_bad b _ l s0 s1 true W (.inr (.inr ⟨rfl, hs, hs2⟩)) HT)
  obtain ⟨s, rfl⟩ : ∃ s : Nat, s1 = (s : Int) := ⟨s1.toNat, by omega⟩
  obtain ⟨c, hc⟩ : ∃ c : Nat, min (max s0 ((s : Int) / 4)) (4 * (s : Int)) = (c : Int) := ⟨(min (max s0 ((s : Int) / 4)) (4 * (s : Int))).toNat, by omega⟩
  have hc4 : c ≤ 4 * s := by omega
  obtain ⟨m1, m2, m3⟩ := scale_le (tgtV b) c s (tgtV_lt b) (by omega) hc4
  have hB : (4398046511104 : Nat) < B64 := by rw [B64_pow]; exact Nat.lt_of_lt_of_le (show 4398046511104 < 2 ^ 43 by decide) (Nat.pow_le_pow_right (by omega) (by omega))
  have HS := fun W => scale_any (tgtV b) c s W (tgtV_lt b) (by omega) (by omega) (by omega)
  generalize scaleV (tgtV b) c s = n at *
  have HFl := fun W => short_any l W hl
  have HFn := fun W => short_any n W m3
  have HC := fun W => cmp_any n l W m3 hl
  by_cases ho : scaleO (tgtV b) c s = true
  · rw [ho] at HS
    exact last b _ l _ l s0 s w rfl hl rfl hb hl (Nat.le_refl _) (.inl (m2 ho)) (fun W => next_over b s c _ _ n s0 l W (by omega) (by omega) h0.1 h0.2 hc HT HS HFl)
  · have ho : scaleO (tgtV b) c s = false := by simpa using ho
    rw [ho] at HS
    have m4 := m1 ho
    by_cases hn : l < n
    · exact last b _ l _ l s0 s w rfl hl rfl hb hl (Nat.le_refl _) (.inr (by omega)) (fun W => next_gt b s c _ _ n s0 _ l W (by omega) (by omega) h0.1 h0.2 hc HT HS HC HFl (by rw [cmp_gt hn]; rfl))
    · exact last b _ n _ l s0 s w rfl m3 rfl hb hl (by omega) (.inr m4) (fun W => next_le b s c _ _ n s0 _ l W (by omega) (by omega) h0.1 h0.2 hc HT HS HC HFn (decide_eq_false (by have := cmp_le_of (Nat.le_of_not_lt hn); omega)))

set_option maxRecDepth 100000 in
set_option maxHeartbeats 2000000 in
theorem lifted (os : Os) (started : os.Started) (H : Type) (enc : TypeId × Value → H) :
    ReturnsInHanded {} Try.checked os 12 .any (Rows.bitsLimitSpec.pre6 enc Try.prog Try.f12 Rows.bitsLimitRow.domain false) (Rows.bitsLimitSpec.post enc Try.prog Try.f12 false true false false) := by
  refine returnsInHanded_of_change (C := Try.checked) own started (by kernel_rfl) Try.func12
    (ChangeSpec.witness6 (enc := enc) (C := Try.checked) false ⟨#[], #[.int .u32 0, .agg #[.int .i64 0, .int .i64 0], I4 0 0 0 0], []⟩ 8 (by kernel_rfl) (by kernel_rfl) (by kernel_rfl) (by kernel_rfl)) ?_
  intro W base args ds gs before hval0 hW hcnd _
  have hval : ∀ (j : Nat) t v, Try.f12.params[j]? = some t → args[j]? = some v → Value.okWide Try.prog W .any base t v := hval0
  have hW' := hW
  obtain ⟨p, q, hA0, hV, rfl, hfz, hnd⟩ := hW
  have hA : DataW.TrodAll enc Try.prog W 0 (fun _ => true) true Try.f12.params.toList args.toList ds p := hA0
  rw [Try.params12] at hA hval
  obtain ⟨v0, vs0, d0, ds0, p0, q0, hargs, rfl, rfl, h0, r0⟩ := trodAll_cons hA
  obtain ⟨v1, vs1, d1, ds1, p1, q1, rfl, rfl, rfl, h1, r1⟩ := trodAll_cons r0
  obtain ⟨v2, vs2, d2, ds2, p2, q2, rfl, rfl, rfl, h2, r2⟩ := trodAll_cons r1
  obtain ⟨rfl, rfl, rfl⟩ := trodAll_nil r2
  obtain rfl : args = #[v0, v1, v2] := by cases args; simp_all
  obtain ⟨rfl, rfl⟩ := trodVars_none hV
  have lt0 : ∀ x ∈ p0, x.block < W.heap.size := by obtain ⟨m, hm⟩ := h0; exact DataW.trod_lt m _ _ _ hm
  have lt2 : ∀ x ∈ p2, x.block < W.heap.size := by obtain ⟨m, hm⟩ := h2; exact DataW.trod_lt m _ _ _ hm
  have lt1 : ∀ x ∈ p1, x.block < W.heap.size := by obtain ⟨m, hm⟩ := h1; exact DataW.trod_lt m _ _ _ hm
  obtain ⟨y0, rfl, _, _, hwf⟩ := open_int (k := .u32) Try.underlying34 (hval 0 34 v0 rfl rfl) h0
  have hyb := wf_u32 hwf
  obtain ⟨b0, rfl⟩ := Int.eq_ofNat_of_zero_le hyb.1
  obtain ⟨zs1, hl1, rfl, hz1⟩ := open_ints_arr (n := 2) (k := .i64) Try.underlying50 Try.underlying2 (by kernel_rfl) (by kernel_rfl) (hval 1 50 v1 rfl rfl) h1
  obtain ⟨s0, s1, rfl⟩ := two_of hl1
  have hs0 := wf_i64' (hz1 s0 (by simp))
  have hs1 := wf_i64' (hz1 s1 (by simp))
  obtain ⟨zs2, hl2, rfl, hz2⟩ := open_ints_arr (n := 4) (k := .u64) Try.underlying26 Try.underlying24 (by kernel_rfl) (by kernel_rfl) (hval 2 26 v2 rfl rfl) h2
  obtain ⟨a2, ha2, ea2⟩ := num_of_words hl2 hz2
  clear hA0 hval0
  have hwalk := walk b0 s0 s1 a2 W (by omega) hs0 hs1 ha2
  rw [← ea2] at hwalk
  refine hwalk.mono fun e W' ⟨he, bel⟩ => ?_
  subst he
  exact ⟨_, rfl, _, _, _, [], _, [], hW', trodAll_mk1 (shut_bool Try.underlying4 _), (trodAll_cons_mk (Below.trod laidOut (by kernel_rfl) (of_decide_eq_true (by kernel_rfl)) h0 bel lt0) (trodAll_cons_mk (Below.trod laidOut (by kernel_rfl) (of_decide_eq_true (by kernel_rfl)) h1 bel lt1) (trodAll_cons_mk (Below.trod laidOut (by kernel_rfl) (of_decide_eq_true (by kernel_rfl)) h2 bel lt2) trodAll_mk0))), rfl, bel.frame _, fun h => by cases h⟩

theorem over : Rows.bitsLimitRow.holds Try.pinned (OpenSpec.ofChange Rows.bitsLimitSpec) :=
  OpenClaim.holds_of_wide 12 Try.f12 rfl rfl rfl rfl rfl rfl rfl ⟨rfl, rfl, rfl, rfl, rfl⟩ rfl rfl rfl rfl rfl (by kernel_rfl) Try.func12 (by kernel_rfl)
    (of_decide_eq_true (by kernel_rfl)) (by unfold Func.isWrapper; first | (rw [if_pos (by decide +kernel)]; kernel_rfl) | (rw [if_neg (by decide +kernel)]; exact ⟨rfl, rfl⟩))
    (fun os started H enc _ => lifted os started H enc)

theorem proved : Rows.BitsLimitSaid := over
#print axioms proved
end Go.Proofs.Ytiiaijoafahdmab.bitsLimit
