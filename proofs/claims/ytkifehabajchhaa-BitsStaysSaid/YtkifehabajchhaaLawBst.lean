/-
  What is proved: for every number and all spans of time the law BitsStays returns true, and its arguments read behind the call as they read before it. No condition.
-/
import Derived.Test.YtkifehabajchhaaBitS
import Derived.Test.YtkifehabajchhaaOpen
namespace Go.Proofs.Ytkifehabajchhaa.bitsStays
open Go.ChangeShapes Go.WideShapes Go.ChangeAt Go.RowKit
set_option linter.unusedVariables false

theorem own : ownKnob Try.prog.godebug = none := by kernel_rfl
theorem laidOut : laidOutB Try.prog = true := by kernel_rfl
set_option maxRecDepth 100000 in
set_option maxHeartbeats 1000000 in
theorem walk_bad (a r t : Nat) (tk sh : Int) (o : Bool) (w : World) (h : o = false ∨ o = true ∧ sh < 1 ∨ o = true ∧ ¬ sh < 1 ∧ 1099511627776 < sh)
    (HS : Hid (∀ W : World, Calls Try.prog 11 #[nv a] W fun e w' => e = .returned (.int .u32 (r : Int)) ∧ Below W.heap.size W w'))
    (HT : Hid (∀ W : World, Calls Try.prog 12 #[.int .u32 (r : Int)] W fun e w' => e = .returned (.tuple #[nv t, .bool o]) ∧ Below W.heap.size W w')) :
    Calls Try.prog 3 #[nv a, .int .i64 tk, .int .i64 sh] w fun e w' => e = .returned (.bool true) ∧ Below w.heap.size w w' := by
  rcases h with rfl | ⟨rfl, h⟩ | ⟨rfl, h1, h⟩
  · go_enter Try.func3, Try.ntmps3
    go_wp2_with fail
    refine (means_any _).mono ?_
    rintro e w1 ⟨rfl, hb1⟩
    have A : Bk w1 w.heap.size 24 (A4 (wd0 a) (wd1 a) (wd2 a) (wd3 a)) := Bk.keep (Bk.new _ _ _) hb1
    have hW : Below w.heap.size w w1 := below_step ((Below.refl _ _).alloc (Nat.le_refl _) _) (by simp) hb1
    obtain ⟨a0, a1, a2, a3, a4, a5, a6, a7, za⟩ := A.f4
    clear hb1
    go_wp2_with fail
    refine (HS.out _).mono ?_
    rintro e w2 ⟨rfl, hb⟩
    have hW := below_step hW hW.size hb
    clear hb A a0 a1 a2 a3 a4 a5 a6 a7 za
    go_wp2_with fail
    refine (HT.out _).mono ?_
    rintro e w3 ⟨rfl, hb⟩
    have hW := below_step hW hW.size hb
    clear hb
    go_upto_region 5 with fail
    refine wp_abs (fun W => Below w.heap.size w W ∧ Bk W w3.heap.size 24 (A4 (wd0 t) (wd1 t) (wd2 t) (wd3 t))) ⟨hW.alloc hW.size _, Bk.new _ _ _⟩ ?_
    clear hW
    generalize w3.heap.size = g8 at *
    rintro W ⟨hW, X⟩
    go_wp2_with fail
    go_ret
    exact ⟨rfl, hW⟩
  · have hd : decide (sh < 1) = true := decide_eq_true h
    go_enter Try.func3, Try.ntmps3
    go_wp2_with fail
    refine (means_any _).mono ?_
    rintro e w1 ⟨rfl, hb1⟩
    have A : Bk w1 w.heap.size 24 (A4 (wd0 a) (wd1 a) (wd2 a) (wd3 a)) := Bk.keep (Bk.new _ _ _) hb1
    have hW : Below w.heap.size w w1 := below_step ((Below.refl _ _).alloc (Nat.le_refl _) _) (by simp) hb1
    obtain ⟨a0, a1, a2, a3, a4, a5, a6, a7, za⟩ := A.f4
    clear hb1
    go_wp2_with fail
    refine (HS.out _).mono ?_
    rintro e w2 ⟨rfl, hb⟩
    have hW := below_step hW hW.size hb
    clear hb A a0 a1 a2 a3 a4 a5 a6 a7 za
    go_wp2_with fail
    refine (HT.out _).mono ?_
    rintro e w3 ⟨rfl, hb⟩
    have hW := below_step hW hW.size hb
    clear hb
    go_upto_region 5 with fail
    refine wp_abs (fun W => Below w.heap.size w W ∧ Bk W w3.heap.size 24 (A4 (wd0 t) (wd1 t) (wd2 t) (wd3 t))) ⟨hW.alloc hW.size _, Bk.new _ _ _⟩ ?_
    clear hW
    generalize w3.heap.size = g8 at *
    rintro W ⟨hW, X⟩
    go_wp2_with fail
    go_ret
    exact ⟨rfl, hW⟩
  · have hd : decide (sh < 1) = false := decide_eq_false h1
    have hd2 : decide (1099511627776 < sh) = true := decide_eq_true h
    go_enter Try.func3, Try.ntmps3
    go_wp2_with fail
    refine (means_any _).mono ?_
    rintro e w1 ⟨rfl, hb1⟩
    have A : Bk w1 w.heap.size 24 (A4 (wd0 a) (wd1 a) (wd2 a) (wd3 a)) := Bk.keep (Bk.new _ _ _) hb1
    have hW : Below w.heap.size w w1 := below_step ((Below.refl _ _).alloc (Nat.le_refl _) _) (by simp) hb1
    obtain ⟨a0, a1, a2, a3, a4, a5, a6, a7, za⟩ := A.f4
    clear hb1
    go_wp2_with fail
    refine (HS.out _).mono ?_
    rintro e w2 ⟨rfl, hb⟩
    have hW := below_step hW hW.size hb
    clear hb A a0 a1 a2 a3 a4 a5 a6 a7 za
    go_wp2_with fail
    refine (HT.out _).mono ?_
    rintro e w3 ⟨rfl, hb⟩
    have hW := below_step hW hW.size hb
    clear hb
    go_upto_region 5 with fail
    refine wp_abs (fun W => Below w.heap.size w W ∧ Bk W w3.heap.size 24 (A4 (wd0 t) (wd1 t) (wd2 t) (wd3 t))) ⟨hW.alloc hW.size _, Bk.new _ _ _⟩ ?_
    clear hW
    generalize w3.heap.size = g8 at *
    rintro W ⟨hW, X⟩
    go_wp2_with fail
    go_ret
    exact ⟨rfl, hW⟩
set_option maxRecDepth 100000 in
set_option maxHeartbeats 1000000 in
theorem walk_long (a r t L l : Nat) (tk sh : Int) (w : World) (h1 : ¬ sh < 1) (h2 : ¬ 1099511627776 < sh) (hl : 256 < l + 44) (hl2 : l ≤ 256)
    (HS : Hid (∀ W : World, Calls Try.prog 11 #[nv a] W fun e w' => e = .returned (.int .u32 (r : Int)) ∧ Below W.heap.size W w'))
    (HT : Hid (∀ W : World, Calls Try.prog 12 #[.int .u32 (r : Int)] W fun e w' => e = .returned (.tuple #[nv t, .bool true]) ∧ Below W.heap.size W w'))
    (HN : Hid (∀ W : World, Calls Try.prog 13 #[.agg #[.int .u64 0, .int .u64 0, .int .u64 0, .int .u64 0]] W fun e w' => e = .returned (nv L) ∧ Below W.heap.size W w'))
    (HLn : Hid (∀ W : World, Calls Try.prog 14 #[.agg #[.int .u64 (wd0 t : Int), .int .u64 (wd1 t : Int), .int .u64 (wd2 t : Int), .int .u64 (wd3 t : Int)]] W fun e w' => e = .returned (.int .i64 (l : Int)) ∧ Below W.heap.size W w')) :
    Calls Try.prog 3 #[nv a, .int .i64 tk, .int .i64 sh] w fun e w' => e = .returned (.bool true) ∧ Below w.heap.size w w' := by
  have hd : decide (sh < 1) = false := decide_eq_false h1
  have hd2 : decide (1099511627776 < sh) = false := decide_eq_false h2
  go_enter Try.func3, Try.ntmps3
  go_wp2_with fail
  refine (means_any _).mono ?_
  rintro e w1 ⟨rfl, hb1⟩
  have A : Bk w1 w.heap.size 24 (A4 (wd0 a) (wd1 a) (wd2 a) (wd3 a)) := Bk.keep (Bk.new _ _ _) hb1
  have hW : Below w.heap.size w w1 := below_step ((Below.refl _ _).alloc (Nat.le_refl _) _) (by simp) hb1
  obtain ⟨a0, a1, a2, a3, a4, a5, a6, a7, za⟩ := A.f4
  clear hb1
  go_wp2_with fail
  refine (HS.out _).mono ?_
  rintro e w2 ⟨rfl, hb⟩
  have hW := below_step hW hW.size hb
  clear hb A a0 a1 a2 a3 a4 a5 a6 a7 za
  go_wp2_with fail
  refine (HT.out _).mono ?_
  rintro e w3 ⟨rfl, hb⟩
  have hW := below_step hW hW.size hb
  clear hb
  go_upto_region 5 with fail
  refine wp_abs (fun W => Below w.heap.size w W ∧ Bk W w3.heap.size 24 (A4 (wd0 t) (wd1 t) (wd2 t) (wd3 t))) ⟨hW.alloc hW.size _, Bk.new _ _ _⟩ ?_
  clear hW
  generalize w3.heap.size = g8 at *
  rintro W ⟨hW, X⟩
  go_wp2_with fail
  refine (HN.out _).mono ?_
  rintro e w4 ⟨rfl, hb⟩
  have X := X.keep hb
  have hW := below_step hW hW.size hb
  clear hb
  go_upto_region 8 with fail
  refine wp_abs (fun W => Below w.heap.size w W ∧ Bk W g8 24 (A4 (wd0 t) (wd1 t) (wd2 t) (wd3 t)) ∧ Bk W w4.heap.size 24 (A4 (wd0 L) (wd1 L) (wd2 L) (wd3 L))) ⟨hW.alloc hW.size _, X.alloc _, Bk.new _ _ _⟩ ?_
  clear hW X
  generalize w4.heap.size = g10 at *
  rintro W2 ⟨hW, X, Y⟩
  obtain ⟨x0, x1, x2, x3, x4, x5, x6, x7, zx⟩ := X.f4
  go_wp2_with fail
  refine (HLn.out _).mono ?_
  rintro e w5 ⟨rfl, hb⟩
  have X := X.keep hb
  have Y := Y.keep hb
  have hW := below_step hW hW.size hb
  clear hb x0 x1 x2 x3 x4 x5 x6 x7 zx
  have q : IntKind.i64.wrap ((l : Int) + 44) = (l : Int) + 44 := IntWalk.i64_in _ (by omega)
  have hd3 : decide ((256 : Int) < (l : Int) + 44) = true := decide_eq_true (by omega)
  go_wp2_with fail
  go_ret
  exact ⟨rfl, hW⟩
set_option maxRecDepth 100000 in
set_option maxHeartbeats 1000000 in
theorem walk_a (a r t L l u r2 : Nat) (tk sh z1 : Int) (w : World) (h1 : ¬ sh < 1) (h2 : ¬ 1099511627776 < sh) (hl : l + 44 ≤ 256) (h : tk ≤ sh) (hz : z1 ≤ 0)
    (HS : Hid (∀ W : World, Calls Try.prog 11 #[nv a] W fun e w' => e = .returned (.int .u32 (r : Int)) ∧ Below W.heap.size W w'))
    (HT : Hid (∀ W : World, Calls Try.prog 12 #[.int .u32 (r : Int)] W fun e w' => e = .returned (.tuple #[nv t, .bool true]) ∧ Below W.heap.size W w'))
    (HN : Hid (∀ W : World, Calls Try.prog 13 #[.agg #[.int .u64 0, .int .u64 0, .int .u64 0, .int .u64 0]] W fun e w' => e = .returned (nv L) ∧ Below W.heap.size W w'))
    (HLn : Hid (∀ W : World, Calls Try.prog 14 #[.agg #[.int .u64 (wd0 t : Int), .int .u64 (wd1 t : Int), .int .u64 (wd2 t : Int), .int .u64 (wd3 t : Int)]] W fun e w' => e = .returned (.int .i64 (l : Int)) ∧ Below W.heap.size W w'))
    (HX1 : Hid (∀ W : World, Calls Try.prog 15 #[.int .u32 (r : Int), .int .i64 sh, .int .i64 sh, .agg #[.int .u64 (wd0 L : Int), .int .u64 (wd1 L : Int), .int .u64 (wd2 L : Int), .int .u64 (wd3 L : Int)]] W fun e w' => e = .returned (.tuple #[.int .u32 (r : Int), .bool true]) ∧ Below W.heap.size W w'))
    (HX2 : Hid (∀ W : World, Calls Try.prog 15 #[.int .u32 (r : Int), .int .i64 tk, .int .i64 sh, .agg #[.int .u64 (wd0 L : Int), .int .u64 (wd1 L : Int), .int .u64 (wd2 L : Int), .int .u64 (wd3 L : Int)]] W fun e w' => e = .returned (.tuple #[.int .u32 (r2 : Int), .bool true]) ∧ Below W.heap.size W w'))
    (HR : Hid (∀ W : World, Calls Try.prog 12 #[.int .u32 (r2 : Int)] W fun e w' => e = .returned (.tuple #[nv u, .bool true]) ∧ Below W.heap.size W w'))
    (HC : Hid (∀ W : World, Calls Try.prog 16 #[.agg #[.int .u64 (wd0 u : Int), .int .u64 (wd1 u : Int), .int .u64 (wd2 u : Int), .int .u64 (wd3 u : Int)], .agg #[.int .u64 (wd0 t : Int), .int .u64 (wd1 t : Int), .int .u64 (wd2 t : Int), .int .u64 (wd3 t : Int)]] W fun e w' => e = .returned (.int .i64 z1) ∧ Below W.heap.size W w')) :
    Calls Try.prog 3 #[nv a, .int .i64 tk, .int .i64 sh] w fun e w' => e = .returned (.bool true) ∧ Below w.heap.size w w' := by
  have hd : decide (sh < 1) = false := decide_eq_false h1
  have hd2 : decide (1099511627776 < sh) = false := decide_eq_false h2
  have hd4 : decide (tk ≤ sh) = true := decide_eq_true h
  have hd5 : decide (sh < tk) = false := decide_eq_false (by omega)
  go_enter Try.func3, Try.ntmps3
  go_wp2_with fail
  refine (means_any _).mono ?_
  rintro e w1 ⟨rfl, hb1⟩
  have A : Bk w1 w.heap.size 24 (A4 (wd0 a) (wd1 a) (wd2 a) (wd3 a)) := Bk.keep (Bk.new _ _ _) hb1
  have hW : Below w.heap.size w w1 := below_step ((Below.refl _ _).alloc (Nat.le_refl _) _) (by simp) hb1
  obtain ⟨a0, a1, a2, a3, a4, a5, a6, a7, za⟩ := A.f4
  clear hb1
  go_wp2_with fail
  refine (HS.out _).mono ?_
  rintro e w2 ⟨rfl, hb⟩
  have hW := below_step hW hW.size hb
  clear hb A a0 a1 a2 a3 a4 a5 a6 a7 za
  go_wp2_with fail
  refine (HT.out _).mono ?_
  rintro e w3 ⟨rfl, hb⟩
  have hW := below_step hW hW.size hb
  clear hb
  go_upto_region 5 with fail
  refine wp_abs (fun W => Below w.heap.size w W ∧ Bk W w3.heap.size 24 (A4 (wd0 t) (wd1 t) (wd2 t) (wd3 t))) ⟨hW.alloc hW.size _, Bk.new _ _ _⟩ ?_
  clear hW
  generalize w3.heap.size = g8 at *
  rintro W ⟨hW, X⟩
  go_wp2_with fail
  refine (HN.out _).mono ?_
  rintro e w4 ⟨rfl, hb⟩
  have X := X.keep hb
  have hW := below_step hW hW.size hb
  clear hb
  go_upto_region 8 with fail
  refine wp_abs (fun W => Below w.heap.size w W ∧ Bk W g8 24 (A4 (wd0 t) (wd1 t) (wd2 t) (wd3 t)) ∧ Bk W w4.heap.size 24 (A4 (wd0 L) (wd1 L) (wd2 L) (wd3 L))) ⟨hW.alloc hW.size _, X.alloc _, Bk.new _ _ _⟩ ?_
  clear hW X
  generalize w4.heap.size = g10 at *
  rintro W2 ⟨hW, X, Y⟩
  obtain ⟨x0, x1, x2, x3, x4, x5, x6, x7, zx⟩ := X.f4
  go_wp2_with fail
  refine (HLn.out _).mono ?_
  rintro e w5 ⟨rfl, hb⟩
  have X := X.keep hb
  have Y := Y.keep hb
  have hW := below_step hW hW.size hb
  clear hb x0 x1 x2 x3 x4 x5 x6 x7 zx
  have q : IntKind.i64.wrap ((l : Int) + 44) = (l : Int) + 44 := IntWalk.i64_in _ (by omega)
  have hd3 : decide ((256 : Int) < (l : Int) + 44) = false := decide_eq_false (by omega)
  obtain ⟨y0, y1, y2, y3, y4, y5, y6, y7, zy⟩ := Y.f4
  go_wp2_with fail
  refine (HX1.out _).mono ?_
  rintro e w6 ⟨rfl, hb⟩
  have X := X.keep hb
  have Y := Y.keep hb
  have hW := below_step hW hW.size hb
  clear hb y0 y1 y2 y3 y4 y5 y6 y7 zy
  obtain ⟨y0, y1, y2, y3, y4, y5, y6, y7, zy⟩ := Y.f4
  go_wp2_with fail
  refine (HX2.out _).mono ?_
  rintro e w7 ⟨rfl, hb⟩
  have X := X.keep hb
  have hW := below_step hW hW.size hb
  clear hb y0 y1 y2 y3 y4 y5 y6 y7 zy Y
  go_wp2_with fail
  refine (HR.out _).mono ?_
  rintro e w8 ⟨rfl, hb⟩
  have X := X.keep hb
  have hW := below_step hW hW.size hb
  clear hb
  go_upto_region 13 with fail
  refine wp_abs (fun W => Below w.heap.size w W ∧ Bk W g8 24 (A4 (wd0 t) (wd1 t) (wd2 t) (wd3 t)) ∧ Bk W w8.heap.size 24 (A4 (wd0 u) (wd1 u) (wd2 u) (wd3 u))) ⟨hW.alloc hW.size _, X.alloc _, Bk.new _ _ _⟩ ?_
  clear hW X
  generalize w8.heap.size = g15 at *
  rintro W3 ⟨hW, X, Y⟩
  obtain ⟨x0, x1, x2, x3, x4, x5, x6, x7, zx⟩ := X.f4
  obtain ⟨y0, y1, y2, y3, y4, y5, y6, y7, zy⟩ := Y.f4
  go_wp2_with fail
  refine (HC.out _).mono ?_
  rintro e w9 ⟨rfl, hb⟩
  have hW := below_step hW hW.size hb
  clear hb x0 x1 x2 x3 x4 x5 x6 x7 zx y0 y1 y2 y3 y4 y5 y6 y7 zy X Y
  go_wp2_with fail
  go_ret
  exact ⟨rfl, hW⟩
set_option maxRecDepth 100000 in
set_option maxHeartbeats 1000000 in
theorem walk_b (a r t L l u r2 : Nat) (tk sh z1 : Int) (w : World) (h1 : ¬ sh < 1) (h2 : ¬ 1099511627776 < sh) (hl : l + 44 ≤ 256) (h : tk < sh) (hz : z1 ≤ 0)
    (HS : Hid (∀ W : World, Calls Try.prog 11 #[nv a] W fun e w' => e = .returned (.int .u32 (r : Int)) ∧ Below W.heap.size W w'))
    (HT : Hid (∀ W : World, Calls Try.prog 12 #[.int .u32 (r : Int)] W fun e w' => e = .returned (.tuple #[nv t, .bool true]) ∧ Below W.heap.size W w'))
    (HN : Hid (∀ W : World, Calls Try.prog 13 #[.agg #[.int .u64 0, .int .u64 0, .int .u64 0, .int .u64 0]] W fun e w' => e = .returned (nv L) ∧ Below W.heap.size W w'))
    (HLn : Hid (∀ W : World, Calls Try.prog 14 #[.agg #[.int .u64 (wd0 t : Int), .int .u64 (wd1 t : Int), .int .u64 (wd2 t : Int), .int .u64 (wd3 t : Int)]] W fun e w' => e = .returned (.int .i64 (l : Int)) ∧ Below W.heap.size W w'))
    (HX1 : Hid (∀ W : World, Calls Try.prog 15 #[.int .u32 (r : Int), .int .i64 sh, .int .i64 sh, .agg #[.int .u64 (wd0 L : Int), .int .u64 (wd1 L : Int), .int .u64 (wd2 L : Int), .int .u64 (wd3 L : Int)]] W fun e w' => e = .returned (.tuple #[.int .u32 (r : Int), .bool true]) ∧ Below W.heap.size W w'))
    (HX2 : Hid (∀ W : World, Calls Try.prog 15 #[.int .u32 (r : Int), .int .i64 tk, .int .i64 sh, .agg #[.int .u64 (wd0 L : Int), .int .u64 (wd1 L : Int), .int .u64 (wd2 L : Int), .int .u64 (wd3 L : Int)]] W fun e w' => e = .returned (.tuple #[.int .u32 (r2 : Int), .bool true]) ∧ Below W.heap.size W w'))
    (HR : Hid (∀ W : World, Calls Try.prog 12 #[.int .u32 (r2 : Int)] W fun e w' => e = .returned (.tuple #[nv u, .bool false]) ∧ Below W.heap.size W w'))
    (HC : Hid (∀ W : World, Calls Try.prog 16 #[.agg #[.int .u64 (wd0 u : Int), .int .u64 (wd1 u : Int), .int .u64 (wd2 u : Int), .int .u64 (wd3 u : Int)], .agg #[.int .u64 (wd0 t : Int), .int .u64 (wd1 t : Int), .int .u64 (wd2 t : Int), .int .u64 (wd3 t : Int)]] W fun e w' => e = .returned (.int .i64 z1) ∧ Below W.heap.size W w')) :
    Calls Try.prog 3 #[nv a, .int .i64 tk, .int .i64 sh] w fun e w' => e = .returned (.bool true) ∧ Below w.heap.size w w' := by
  have hd : decide (sh < 1) = false := decide_eq_false h1
  have hd2 : decide (1099511627776 < sh) = false := decide_eq_false h2
  have hd4 : decide (tk ≤ sh) = true := decide_eq_true (by omega)
  have hd5 : decide (sh < tk) = false := decide_eq_false (by omega)
  have hd6 : decide (sh ≤ tk) = false := decide_eq_false (by omega)
  go_enter Try.func3, Try.ntmps3
  go_wp2_with fail
  refine (means_any _).mono ?_
  rintro e w1 ⟨rfl, hb1⟩
  have A : Bk w1 w.heap.size 24 (A4 (wd0 a) (wd1 a) (wd2 a) (wd3 a)) := Bk.keep (Bk.new _ _ _) hb1
  have hW : Below w.heap.size w w1 := below_step ((Below.refl _ _).alloc (Nat.le_refl _) _) (by simp) hb1
  obtain ⟨a0, a1, a2, a3, a4, a5, a6, a7, za⟩ := A.f4
  clear hb1
  go_wp2_with fail
  refine (HS.out _).mono ?_
  rintro e w2 ⟨rfl, hb⟩
  have hW := below_step hW hW.size hb
  clear hb A a0 a1 a2 a3 a4 a5 a6 a7 za
  go_wp2_with fail
  refine (HT.out _).mono ?_
  rintro e w3 ⟨rfl, hb⟩
  have hW := below_step hW hW.size hb
  clear hb
  go_upto_region 5 with fail
  refine wp_abs (fun W => Below w.heap.size w W ∧ Bk W w3.heap.size 24 (A4 (wd0 t) (wd1 t) (wd2 t) (wd3 t))) ⟨hW.alloc hW.size _, Bk.new _ _ _⟩ ?_
  clear hW
  generalize w3.heap.size = g8 at *
  rintro W ⟨hW, X⟩
  go_wp2_with fail
  refine (HN.out _).mono ?_
  rintro e w4 ⟨rfl, hb⟩
  have X := X.keep hb
  have hW := below_step hW hW.size hb
  clear hb
  go_upto_region 8 with fail
  refine wp_abs (fun W => Below w.heap.size w W ∧ Bk W g8 24 (A4 (wd0 t) (wd1 t) (wd2 t) (wd3 t)) ∧ Bk W w4.heap.size 24 (A4 (wd0 L) (wd1 L) (wd2 L) (wd3 L))) ⟨hW.alloc hW.size _, X.alloc _, Bk.new _ _ _⟩ ?_
  clear hW X
  generalize w4.heap.size = g10 at *
  rintro W2 ⟨hW, X, Y⟩
  obtain ⟨x0, x1, x2, x3, x4, x5, x6, x7, zx⟩ := X.f4
  go_wp2_with fail
  refine (HLn.out _).mono ?_
  rintro e w5 ⟨rfl, hb⟩
  have X := X.keep hb
  have Y := Y.keep hb
  have hW := below_step hW hW.size hb
  clear hb x0 x1 x2 x3 x4 x5 x6 x7 zx
  have q : IntKind.i64.wrap ((l : Int) + 44) = (l : Int) + 44 := IntWalk.i64_in _ (by omega)
  have hd3 : decide ((256 : Int) < (l : Int) + 44) = false := decide_eq_false (by omega)
  obtain ⟨y0, y1, y2, y3, y4, y5, y6, y7, zy⟩ := Y.f4
  go_wp2_with fail
  refine (HX1.out _).mono ?_
  rintro e w6 ⟨rfl, hb⟩
  have X := X.keep hb
  have Y := Y.keep hb
  have hW := below_step hW hW.size hb
  clear hb y0 y1 y2 y3 y4 y5 y6 y7 zy
  obtain ⟨y0, y1, y2, y3, y4, y5, y6, y7, zy⟩ := Y.f4
  go_wp2_with fail
  refine (HX2.out _).mono ?_
  rintro e w7 ⟨rfl, hb⟩
  have X := X.keep hb
  have hW := below_step hW hW.size hb
  clear hb y0 y1 y2 y3 y4 y5 y6 y7 zy Y
  go_wp2_with fail
  refine (HR.out _).mono ?_
  rintro e w8 ⟨rfl, hb⟩
  have X := X.keep hb
  have hW := below_step hW hW.size hb
  clear hb
  go_upto_region 13 with fail
  refine wp_abs (fun W => Below w.heap.size w W ∧ Bk W g8 24 (A4 (wd0 t) (wd1 t) (wd2 t) (wd3 t)) ∧ Bk W w8.heap.size 24 (A4 (wd0 u) (wd1 u) (wd2 u) (wd3 u))) ⟨hW.alloc hW.size _, X.alloc _, Bk.new _ _ _⟩ ?_
  clear hW X
  generalize w8.heap.size = g15 at *
  rintro W3 ⟨hW, X, Y⟩
  obtain ⟨x0, x1, x2, x3, x4, x5, x6, x7, zx⟩ := X.f4
  obtain ⟨y0, y1, y2, y3, y4, y5, y6, y7, zy⟩ := Y.f4
  go_wp2_with fail
  refine (HC.out _).mono ?_
  rintro e w9 ⟨rfl, hb⟩
  have hW := below_step hW hW.size hb
  clear hb x0 x1 x2 x3 x4 x5 x6 x7 zx y0 y1 y2 y3 y4 y5 y6 y7 zy X Y
  go_wp2_with fail
  go_ret
  exact ⟨rfl, hW⟩
set_option maxRecDepth 100000 in
set_option maxHeartbeats 1000000 in
theorem walk_c (a r t L l u r2 : Nat) (tk sh z1 : Int) (w : World) (h1 : ¬ sh < 1) (h2 : ¬ 1099511627776 < sh) (hl : l + 44 ≤ 256) (h : sh < tk) (hz : 0 ≤ z1)
    (HS : Hid (∀ W : World, Calls Try.prog 11 #[nv a] W fun e w' => e = .returned (.int .u32 (r : Int)) ∧ Below W.heap.size W w'))
    (HT : Hid (∀ W : World, Calls Try.prog 12 #[.int .u32 (r : Int)] W fun e w' => e = .returned (.tuple #[nv t, .bool true]) ∧ Below W.heap.size W w'))
    (HN : Hid (∀ W : World, Calls Try.prog 13 #[.agg #[.int .u64 0, .int .u64 0, .int .u64 0, .int .u64 0]] W fun e w' => e = .returned (nv L) ∧ Below W.heap.size W w'))
    (HLn : Hid (∀ W : World, Calls Try.prog 14 #[.agg #[.int .u64 (wd0 t : Int), .int .u64 (wd1 t : Int), .int .u64 (wd2 t : Int), .int .u64 (wd3 t : Int)]] W fun e w' => e = .returned (.int .i64 (l : Int)) ∧ Below W.heap.size W w'))
    (HX1 : Hid (∀ W : World, Calls Try.prog 15 #[.int .u32 (r : Int), .int .i64 sh, .int .i64 sh, .agg #[.int .u64 (wd0 L : Int), .int .u64 (wd1 L : Int), .int .u64 (wd2 L : Int), .int .u64 (wd3 L : Int)]] W fun e w' => e = .returned (.tuple #[.int .u32 (r : Int), .bool true]) ∧ Below W.heap.size W w'))
    (HX2 : Hid (∀ W : World, Calls Try.prog 15 #[.int .u32 (r : Int), .int .i64 tk, .int .i64 sh, .agg #[.int .u64 (wd0 L : Int), .int .u64 (wd1 L : Int), .int .u64 (wd2 L : Int), .int .u64 (wd3 L : Int)]] W fun e w' => e = .returned (.tuple #[.int .u32 (r2 : Int), .bool true]) ∧ Below W.heap.size W w'))
    (HR : Hid (∀ W : World, Calls Try.prog 12 #[.int .u32 (r2 : Int)] W fun e w' => e = .returned (.tuple #[nv u, .bool true]) ∧ Below W.heap.size W w'))
    (HC : Hid (∀ W : World, Calls Try.prog 16 #[.agg #[.int .u64 (wd0 u : Int), .int .u64 (wd1 u : Int), .int .u64 (wd2 u : Int), .int .u64 (wd3 u : Int)], .agg #[.int .u64 (wd0 t : Int), .int .u64 (wd1 t : Int), .int .u64 (wd2 t : Int), .int .u64 (wd3 t : Int)]] W fun e w' => e = .returned (.int .i64 z1) ∧ Below W.heap.size W w')) :
    Calls Try.prog 3 #[nv a, .int .i64 tk, .int .i64 sh] w fun e w' => e = .returned (.bool true) ∧ Below w.heap.size w w' := by
  have hd : decide (sh < 1) = false := decide_eq_false h1
  have hd2 : decide (1099511627776 < sh) = false := decide_eq_false h2
  have hd4 : decide (tk ≤ sh) = false := decide_eq_false (by omega)
  have hd5 : decide (sh < tk) = true := decide_eq_true h
  go_enter Try.func3, Try.ntmps3
  go_wp2_with fail
  refine (means_any _).mono ?_
  rintro e w1 ⟨rfl, hb1⟩
  have A : Bk w1 w.heap.size 24 (A4 (wd0 a) (wd1 a) (wd2 a) (wd3 a)) := Bk.keep (Bk.new _ _ _) hb1
  have hW : Below w.heap.size w w1 := below_step ((Below.refl _ _).alloc (Nat.le_refl _) _) (by simp) hb1
  obtain ⟨a0, a1, a2, a3, a4, a5, a6, a7, za⟩ := A.f4
  clear hb1
  go_wp2_with fail
  refine (HS.out _).mono ?_
  rintro e w2 ⟨rfl, hb⟩
  have hW := below_step hW hW.size hb
  clear hb A a0 a1 a2 a3 a4 a5 a6 a7 za
  go_wp2_with fail
  refine (HT.out _).mono ?_
  rintro e w3 ⟨rfl, hb⟩
  have hW := below_step hW hW.size hb
  clear hb
  go_upto_region 5 with fail
  refine wp_abs (fun W => Below w.heap.size w W ∧ Bk W w3.heap.size 24 (A4 (wd0 t) (wd1 t) (wd2 t) (wd3 t))) ⟨hW.alloc hW.size _, Bk.new _ _ _⟩ ?_
  clear hW
  generalize w3.heap.size = g8 at *
  rintro W ⟨hW, X⟩
  go_wp2_with fail
  refine (HN.out _).mono ?_
  rintro e w4 ⟨rfl, hb⟩
  have X := X.keep hb
  have hW := below_step hW hW.size hb
  clear hb
  go_upto_region 8 with fail
  refine wp_abs (fun W => Below w.heap.size w W ∧ Bk W g8 24 (A4 (wd0 t) (wd1 t) (wd2 t) (wd3 t)) ∧ Bk W w4.heap.size 24 (A4 (wd0 L) (wd1 L) (wd2 L) (wd3 L))) ⟨hW.alloc hW.size _, X.alloc _, Bk.new _ _ _⟩ ?_
  clear hW X
  generalize w4.heap.size = g10 at *
  rintro W2 ⟨hW, X, Y⟩
  obtain ⟨x0, x1, x2, x3, x4, x5, x6, x7, zx⟩ := X.f4
  go_wp2_with fail
  refine (HLn.out _).mono ?_
  rintro e w5 ⟨rfl, hb⟩
  have X := X.keep hb
  have Y := Y.keep hb
  have hW := below_step hW hW.size hb
  clear hb x0 x1 x2 x3 x4 x5 x6 x7 zx
  have q : IntKind.i64.wrap ((l : Int) + 44) = (l : Int) + 44 := IntWalk.i64_in _ (by omega)
  have hd3 : decide ((256 : Int) < (l : Int) + 44) = false := decide_eq_false (by omega)
  obtain ⟨y0, y1, y2, y3, y4, y5, y6, y7, zy⟩ := Y.f4
  go_wp2_with fail
  refine (HX1.out _).mono ?_
  rintro e w6 ⟨rfl, hb⟩
  have X := X.keep hb
  have Y := Y.keep hb
  have hW := below_step hW hW.size hb
  clear hb y0 y1 y2 y3 y4 y5 y6 y7 zy
  obtain ⟨y0, y1, y2, y3, y4, y5, y6, y7, zy⟩ := Y.f4
  go_wp2_with fail
  refine (HX2.out _).mono ?_
  rintro e w7 ⟨rfl, hb⟩
  have X := X.keep hb
  have hW := below_step hW hW.size hb
  clear hb y0 y1 y2 y3 y4 y5 y6 y7 zy Y
  go_wp2_with fail
  refine (HR.out _).mono ?_
  rintro e w8 ⟨rfl, hb⟩
  have X := X.keep hb
  have hW := below_step hW hW.size hb
  clear hb
  go_upto_region 13 with fail
  refine wp_abs (fun W => Below w.heap.size w W ∧ Bk W g8 24 (A4 (wd0 t) (wd1 t) (wd2 t) (wd3 t)) ∧ Bk W w8.heap.size 24 (A4 (wd0 u) (wd1 u) (wd2 u) (wd3 u))) ⟨hW.alloc hW.size _, X.alloc _, Bk.new _ _ _⟩ ?_
  clear hW X
  generalize w8.heap.size = g15 at *
  rintro W3 ⟨hW, X, Y⟩
  obtain ⟨x0, x1, x2, x3, x4, x5, x6, x7, zx⟩ := X.f4
  obtain ⟨y0, y1, y2, y3, y4, y5, y6, y7, zy⟩ := Y.f4
  go_wp2_with fail
  refine (HC.out _).mono ?_
  rintro e w9 ⟨rfl, hb⟩
  have hW := below_step hW hW.size hb
  clear hb x0 x1 x2 x3 x4 x5 x6 x7 zx y0 y1 y2 y3 y4 y5 y6 y7 zy X Y
  go_wp2_with fail
  go_ret
  exact ⟨rfl, hW⟩

theorem cmp_le_of {a b : Nat} (h : a ≤ b) : cmpI a b ≤ 0 := by unfold cmpI; split <;> (try split) <;> omega
theorem cmp_ge_of {a b : Nat} (h : b ≤ a) : 0 ≤ cmpI a b := by unfold cmpI; split <;> (try split) <;> omega
theorem top_lt : M256 - 1 < M256 := by have := M256_pos'; omega
theorem walk (a : Nat) (tk sh : Int) (w : World) (ha : a < M256) (h0 : -9223372036854775808 ≤ tk ∧ tk ≤ 9223372036854775807) :
    Calls Try.prog 3 #[nv a, .int .i64 tk, .int .i64 sh] w fun e w' => e = .returned (.bool true) ∧ Below w.heap.size w w' := by
  have htr : trunc a < M256 := Nat.lt_of_le_of_lt (trunc_le a) ha
  have HS := fun W => short_any a W ha
  have hr := shortN_lt a ha
  have HT := fun W => target_any (shortN a) W hr
  have hst := short_trunc a ha
  have htt := trunc_trunc a ha
  rw [tgt_short a ha] at HT
  by_cases hok : trunc a = 0
  · rw [decide_eq_true hok] at HT
    exact walk_bad a _ _ tk sh false w (.inl rfl) HS HT
  rw [decide_eq_false hok] at HT
  by_cases hs : sh < 1
  · exact walk_bad a _ _ tk sh true w (.inr (.inl ⟨rfl, hs⟩)) HS HT
  by_cases hs2 : 1099511627776 < sh
  · exact walk_bad a _ _ tk sh true w (.inr (.inr ⟨rfl, hs, hs2⟩)) HS HT
  have HN : ∀ W : World, Calls Try.prog 13 #[.agg #[.int .u64 0, .int .u64 0, .int .u64 0, .int .u64 0]] W fun e w' => e = .returned (nv (M256 - 1)) ∧ Below W.heap.size W w' := by
    intro W
    have h := not_any 0 W M256_pos'
    rw [nv_zero] at h
    exact h
  have HLn := fun W => len_any (trunc a) W htr
  have hbl := blen_le (trunc a) htr
  by_cases hlen : 256 < blen (trunc a) + 44
  · exact walk_long a _ _ _ _ tk sh w hs hs2 hlen hbl HS HT HN HLn
  obtain ⟨s, rfl⟩ : ∃ s : Nat, sh = (s : Int) := ⟨sh.toNat, by omega⟩
  obtain ⟨c, hc⟩ : ∃ c : Nat, min (max tk ((s : Int) / 4)) (4 * (s : Int)) = (c : Int) := ⟨(min (max tk ((s : Int) / 4)) (4 * (s : Int))).toNat, by omega⟩
  have hc0 : min (max (s : Int) ((s : Int) / 4)) (4 * (s : Int)) = (s : Int) := by omega
  have hB : (4398046511104 : Nat) < B64 := by rw [B64_pow]; exact Nat.lt_of_lt_of_le (show 4398046511104 < 2 ^ 43 by decide) (Nat.pow_le_pow_right (by omega) (by omega))
  obtain ⟨o1, v1, m1⟩ := stays_scale (trunc a) s s (by omega) htr (by omega) (by omega) (by omega)
  obtain ⟨o2, v2, m2⟩ := stays_scale (trunc a) c s (by omega) htr (by omega) (by omega) (by omega)
  have HS1 := fun W => scale_any (trunc a) s s W htr (by omega) (by omega) (by omega)
  have HS2 := fun W => scale_any (trunc a) c s W htr (by omega) (by omega) (by omega)
  rw [o1, v1, Nat.mul_div_cancel _ (show 0 < s by omega)] at HS1
  rw [o2, v2] at HS2
  have hq : trunc a * c / s < M256 := Nat.lt_of_le_of_lt (Nat.div_le_self _ _) m2
  have HC1 := fun W => cmp_any (trunc a) (M256 - 1) W htr top_lt
  have HC2 := fun W => cmp_any (trunc a * c / s) (M256 - 1) W hq top_lt
  have HF1 := fun W => short_any (trunc a) W htr
  rw [hst] at HF1
  have HF2 := fun W => short_any (trunc a * c / s) W hq
  have HX1 := fun W => next_le (shortN a) s s (trunc a) (shortN a) (trunc a) (s : Int) _ (M256 - 1) W (by omega) (by omega) (by omega) (by omega) hc0 HT HS1 HC1 HF1 (decide_eq_false (by have := cmp_le_of (a := trunc a) (b := M256 - 1) (by omega); omega))
  have HX2 := fun W => next_le (shortN a) s c (trunc a) _ (trunc a * c / s) tk _ (M256 - 1) W (by omega) (by omega) h0.1 h0.2 hc HT HS2 HC2 HF2 (decide_eq_false (by have := cmp_le_of (a := trunc a * c / s) (b := M256 - 1) (by omega); omega))
  have HR := fun W => target_any (shortN (trunc a * c / s)) W (shortN_lt _ hq)
  rw [tgt_short _ hq] at HR
  have hqM : trunc (trunc a * c / s) < M256 := Nat.lt_of_le_of_lt (trunc_le _) hq
  have HC := fun W => cmp_any (trunc (trunc a * c / s)) (trunc a) W hqM htr
  by_cases ht : tk ≤ (s : Int)
  · have hcs : c ≤ s := by omega
    have hle : trunc (trunc a * c / s) ≤ trunc a := Nat.le_trans (trunc_le _) (quick_le _ _ _ (by omega) hcs)
    by_cases hz : trunc (trunc a * c / s) = 0
    · rw [decide_eq_true hz] at HR
      have hlt : tk < (s : Int) := by
        rcases Int.lt_or_eq_of_le ht with h | h
        · exact h
        · exfalso
          have e : c = s := by omega
          rw [e, Nat.mul_div_cancel _ (show 0 < s by omega), htt] at hz
          exact hok hz
      exact walk_b a _ _ _ _ _ _ tk _ _ w hs hs2 (by omega) hlt (cmp_le_of hle) HS HT HN HLn HX1 HX2 HR HC
    · rw [decide_eq_false hz] at HR
      exact walk_a a _ _ _ _ _ _ tk _ _ w hs hs2 (by omega) ht (cmp_le_of hle) HS HT HN HLn HX1 HX2 HR HC
  · have hcs : s ≤ c := by omega
    have hge : trunc a ≤ trunc (trunc a * c / s) := by
      have := trunc_mono (trunc a) (trunc a * c / s) htr hq (slow_ge _ _ _ (by omega) hcs)
      rw [htt] at this
      exact this
    have hz : ¬ trunc (trunc a * c / s) = 0 := by omega
    rw [decide_eq_false hz] at HR
    exact walk_c a _ _ _ _ _ _ tk _ _ w hs hs2 (by omega) (by omega) (cmp_ge_of hge) HS HT HN HLn HX1 HX2 HR HC

set_option maxRecDepth 100000 in
set_option maxHeartbeats 2000000 in
theorem lifted (os : Os) (started : os.Started) (H : Type) (enc : TypeId × Value → H) :
    ReturnsInHanded {} Try.checked os 3 .any (Rows.bitsStaysSpec.pre6 enc Try.prog Try.f3 Rows.bitsStaysRow.domain false) (Rows.bitsStaysSpec.post enc Try.prog Try.f3 false true false false) := by
  refine returnsInHanded_of_change (C := Try.checked) own started (by kernel_rfl) Try.func3
    (ChangeSpec.witness6 (enc := enc) (C := Try.checked) false ⟨#[], #[I4 0 0 0 0, .int .i64 0, .int .i64 0], []⟩ 8 (by kernel_rfl) (by kernel_rfl) (by kernel_rfl) (by kernel_rfl)) ?_
  intro W base args ds gs before hval0 hW hcnd _
  have hval : ∀ (j : Nat) t v, Try.f3.params[j]? = some t → args[j]? = some v → Value.okWide Try.prog W .any base t v := hval0
  have hW' := hW
  obtain ⟨p, q, hA0, hV, rfl, hfz, hnd⟩ := hW
  have hA : DataW.TrodAll enc Try.prog W 0 (fun _ => true) true Try.f3.params.toList args.toList ds p := hA0
  rw [Try.params3] at hA hval
  obtain ⟨v0, vs0, d0, ds0, p0, q0, hargs, rfl, rfl, h0, r0⟩ := trodAll_cons hA
  obtain ⟨v1, vs1, d1, ds1, p1, q1, rfl, rfl, rfl, h1, r1⟩ := trodAll_cons r0
  obtain ⟨v2, vs2, d2, ds2, p2, q2, rfl, rfl, rfl, h2, r2⟩ := trodAll_cons r1
  obtain ⟨rfl, rfl, rfl⟩ := trodAll_nil r2
  obtain rfl : args = #[v0, v1, v2] := by cases args; simp_all
  obtain ⟨rfl, rfl⟩ := trodVars_none hV
  have lt0 : ∀ x ∈ p0, x.block < W.heap.size := by obtain ⟨m, hm⟩ := h0; exact DataW.trod_lt m _ _ _ hm
  have lt2 : ∀ x ∈ p2, x.block < W.heap.size := by obtain ⟨m, hm⟩ := h2; exact DataW.trod_lt m _ _ _ hm
  have lt1 : ∀ x ∈ p1, x.block < W.heap.size := by obtain ⟨m, hm⟩ := h1; exact DataW.trod_lt m _ _ _ hm
  obtain ⟨zs0, hl0, rfl, hz0⟩ := open_ints_arr (n := 4) (k := .u64) Try.underlying24 Try.underlying22 (by kernel_rfl) (by kernel_rfl) (hval 0 24 v0 rfl rfl) h0
  obtain ⟨a0, ha0, ea0⟩ := num_of_words hl0 hz0
  obtain ⟨y1, rfl, _, _, hwf1⟩ := open_int (k := .i64) Try.underlying2 (hval 1 2 v1 rfl rfl) h1
  obtain ⟨y2, rfl, _, _, hwf2⟩ := open_int (k := .i64) Try.underlying2 (hval 2 2 v2 rfl rfl) h2
  have hy1 := wf_i64 hwf1
  clear hA0 hval0
  have hwalk := walk a0 y1 y2 W ha0 hy1
  rw [← ea0] at hwalk
  refine hwalk.mono fun e W' ⟨he, bel⟩ => ?_
  subst he
  exact ⟨_, rfl, _, _, _, [], _, [], hW', trodAll_mk1 (shut_bool Try.underlying4 _), (trodAll_cons_mk (Below.trod laidOut (by kernel_rfl) (of_decide_eq_true (by kernel_rfl)) h0 bel lt0) (trodAll_cons_mk (Below.trod laidOut (by kernel_rfl) (of_decide_eq_true (by kernel_rfl)) h1 bel lt1) (trodAll_cons_mk (Below.trod laidOut (by kernel_rfl) (of_decide_eq_true (by kernel_rfl)) h2 bel lt2) trodAll_mk0))), rfl, bel.frame _, fun h => by cases h⟩

theorem over : Rows.bitsStaysRow.holds Try.pinned (OpenSpec.ofChange Rows.bitsStaysSpec) :=
  OpenClaim.holds_of_wide 3 Try.f3 rfl rfl rfl rfl rfl rfl rfl ⟨rfl, rfl, rfl, rfl, rfl⟩ rfl rfl rfl rfl rfl (by kernel_rfl) Try.func3 (by kernel_rfl)
    (of_decide_eq_true (by kernel_rfl)) (by unfold Func.isWrapper; first | (rw [if_pos (by decide +kernel)]; kernel_rfl) | (rw [if_neg (by decide +kernel)]; exact ⟨rfl, rfl⟩))
    (fun os started H enc _ => lifted os started H enc)

theorem proved : Rows.BitsStaysSaid := over
#print axioms proved
end Go.Proofs.Ytkifehabajchhaa.bitsStays
