/-
  What is proved: for all numbers a and b the law BitsOrder returns true, and its arguments read behind the call as they read before it. No condition.
-/
import Derived.Test.YtiiaijoafahdmabBitN
import Derived.Test.YtiiaijoafahdmabOpen
namespace Go.Proofs.Ytiiaijoafahdmab.bitsOrder
open Go.ChangeShapes Go.WideShapes Go.ChangeAt Go.RowKit
set_option linter.unusedVariables false

theorem own : ownKnob Try.prog.godebug = none := by kernel_rfl
theorem laidOut : laidOutB Try.prog = true := by kernel_rfl

set_option maxRecDepth 100000 in
set_option maxHeartbeats 4000000 in
theorem walk_le (a b x y s t : Nat) (z z1 z2 z3 : Int) (o1 o2 : Bool) (w : World)
    (HC : Hid (∀ W : World, Calls Try.prog 15 #[nv a, nv b] W fun e w' => e = .returned (.int .i64 z) ∧ Below W.heap.size W w'))
    (HS1 : Hid (∀ W : World, Calls Try.prog 24 #[nv a] W fun e w' => e = .returned (.int .u32 (s : Int)) ∧ Below W.heap.size W w'))
    (HT1 : Hid (∀ W : World, Calls Try.prog 18 #[.int .u32 (s : Int)] W fun e w' => e = .returned (.tuple #[nv x, .bool o1]) ∧ Below W.heap.size W w'))
    (HS2 : Hid (∀ W : World, Calls Try.prog 24 #[nv b] W fun e w' => e = .returned (.int .u32 (t : Int)) ∧ Below W.heap.size W w'))
    (HT2 : Hid (∀ W : World, Calls Try.prog 18 #[.int .u32 (t : Int)] W fun e w' => e = .returned (.tuple #[nv y, .bool o2]) ∧ Below W.heap.size W w'))
    (HC1 : Hid (∀ W : World, Calls Try.prog 15 #[nv x, nv y] W fun e w' => e = .returned (.int .i64 z1) ∧ Below W.heap.size W w'))
    (HC2 : Hid (∀ W : World, Calls Try.prog 15 #[nv x, nv a] W fun e w' => e = .returned (.int .i64 z2) ∧ Below W.heap.size W w'))
    (HC3 : Hid (∀ W : World, Calls Try.prog 15 #[nv y, nv b] W fun e w' => e = .returned (.int .i64 z3) ∧ Below W.heap.size W w'))
    (hz : decide ((0 : Int) < z) = false) (h1 : z1 ≤ 0) (h2 : z2 ≤ 0) (h3 : z3 ≤ 0) :
    Calls Try.prog 11 #[nv a, nv b] w fun e w' => e = .returned (.bool true) ∧ Below w.heap.size w w' := by
  go_enter Try.func11, Try.ntmps11
  go_wp2_with fail
  refine (means_any _).mono ?_
  rintro e w1 ⟨rfl, hb1⟩
  have A : Bk w1 w.heap.size 26 (A4 (wd0 a) (wd1 a) (wd2 a) (wd3 a)) := Bk.keep ((Bk.new _ _ _).alloc _) hb1
  have B : Bk w1 (w.heap.size + 1) 26 (A4 (wd0 b) (wd1 b) (wd2 b) (wd3 b)) := Bk.keep (Bk.new' _ _ _ (by simp)) hb1
  have hW : Below w.heap.size w w1 := below_step (((Below.refl _ _).alloc (Nat.le_refl _) _).alloc (by simp) _) (by simp; omega) hb1
  clear hb1
  obtain ⟨a0, a1, a2, a3, a4, a5, a6, a7, za⟩ := A.f4
  obtain ⟨b0, b1, b2, b3, b4, b5, b6, b7, zb⟩ := B.f4
  go_wp2_with fail
  refine (HC.out _).mono ?_
  rintro e w2 ⟨rfl, hb⟩
  have A := A.keep hb
  have B := B.keep hb
  have hW := below_step hW hW.size hb
  clear hb a0 a1 a2 a3 a4 a5 a6 a7 za b0 b1 b2 b3 b4 b5 b6 b7 zb
  obtain ⟨a0, a1, a2, a3, a4, a5, a6, a7, za⟩ := A.f4
  obtain ⟨b0, b1, b2, b3, b4, b5, b6, b7, zb⟩ := B.f4
  go_upto_region 5 with fail
  refine wp_abs (fun W => Below w.heap.size w W ∧ Bk W w.heap.size 26 (A4 (wd0 a) (wd1 a) (wd2 a) (wd3 a)) ∧ Bk W (w.heap.size + 1) 26 (A4 (wd0 b) (wd1 b) (wd2 b) (wd3 b)))
    ⟨hW, A, B⟩ ?_
  clear hW A B a0 a1 a2 a3 a4 a5 a6 a7 za b0 b1 b2 b3 b4 b5 b6 b7 zb
  rintro W ⟨hW, A, B⟩
  obtain ⟨a0, a1, a2, a3, a4, a5, a6, a7, za⟩ := A.f4
  go_wp2_with fail
  refine (HS1.out _).mono ?_
  rintro e w3 ⟨rfl, hb⟩
  have A := A.keep hb
  have B := B.keep hb
  have hW := below_step hW hW.size hb
  clear hb a0 a1 a2 a3 a4 a5 a6 a7 za
  go_wp2_with fail
  refine (HT1.out _).mono ?_
  rintro e w4 ⟨rfl, hb⟩
  have A := A.keep hb
  have B := B.keep hb
  have hW := below_step hW hW.size hb
  clear hb
  go_upto_region 6 with fail
  refine wp_abs (fun V => Below w.heap.size w V ∧ Bk V w.heap.size 26 (A4 (wd0 a) (wd1 a) (wd2 a) (wd3 a)) ∧ Bk V (w.heap.size + 1) 26 (A4 (wd0 b) (wd1 b) (wd2 b) (wd3 b)) ∧ Bk V w4.heap.size 26 (A4 (wd0 x) (wd1 x) (wd2 x) (wd3 x)))
    ⟨hW.alloc hW.size _, A.alloc _, B.alloc _, Bk.new _ _ _⟩ ?_
  clear hW A B
  generalize w4.heap.size = g5 at *
  rintro V ⟨hW, A, B, X⟩
  obtain ⟨b0, b1, b2, b3, b4, b5, b6, b7, zb⟩ := B.f4
  go_wp2_with fail
  refine (HS2.out _).mono ?_
  rintro e w5 ⟨rfl, hb⟩
  have A := A.keep hb
  have B := B.keep hb
  have X := X.keep hb
  have hW := below_step hW hW.size hb
  clear hb b0 b1 b2 b3 b4 b5 b6 b7 zb
  go_wp2_with fail
  refine (HT2.out _).mono ?_
  rintro e w6 ⟨rfl, hb⟩
  have A := A.keep hb
  have B := B.keep hb
  have X := X.keep hb
  have hW := below_step hW hW.size hb
  clear hb
  go_upto_region 7 with fail
  refine wp_abs (fun V => Below w.heap.size w V ∧ Bk V w.heap.size 26 (A4 (wd0 a) (wd1 a) (wd2 a) (wd3 a)) ∧ Bk V (w.heap.size + 1) 26 (A4 (wd0 b) (wd1 b) (wd2 b) (wd3 b)) ∧ Bk V g5 26 (A4 (wd0 x) (wd1 x) (wd2 x) (wd3 x)) ∧ Bk V w6.heap.size 26 (A4 (wd0 y) (wd1 y) (wd2 y) (wd3 y)))
    ⟨hW.alloc hW.size _, A.alloc _, B.alloc _, X.alloc _, Bk.new _ _ _⟩ ?_
  clear hW A B X
  generalize w6.heap.size = g7 at *
  rintro U ⟨hW, A, B, X, Y⟩
  obtain ⟨x0, x1, x2, x3, x4, x5, x6, x7, zx⟩ := X.f4
  obtain ⟨y0, y1, y2, y3, y4, y5, y6, y7, zy⟩ := Y.f4
  go_wp2_with fail
  refine (HC1.out _).mono ?_
  rintro e w7 ⟨rfl, hb⟩
  have A := A.keep hb
  have B := B.keep hb
  have X := X.keep hb
  have Y := Y.keep hb
  have hW := below_step hW hW.size hb
  clear hb x0 x1 x2 x3 x4 x5 x6 x7 zx y0 y1 y2 y3 y4 y5 y6 y7 zy
  obtain ⟨x0, x1, x2, x3, x4, x5, x6, x7, zx⟩ := X.f4
  obtain ⟨a0, a1, a2, a3, a4, a5, a6, a7, za⟩ := A.f4
  go_wp2_with fail
  refine (HC2.out _).mono ?_
  rintro e w8 ⟨rfl, hb⟩
  have B := B.keep hb
  have Y := Y.keep hb
  have hW := below_step hW hW.size hb
  clear hb x0 x1 x2 x3 x4 x5 x6 x7 zx a0 a1 a2 a3 a4 a5 a6 a7 za
  obtain ⟨y0, y1, y2, y3, y4, y5, y6, y7, zy⟩ := Y.f4
  obtain ⟨b0, b1, b2, b3, b4, b5, b6, b7, zb⟩ := B.f4
  go_wp2_with fail
  refine (HC3.out _).mono ?_
  rintro e w9 ⟨rfl, hb⟩
  have hW := below_step hW hW.size hb
  go_wp2_with fail
  go_ret
  exact ⟨rfl, hW⟩

set_option maxRecDepth 100000 in
set_option maxHeartbeats 4000000 in
theorem walk_gt (a b x y s t : Nat) (z z1 z2 z3 : Int) (o1 o2 : Bool) (w : World)
    (HC : Hid (∀ W : World, Calls Try.prog 15 #[nv a, nv b] W fun e w' => e = .returned (.int .i64 z) ∧ Below W.heap.size W w'))
    (HS1 : Hid (∀ W : World, Calls Try.prog 24 #[nv b] W fun e w' => e = .returned (.int .u32 (s : Int)) ∧ Below W.heap.size W w'))
    (HT1 : Hid (∀ W : World, Calls Try.prog 18 #[.int .u32 (s : Int)] W fun e w' => e = .returned (.tuple #[nv x, .bool o1]) ∧ Below W.heap.size W w'))
    (HS2 : Hid (∀ W : World, Calls Try.prog 24 #[nv a] W fun e w' => e = .returned (.int .u32 (t : Int)) ∧ Below W.heap.size W w'))
    (HT2 : Hid (∀ W : World, Calls Try.prog 18 #[.int .u32 (t : Int)] W fun e w' => e = .returned (.tuple #[nv y, .bool o2]) ∧ Below W.heap.size W w'))
    (HC1 : Hid (∀ W : World, Calls Try.prog 15 #[nv x, nv y] W fun e w' => e = .returned (.int .i64 z1) ∧ Below W.heap.size W w'))
    (HC2 : Hid (∀ W : World, Calls Try.prog 15 #[nv x, nv b] W fun e w' => e = .returned (.int .i64 z2) ∧ Below W.heap.size W w'))
    (HC3 : Hid (∀ W : World, Calls Try.prog 15 #[nv y, nv a] W fun e w' => e = .returned (.int .i64 z3) ∧ Below W.heap.size W w'))
    (hz : decide ((0 : Int) < z) = true) (h1 : z1 ≤ 0) (h2 : z2 ≤ 0) (h3 : z3 ≤ 0) :
    Calls Try.prog 11 #[nv a, nv b] w fun e w' => e = .returned (.bool true) ∧ Below w.heap.size w w' := by
  go_enter Try.func11, Try.ntmps11
  go_wp2_with fail
  refine (means_any _).mono ?_
  rintro e w1 ⟨rfl, hb1⟩
  have A : Bk w1 w.heap.size 26 (A4 (wd0 a) (wd1 a) (wd2 a) (wd3 a)) := Bk.keep ((Bk.new _ _ _).alloc _) hb1
  have B : Bk w1 (w.heap.size + 1) 26 (A4 (wd0 b) (wd1 b) (wd2 b) (wd3 b)) := Bk.keep (Bk.new' _ _ _ (by simp)) hb1
  have hW : Below w.heap.size w w1 := below_step (((Below.refl _ _).alloc (Nat.le_refl _) _).alloc (by simp) _) (by simp; omega) hb1
  clear hb1
  obtain ⟨a0, a1, a2, a3, a4, a5, a6, a7, za⟩ := A.f4
  obtain ⟨b0, b1, b2, b3, b4, b5, b6, b7, zb⟩ := B.f4
  go_wp2_with fail
  refine (HC.out _).mono ?_
  rintro e w2 ⟨rfl, hb⟩
  have A := A.keep hb
  have B := B.keep hb
  have hW := below_step hW hW.size hb
  clear hb a0 a1 a2 a3 a4 a5 a6 a7 za b0 b1 b2 b3 b4 b5 b6 b7 zb
  obtain ⟨a0, a1, a2, a3, a4, a5, a6, a7, za⟩ := A.f4
  obtain ⟨b0, b1, b2, b3, b4, b5, b6, b7, zb⟩ := B.f4
  go_upto_region 5 with fail
  refine wp_abs (fun W => Below w.heap.size w W ∧ Bk W w.heap.size 26 (A4 (wd0 b) (wd1 b) (wd2 b) (wd3 b)) ∧ Bk W (w.heap.size + 1) 26 (A4 (wd0 a) (wd1 a) (wd2 a) (wd3 a)))
    ⟨Below.set4 (Below.set4 hW (Nat.le_refl _) _ _ _ _) (by omega) _ _ _ _, (A.set4 _ _ _ _).far4 (by omega) _ _ _ _, (B.far4 (by omega) _ _ _ _).set4 _ _ _ _⟩ ?_
  clear hW A B a0 a1 a2 a3 a4 a5 a6 a7 za b0 b1 b2 b3 b4 b5 b6 b7 zb
  rintro W ⟨hW, A, B⟩
  obtain ⟨a0, a1, a2, a3, a4, a5, a6, a7, za⟩ := A.f4
  go_wp2_with fail
  refine (HS1.out _).mono ?_
  rintro e w3 ⟨rfl, hb⟩
  have A := A.keep hb
  have B := B.keep hb
  have hW := below_step hW hW.size hb
  clear hb a0 a1 a2 a3 a4 a5 a6 a7 za
  go_wp2_with fail
  refine (HT1.out _).mono ?_
  rintro e w4 ⟨rfl, hb⟩
  have A := A.keep hb
  have B := B.keep hb
  have hW := below_step hW hW.size hb
  clear hb
  go_upto_region 6 with fail
  refine wp_abs (fun V => Below w.heap.size w V ∧ Bk V w.heap.size 26 (A4 (wd0 b) (wd1 b) (wd2 b) (wd3 b)) ∧ Bk V (w.heap.size + 1) 26 (A4 (wd0 a) (wd1 a) (wd2 a) (wd3 a)) ∧ Bk V w4.heap.size 26 (A4 (wd0 x) (wd1 x) (wd2 x) (wd3 x)))
    ⟨hW.alloc hW.size _, A.alloc _, B.alloc _, Bk.new _ _ _⟩ ?_
  clear hW A B
  generalize w4.heap.size = g5 at *
  rintro V ⟨hW, A, B, X⟩
  obtain ⟨b0, b1, b2, b3, b4, b5, b6, b7, zb⟩ := B.f4
  go_wp2_with fail
  refine (HS2.out _).mono ?_
  rintro e w5 ⟨rfl, hb⟩
  have A := A.keep hb
  have B := B.keep hb
  have X := X.keep hb
  have hW := below_step hW hW.size hb
  clear hb b0 b1 b2 b3 b4 b5 b6 b7 zb
  go_wp2_with fail
  refine (HT2.out _).mono ?_
  rintro e w6 ⟨rfl, hb⟩
  have A := A.keep hb
  have B := B.keep hb
  have X := X.keep hb
  have hW := below_step hW hW.size hb
  clear hb
  go_upto_region 7 with fail
  refine wp_abs (fun V => Below w.heap.size w V ∧ Bk V w.heap.size 26 (A4 (wd0 b) (wd1 b) (wd2 b) (wd3 b)) ∧ Bk V (w.heap.size + 1) 26 (A4 (wd0 a) (wd1 a) (wd2 a) (wd3 a)) ∧ Bk V g5 26 (A4 (wd0 x) (wd1 x) (wd2 x) (wd3 x)) ∧ Bk V w6.heap.size 26 (A4 (wd0 y) (wd1 y) (wd2 y) (wd3 y)))
    ⟨hW.alloc hW.size _, A.alloc _, B.alloc _, X.alloc _, Bk.new _ _ _⟩ ?_
  clear hW A B X
  generalize w6.heap.size = g7 at *
  rintro U ⟨hW, A, B, X, Y⟩
  obtain ⟨x0, x1, x2, x3, x4, x5, x6, x7, zx⟩ := X.f4
  obtain ⟨y0, y1, y2, y3, y4, y5, y6, y7, zy⟩ := Y.f4
  go_wp2_with fail
  refine (HC1.out _).mono ?_
  rintro e w7 ⟨rfl, hb⟩
  have A := A.keep hb
  have B := B.keep hb
  have X := X.keep hb
  have Y := Y.keep hb
  have hW := below_step hW hW.size hb
  clear hb x0 x1 x2 x3 x4 x5 x6 x7 zx y0 y1 y2 y3 y4 y5 y6 y7 zy
  obtain ⟨x0, x1, x2, x3, x4, x5, x6, x7, zx⟩ := X.f4
  obtain ⟨a0, a1, a2, a3, a4, a5, a6, a7, za⟩ := A.f4
  go_wp2_with fail
  refine (HC2.out _).mono ?_
  rintro e w8 ⟨rfl, hb⟩
  have B := B.keep hb
  have Y := Y.keep hb
  have hW := below_step hW hW.size hb
  clear hb x0 x1 x2 x3 x4 x5 x6 x7 zx a0 a1 a2 a3 a4 a5 a6 a7 za
  obtain ⟨y0, y1, y2, y3, y4, y5, y6, y7, zy⟩ := Y.f4
  obtain ⟨b0, b1, b2, b3, b4, b5, b6, b7, zb⟩ := B.f4
  go_wp2_with fail
  refine (HC3.out _).mono ?_
  rintro e w9 ⟨rfl, hb⟩
  have hW := below_step hW hW.size hb
  go_wp2_with fail
  go_ret
  exact ⟨rfl, hW⟩

theorem cmp_gt {a b : Nat} (h : b < a) : cmpI a b = 1 := by unfold cmpI; rw [if_neg (by omega), if_neg (by omega)]
theorem cmp_le_of {a b : Nat} (h : a ≤ b) : cmpI a b ≤ 0 := by unfold cmpI; split <;> (try split) <;> omega
theorem walk (a b : Nat) (w : World) (ha : a < M256) (hb : b < M256) :
    Calls Try.prog 11 #[nv a, nv b] w fun e w' => e = .returned (.bool true) ∧ Below w.heap.size w w' := by
  have ta := trunc_le a
  have tb := trunc_le b
  have HC := fun W => cmp_any a b W ha hb
  have Sa := fun W => short_any a W ha
  have Sb := fun W => short_any b W hb
  have Ta := fun W => target_any (shortN a) W (shortN_lt a ha)
  have Tb := fun W => target_any (shortN b) W (shortN_lt b hb)
  rw [tgt_short a ha] at Ta
  rw [tgt_short b hb] at Tb
  have Ca := fun W => cmp_any (trunc a) a W (Nat.lt_of_le_of_lt ta ha) ha
  have Cb := fun W => cmp_any (trunc b) b W (Nat.lt_of_le_of_lt tb hb) hb
  rcases Nat.lt_or_ge b a with h | h
  · have Cx := fun W => cmp_any (trunc b) (trunc a) W (Nat.lt_of_le_of_lt tb hb) (Nat.lt_of_le_of_lt ta ha)
    exact walk_gt a b _ _ _ _ _ _ _ _ _ _ w HC Sb Tb Sa Ta Cx Cb Ca (by rw [cmp_gt h]; rfl) (cmp_le_of (trunc_mono b a hb ha (Nat.le_of_lt h))) (cmp_le_of tb) (cmp_le_of ta)
  · have Cx := fun W => cmp_any (trunc a) (trunc b) W (Nat.lt_of_le_of_lt ta ha) (Nat.lt_of_le_of_lt tb hb)
    exact walk_le a b _ _ _ _ _ _ _ _ _ _ w HC Sa Ta Sb Tb Cx Ca Cb (decide_eq_false (by have := cmp_le_of h; omega)) (cmp_le_of (trunc_mono a b ha hb h)) (cmp_le_of ta) (cmp_le_of tb)

set_option maxRecDepth 100000 in
theorem lifted (os : Os) (started : os.Started) (H : Type) (enc : TypeId × Value → H) :
    ReturnsInHanded {} Try.checked os 11 .any (Rows.bitsOrderSpec.pre6 enc Try.prog Try.f11 Rows.bitsOrderRow.domain false) (Rows.bitsOrderSpec.post enc Try.prog Try.f11 false true false false) := by
  refine returnsInHanded_of_change (C := Try.checked) own started (by kernel_rfl) Try.func11
    (ChangeSpec.witness6 (enc := enc) (C := Try.checked) false ⟨#[], #[I4 0 0 0 0, I4 0 0 0 0], []⟩ 8 (by kernel_rfl) (by kernel_rfl) (by kernel_rfl) (by kernel_rfl)) ?_
  intro W base args ds gs before hval0 hW hcnd _
  have hval : ∀ (j : Nat) t v, Try.f11.params[j]? = some t → args[j]? = some v → Value.okWide Try.prog W .any base t v := hval0
  have hW' := hW
  obtain ⟨p, q, hA0, hV, rfl, hfz, hnd⟩ := hW
  have hA : DataW.TrodAll enc Try.prog W 0 (fun _ => true) true Try.f11.params.toList args.toList ds p := hA0
  rw [Try.params11] at hA hval
  obtain ⟨v0, vs0, d0, ds0, p0, q0, hargs, rfl, rfl, h0, r0⟩ := trodAll_cons hA
  obtain ⟨v1, vs1, d1, ds1, p1, q1, rfl, rfl, rfl, h1, r1⟩ := trodAll_cons r0
  obtain ⟨rfl, rfl, rfl⟩ := trodAll_nil r1
  obtain rfl : args = #[v0, v1] := by cases args; simp_all
  obtain ⟨rfl, rfl⟩ := trodVars_none hV
  have lt0 : ∀ x ∈ p0, x.block < W.heap.size := by obtain ⟨m, hm⟩ := h0; exact DataW.trod_lt m _ _ _ hm
  have lt1 : ∀ x ∈ p1, x.block < W.heap.size := by obtain ⟨m, hm⟩ := h1; exact DataW.trod_lt m _ _ _ hm
  obtain ⟨zs0, hl0, rfl, hz0⟩ := open_ints_arr (n := 4) (k := .u64) Try.underlying26 Try.underlying24 (by kernel_rfl) (by kernel_rfl) (hval 0 26 v0 rfl rfl) h0
  obtain ⟨a0, ha0, ea0⟩ := num_of_words hl0 hz0
  obtain ⟨zs1, hl1, rfl, hz1⟩ := open_ints_arr (n := 4) (k := .u64) Try.underlying26 Try.underlying24 (by kernel_rfl) (by kernel_rfl) (hval 1 26 v1 rfl rfl) h1
  obtain ⟨a1, ha1, ea1⟩ := num_of_words hl1 hz1
  clear hA0 hval0
  have hwalk := walk a0 a1 W ha0 ha1
  rw [← ea0, ← ea1] at hwalk
  refine hwalk.mono fun e W' ⟨he, bel⟩ => ?_
  subst he
  exact ⟨_, rfl, _, _, _, [], _, [], hW', trodAll_mk1 (shut_bool Try.underlying4 _), (trodAll_cons_mk (Below.trod laidOut (by kernel_rfl) (of_decide_eq_true (by kernel_rfl)) h0 bel lt0) (trodAll_cons_mk (Below.trod laidOut (by kernel_rfl) (of_decide_eq_true (by kernel_rfl)) h1 bel lt1) trodAll_mk0)), rfl, bel.frame _, fun h => by cases h⟩

theorem over : Rows.bitsOrderRow.holds Try.pinned (OpenSpec.ofChange Rows.bitsOrderSpec) :=
  OpenClaim.holds_of_wide 11 Try.f11 rfl rfl rfl rfl rfl rfl rfl ⟨rfl, rfl, rfl, rfl, rfl⟩ rfl rfl rfl rfl rfl (by kernel_rfl) Try.func11 (by kernel_rfl)
    (of_decide_eq_true (by kernel_rfl)) (by unfold Func.isWrapper; first | (rw [if_pos (by decide +kernel)]; kernel_rfl) | (rw [if_neg (by decide +kernel)]; exact ⟨rfl, rfl⟩))
    (fun os started H enc _ => lifted os started H enc)

theorem proved : Rows.BitsOrderSaid := over
#print axioms proved
end Go.Proofs.Ytiiaijoafahdmab.bitsOrder
