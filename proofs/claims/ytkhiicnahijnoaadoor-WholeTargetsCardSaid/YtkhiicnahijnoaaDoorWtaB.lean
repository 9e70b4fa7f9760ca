/-
  A region of the law WholeTargets: the end.
-/
import Derived.Test.YtkhiicnahijnoaaDoorTwin
import Derived.Test.YtkhiicnahijnoaaDoorMerW
import Derived.Test.YtkhiicnahijnoaaDoorHeaD
namespace Go.Proofs.YtkhiicnahijnoaaDoor.wholeTargets
open Go.ChangeShapes Go.WideShapes Go.ChangeAt Go.RowKit
set_option linter.unusedVariables false


set_option maxRecDepth 100000 in
set_option maxHeartbeats 8000000 in
theorem region23 (g7 g9 a b wa wb m k : Nat) (z1 z2 : Int) (V : World) (K7 : Bk V g7 34 (A4 (wd0 a) (wd1 a) (wd2 a) (wd3 a))) (K9 : Bk V g9 34 (A4 (wd0 b) (wd1 b) (wd2 b) (wd3 b))) (hmk : m ≤ k) (hz1 : decide (0 ≤ z1) = true) (hz2 : decide (0 < z2) = true)
    (HWA : Hid (∀ W, Calls Tryd.prog 32 #[.agg #[.int .u64 ((wd0 a : Nat) : Int), .int .u64 ((wd1 a : Nat) : Int), .int .u64 ((wd2 a : Nat) : Int), .int .u64 ((wd3 a : Nat) : Int)]] W fun e w' => e = .returned (.agg #[.int .u64 ((wd0 wa : Nat) : Int), .int .u64 ((wd1 wa : Nat) : Int), .int .u64 ((wd2 wa : Nat) : Int), .int .u64 ((wd3 wa : Nat) : Int)]) ∧ Below W.heap.size W w'))
    (HWB : Hid (∀ W, Calls Tryd.prog 32 #[.agg #[.int .u64 ((wd0 b : Nat) : Int), .int .u64 ((wd1 b : Nat) : Int), .int .u64 ((wd2 b : Nat) : Int), .int .u64 ((wd3 b : Nat) : Int)]] W fun e w' => e = .returned (.agg #[.int .u64 ((wd0 wb : Nat) : Int), .int .u64 ((wd1 wb : Nat) : Int), .int .u64 ((wd2 wb : Nat) : Int), .int .u64 ((wd3 wb : Nat) : Int)]) ∧ Below W.heap.size W w'))
    (HC1 : Hid (∀ W, Calls Tryd.prog 18 #[.agg #[.int .u64 ((wd0 wa : Nat) : Int), .int .u64 ((wd1 wa : Nat) : Int), .int .u64 ((wd2 wa : Nat) : Int), .int .u64 ((wd3 wa : Nat) : Int)], .agg #[.int .u64 ((wd0 wb : Nat) : Int), .int .u64 ((wd1 wb : Nat) : Int), .int .u64 ((wd2 wb : Nat) : Int), .int .u64 ((wd3 wb : Nat) : Int)]] W fun e w' => e = .returned (.int .i64 z1) ∧ Below W.heap.size W w'))
    (HC2 : Hid (∀ W, Calls Tryd.prog 18 #[.agg #[.int .u64 ((wd0 wa : Nat) : Int), .int .u64 ((wd1 wa : Nat) : Int), .int .u64 ((wd2 wa : Nat) : Int), .int .u64 ((wd3 wa : Nat) : Int)], .agg #[.int .u64 0, .int .u64 0, .int .u64 0, .int .u64 0]] W fun e w' => e = .returned (.int .i64 z2) ∧ Below W.heap.size W w'))
    (t0 t1 t2 t3 t4 t5 t6 t8 t10 t11 t12 t15 t16 t17 t18 t19 t20 t21 t22 t23 t24 t25 t26 t27 t28 t29 t30 t31 t32 t33 t34 t35 t36 t37 t38 t39 t40 t41 t42 t43 t44 t45 t46 t47 t48 t49 t50 t51 t52 t53 t54 t55 t56 t57 t58 t59 t60 t61 t62 t63 t64 t65 t66 t67 t68 t69 t70 t71 t72 t73 t74 t75 t76 t77 t78 t79 t80 t81 t82 t83 t84 t85 t86 t87 t88 t89 t90 t91 t92 t93 t94 t95 t96 t97 t98 t99 t100 t101 t102 t103 t104 t105 : Value) (Q : Exit → Act → World → Prop)
    (hQ : ∀ x88 x89 x90 x91 x92 x93 x94 x95 x96 x97 x98 x99 x100 x101 x102 x103 x104 w', Below V.heap.size V w' → Q .normal { tmps := List.toArray (t0 :: t1 :: t2 :: t3 :: Value.bool true :: t5 :: t6 :: Value.pointer (some { block := g7, off := 0 }) :: t8 :: Value.pointer (some { block := g9, off := 0 }) :: t10 :: t11 :: t12 :: Value.int IntKind.i64 (m : Int) :: Value.int IntKind.i64 (k : Int) :: t15 :: t16 :: t17 :: t18 :: t19 :: t20 :: t21 :: t22 :: t23 :: t24 :: t25 :: t26 :: t27 :: t28 :: t29 :: t30 :: t31 :: t32 :: t33 :: t34 :: t35 :: t36 :: t37 :: t38 :: t39 :: t40 :: t41 :: t42 :: t43 :: t44 :: t45 :: t46 :: t47 :: t48 :: t49 :: t50 :: t51 :: t52 :: t53 :: t54 :: t55 :: t56 :: t57 :: t58 :: t59 :: t60 :: t61 :: t62 :: t63 :: t64 :: t65 :: t66 :: t67 :: t68 :: t69 :: t70 :: t71 :: t72 :: t73 :: t74 :: t75 :: t76 :: t77 :: t78 :: t79 :: t80 :: t81 :: t82 :: t83 :: t84 :: t85 :: t86 :: t87 :: x88 :: x89 :: x90 :: x91 :: x92 :: x93 :: x94 :: x95 :: x96 :: x97 :: x98 :: x99 :: x100 :: x101 :: x102 :: x103 :: x104 :: Value.bool true :: []), defers := [] } w') :
    Code.wp Tryd.prog (Code.region 23 #[{ dst := some 88, op := Op.move (Operand.tmp 13), type := 3, pos := "top02.go:37", after := #[], guard := none },
{ dst := some 89, op := Op.move (Operand.tmp 14), type := 3, pos := "top02.go:37", after := #[], guard := none },
{ dst := some 90, op := Op.binOp BinOp.leq 3 (Operand.tmp 88) (Operand.tmp 89) 3, type := 4, pos := "top02.go:37", after := #[{ on := 0, ground := Ground.data }, { on := 1, ground := Ground.data }], guard := none },
{ dst := some 91, op := Op.move (Operand.tmp 90), type := 4, pos := "top02.go:37", after := #[{ on := 2, ground := Ground.data }], guard := none },
{ dst := some 92, op := Op.load 34 (Operand.tmp 7), type := 34, pos := "top02.go:37", after := #[{ on := 3, ground := Ground.guard }], guard := some (3, true) },
{ dst := some 93, op := Op.call { callee := Callee.value (Operand.func 32), args := #[Operand.tmp 92], argTypes := #[34] }, type := 34, pos := "top02.go:37", after := #[{ on := 4, ground := Ground.data }, { on := 3, ground := Ground.chain }, { on := 3, ground := Ground.guard }], guard := some (3, true) },
{ dst := some 94, op := Op.load 34 (Operand.tmp 9), type := 34, pos := "top02.go:37", after := #[{ on := 3, ground := Ground.guard }], guard := some (3, true) },
{ dst := some 95, op := Op.call { callee := Callee.value (Operand.func 32), args := #[Operand.tmp 94], argTypes := #[34] }, type := 34, pos := "top02.go:37", after := #[{ on := 6, ground := Ground.data }, { on := 5, ground := Ground.chain }, { on := 3, ground := Ground.guard }], guard := some (3, true) },
{ dst := some 96, op := Op.call { callee := Callee.value (Operand.func 18), args := #[Operand.tmp 93, Operand.tmp 95], argTypes := #[34, 34] }, type := 3, pos := "top02.go:37", after := #[{ on := 5, ground := Ground.data }, { on := 7, ground := Ground.data }, { on := 7, ground := Ground.chain }, { on := 3, ground := Ground.guard }], guard := some (3, true) },
{ dst := some 97, op := Op.binOp BinOp.geq 3 (Operand.tmp 96) (Operand.const (Value.int IntKind.i64 0)) 3, type := 4, pos := "top02.go:37", after := #[{ on := 8, ground := Ground.data }, { on := 3, ground := Ground.guard }], guard := some (3, true) },
{ dst := some 98, op := Op.pick (Operand.tmp 91) (Operand.tmp 97) (Operand.const (Value.bool false)), type := 4, pos := "top02.go:37", after := #[{ on := 3, ground := Ground.data }, { on := 9, ground := Ground.data }], guard := none },
{ dst := some 99, op := Op.move (Operand.tmp 98), type := 4, pos := "top02.go:37", after := #[{ on := 10, ground := Ground.data }, { on := 8, ground := Ground.chain }], guard := none },
{ dst := some 100, op := Op.load 34 (Operand.tmp 7), type := 34, pos := "top02.go:37", after := #[{ on := 11, ground := Ground.guard }], guard := some (11, true) },
{ dst := some 101, op := Op.call { callee := Callee.value (Operand.func 32), args := #[Operand.tmp 100], argTypes := #[34] }, type := 34, pos := "top02.go:37", after := #[{ on := 12, ground := Ground.data }, { on := 11, ground := Ground.chain }, { on := 11, ground := Ground.guard }], guard := some (11, true) },
{ dst := some 102, op := Op.build 34 #[], type := 34, pos := "top02.go:37", after := #[{ on := 11, ground := Ground.guard }], guard := some (11, true) },
{ dst := some 103, op := Op.call { callee := Callee.value (Operand.func 18), args := #[Operand.tmp 101, Operand.tmp 102], argTypes := #[34, 34] }, type := 3, pos := "top02.go:37", after := #[{ on := 13, ground := Ground.data }, { on := 14, ground := Ground.data }, { on := 13, ground := Ground.chain }, { on := 11, ground := Ground.guard }], guard := some (11, true) },
{ dst := some 104, op := Op.binOp BinOp.gtr 3 (Operand.tmp 103) (Operand.const (Value.int IntKind.i64 0)) 3, type := 4, pos := "top02.go:37", after := #[{ on := 15, ground := Ground.data }, { on := 11, ground := Ground.guard }], guard := some (11, true) },
{ dst := some 105, op := Op.pick (Operand.tmp 99) (Operand.tmp 104) (Operand.const (Value.bool false)), type := 4, pos := "top02.go:37", after := #[{ on := 11, ground := Ground.data }, { on := 16, ground := Ground.data }], guard := none },
{ dst := some 4, op := Op.assign (Operand.tmp 105), type := 4, pos := "top02.go:37", after := #[{ on := 17, ground := Ground.data }, { on := 15, ground := Ground.chain }, { on := 0, ground := Ground.phase }, { on := 1, ground := Ground.phase }, { on := 2, ground := Ground.phase }, { on := 3, ground := Ground.phase }, { on := 4, ground := Ground.phase }, { on := 5, ground := Ground.phase }, { on := 6, ground := Ground.phase }, { on := 7, ground := Ground.phase }, { on := 8, ground := Ground.phase }, { on := 9, ground := Ground.phase }, { on := 10, ground := Ground.phase }, { on := 11, ground := Ground.phase }, { on := 12, ground := Ground.phase }, { on := 13, ground := Ground.phase }, { on := 14, ground := Ground.phase }, { on := 15, ground := Ground.phase }, { on := 16, ground := Ground.phase }, { on := 17, ground := Ground.phase }], guard := none }] true) Q { tmps := List.toArray (t0 :: t1 :: t2 :: t3 :: t4 :: t5 :: t6 :: Value.pointer (some { block := g7, off := 0 }) :: t8 :: Value.pointer (some { block := g9, off := 0 }) :: t10 :: t11 :: t12 :: Value.int IntKind.i64 (m : Int) :: Value.int IntKind.i64 (k : Int) :: t15 :: t16 :: t17 :: t18 :: t19 :: t20 :: t21 :: t22 :: t23 :: t24 :: t25 :: t26 :: t27 :: t28 :: t29 :: t30 :: t31 :: t32 :: t33 :: t34 :: t35 :: t36 :: t37 :: t38 :: t39 :: t40 :: t41 :: t42 :: t43 :: t44 :: t45 :: t46 :: t47 :: t48 :: t49 :: t50 :: t51 :: t52 :: t53 :: t54 :: t55 :: t56 :: t57 :: t58 :: t59 :: t60 :: t61 :: t62 :: t63 :: t64 :: t65 :: t66 :: t67 :: t68 :: t69 :: t70 :: t71 :: t72 :: t73 :: t74 :: t75 :: t76 :: t77 :: t78 :: t79 :: t80 :: t81 :: t82 :: t83 :: t84 :: t85 :: t86 :: t87 :: t88 :: t89 :: t90 :: t91 :: t92 :: t93 :: t94 :: t95 :: t96 :: t97 :: t98 :: t99 :: t100 :: t101 :: t102 :: t103 :: t104 :: t105 :: []), defers := [] } V := by
  have HQ := Lib.hid hQ
  have hm1 : decide ((m : Int) ≤ (k : Int)) = true := decide_eq_true (by omega)
  have hm2 : decide (m ≤ k) = true := decide_eq_true hmk
  have da0 : ∀ w', Bk w' g7 34 (A4 (wd0 a) (wd1 a) (wd2 a) (wd3 a)) → w'.cell? ⟨g7, 0, none⟩ = some (.int .u64 ((wd0 a : Nat) : Int)) := fun w' h => h.cell 0
  have da1 : ∀ w', Bk w' g7 34 (A4 (wd0 a) (wd1 a) (wd2 a) (wd3 a)) → w'.cell? ⟨g7, 1, none⟩ = some (.int .u64 ((wd1 a : Nat) : Int)) := fun w' h => h.cell 1
  have da2 : ∀ w', Bk w' g7 34 (A4 (wd0 a) (wd1 a) (wd2 a) (wd3 a)) → w'.cell? ⟨g7, 2, none⟩ = some (.int .u64 ((wd2 a : Nat) : Int)) := fun w' h => h.cell 2
  have da3 : ∀ w', Bk w' g7 34 (A4 (wd0 a) (wd1 a) (wd2 a) (wd3 a)) → w'.cell? ⟨g7, 3, none⟩ = some (.int .u64 ((wd3 a : Nat) : Int)) := fun w' h => h.cell 3
  have db0 : ∀ w', Bk w' g9 34 (A4 (wd0 b) (wd1 b) (wd2 b) (wd3 b)) → w'.cell? ⟨g9, 0, none⟩ = some (.int .u64 ((wd0 b : Nat) : Int)) := fun w' h => h.cell 0
  have db1 : ∀ w', Bk w' g9 34 (A4 (wd0 b) (wd1 b) (wd2 b) (wd3 b)) → w'.cell? ⟨g9, 1, none⟩ = some (.int .u64 ((wd1 b : Nat) : Int)) := fun w' h => h.cell 1
  have db2 : ∀ w', Bk w' g9 34 (A4 (wd0 b) (wd1 b) (wd2 b) (wd3 b)) → w'.cell? ⟨g9, 2, none⟩ = some (.int .u64 ((wd2 b : Nat) : Int)) := fun w' h => h.cell 2
  have db3 : ∀ w', Bk w' g9 34 (A4 (wd0 b) (wd1 b) (wd2 b) (wd3 b)) → w'.cell? ⟨g9, 3, none⟩ = some (.int .u64 ((wd3 b : Nat) : Int)) := fun w' h => h.cell 3
  clear hQ
  refine wp_region_noPanic ?_
  go_region_held (fun w' => V.heap.size ≤ w'.heap.size ∧ Bk w' g7 34 (A4 (wd0 a) (wd1 a) (wd2 a) (wd3 a)) ∧ Bk w' g9 34 (A4 (wd0 b) (wd1 b) (wd2 b) (wd3 b)))
    ((refine ⟨?_, ?_, ?_⟩; (focus (first | omega | (simp; done) | (simp; omega) | (simp [World.drew]; done) | (simp [World.drew]; omega))); (focus (repeat' (first | with_reducible assumption | with_reducible exact Bk.new _ _ _ | with_reducible refine Bk.new' _ _ _ ?_ | with_reducible refine Bk.alloc ?_ _ | with_reducible refine Bk.drew ?_ | (with_reducible refine Bk.keep ?_ (by with_reducible assumption)) | (simp; done) | (simp; omega) | (simp [World.drew]; done) | (simp [World.drew]; omega)))); (focus (repeat' (first | with_reducible assumption | with_reducible exact Bk.new _ _ _ | with_reducible refine Bk.new' _ _ _ ?_ | with_reducible refine Bk.alloc ?_ _ | with_reducible refine Bk.drew ?_ | (with_reducible refine Bk.keep ?_ (by with_reducible assumption)) | (simp; done) | (simp; omega) | (simp [World.drew]; done) | (simp [World.drew]; omega))))))
    (first
    | (go_at_call 32
       with_reducible refine (HWA.out _).mono ?_
       rintro e w6 ⟨rfl, hb6⟩
       have hE6 : From V w6 := by
         refine below_step ?_ ?_ hb6
         · repeat' (first | with_reducible exact Below.refl _ _ | with_reducible assumption | with_reducible exact From.out (by with_reducible assumption) | with_reducible refine Below.drew ?_ | with_reducible refine Below.setCell ?_ ?_ _ | with_reducible refine Below.alloc ?_ ?_ _ | with_reducible exact Nat.le_refl _ | omega | (simp; done) | (simp; omega) | (simp [World.drew]; done) | (simp [World.drew]; omega))
         · first | omega | (simp; done) | (simp; omega) | (simp [World.drew]; done) | (simp [World.drew]; omega)
       have z6 := hE6.out.size
       have A6 := K7.keep hE6.out
       have B6 := K9.keep hE6.out)
    | (go_at_call 32
       with_reducible refine (HWB.out _).mono ?_
       rintro e w7 ⟨rfl, hb7⟩
       have hE7 : From V w7 := by
         refine below_step ?_ ?_ hb7
         · repeat' (first | with_reducible exact Below.refl _ _ | with_reducible assumption | with_reducible exact From.out (by with_reducible assumption) | with_reducible refine Below.drew ?_ | with_reducible refine Below.setCell ?_ ?_ _ | with_reducible refine Below.alloc ?_ ?_ _ | with_reducible exact Nat.le_refl _ | omega | (simp; done) | (simp; omega) | (simp [World.drew]; done) | (simp [World.drew]; omega))
         · first | omega | (simp; done) | (simp; omega) | (simp [World.drew]; done) | (simp [World.drew]; omega)
       have z7 := hE7.out.size
       have A7 := K7.keep hE7.out
       have B7 := K9.keep hE7.out)
    | (go_at_call 18
       with_reducible refine (HC1.out _).mono ?_
       rintro e w8 ⟨rfl, hb8⟩
       have hE8 : From V w8 := by
         refine below_step ?_ ?_ hb8
         · repeat' (first | with_reducible exact Below.refl _ _ | with_reducible assumption | with_reducible exact From.out (by with_reducible assumption) | with_reducible refine Below.drew ?_ | with_reducible refine Below.setCell ?_ ?_ _ | with_reducible refine Below.alloc ?_ ?_ _ | with_reducible exact Nat.le_refl _ | omega | (simp; done) | (simp; omega) | (simp [World.drew]; done) | (simp [World.drew]; omega))
         · first | omega | (simp; done) | (simp; omega) | (simp [World.drew]; done) | (simp [World.drew]; omega)
       have z8 := hE8.out.size
       have A8 := K7.keep hE8.out
       have B8 := K9.keep hE8.out)
    | (go_at_call 18
       with_reducible refine (HC2.out _).mono ?_
       rintro e w9 ⟨rfl, hb9⟩
       have hE9 : From V w9 := by
         refine below_step ?_ ?_ hb9
         · repeat' (first | with_reducible exact Below.refl _ _ | with_reducible assumption | with_reducible exact From.out (by with_reducible assumption) | with_reducible refine Below.drew ?_ | with_reducible refine Below.setCell ?_ ?_ _ | with_reducible refine Below.alloc ?_ ?_ _ | with_reducible exact Nat.le_refl _ | omega | (simp; done) | (simp; omega) | (simp [World.drew]; done) | (simp [World.drew]; omega))
         · first | omega | (simp; done) | (simp; omega) | (simp [World.drew]; done) | (simp [World.drew]; omega)
       have z9 := hE9.out.size
       have A9 := K7.keep hE9.out
       have B9 := K9.keep hE9.out))
  all_goals
    exact NoPanic.normal (HQ.out _ _ _ _ _ _ _ _ _ _ _ _ _ _ _ _ _ _ (by first | exact hE9.out | exact hE8.out | exact hE7.out))
end Go.Proofs.YtkhiicnahijnoaaDoor.wholeTargets
