/-
  A region of the law HeadBytes.
-/
import Derived.Test.YtkhiicnahijnoaaDoorHeaI
import Derived.Test.YtkhiicnahijnoaaDoorHe5C
namespace Go.Proofs.YtkhiicnahijnoaaDoor.headBytes
open Go.ChangeShapes Go.WideShapes Go.ChangeAt Go.RowKit
set_option linter.unusedVariables false

set_option maxRecDepth 100000 in
set_option maxHeartbeats 8000000 in
theorem region7 (ga g6 c2 : Nat) (s2 : Option Addr) (V : World) (A I : Array Value) (X : List Nat) (S : ByteArray) (HLV : Hid (Laid V)) (KA : Bk V ga 26 A) (K6 : Bk V g6 26 A) (BX3 : BsV V g6 (.slice s2 80 c2) X) (sa : A.size = 68) (hS : strN X = S)
    (HR5 : Hid (∀ W, Calls Tryd.prog 21 #[.agg A] W fun e w' => e = .returned (.string S) ∧ Below W.heap.size W w'))
    (HTW : Hid (∀ W, Calls Tryd.prog 23 #[.string S] W fun e w' => e = .returned (.agg I) ∧ Below W.heap.size W w'))
    (HID : Hid (∀ W, Laid W → Calls Tryd.prog 22 #[.agg A] W fun e w' => e = .returned (.agg I) ∧ Below W.heap.size W w'))
    (heqA : ∀ W, (Op.equalIn 10000 26 (.agg A) (.agg A)).run Tryd.prog W = .ok true W) (heqI : ∀ W, (Op.equalIn 10000 24 (.agg I) (.agg I)).run Tryd.prog W = .ok true W)
    (t0 t1 t3 t4 t8 t9 t10 t11 t12 t13 t14 t15 t16 t17 t18 t19 t20 t21 t22 t23 t24 t25 t26 t27 t28 t29 t30 t31 t32 t33 t34 t35 t36 t37 t38 t39 t40 t41 t42 t43 t44 t45 t46 t47 t48 t49 t50 t51 t52 t53 t54 t55 t56 t57 t58 t59 t60 t61 t62 t63 t64 t65 t66 t67 t68 : Value) (Q : Exit → Act → World → Prop)
    (hQ : ∀ x22 x23 x24 x25 x26 x27 x28 x29 x30 x31 x32 x33 x34 x35 x36 x37 x38 x39 x40 x41 x42 w', Below V.heap.size V w' → Q .normal { tmps := List.toArray (t0 :: t1 :: Value.pointer (some { block := ga, off := 0 }) :: t3 :: t4 :: Value.slice s2 80 c2 :: Value.pointer (some { block := g6, off := 0 }) :: Value.int IntKind.i64 0 :: t8 :: t9 :: t10 :: t11 :: t12 :: t13 :: t14 :: t15 :: t16 :: t17 :: t18 :: t19 :: t20 :: t21 :: x22 :: x23 :: x24 :: x25 :: x26 :: x27 :: x28 :: x29 :: x30 :: x31 :: x32 :: x33 :: x34 :: x35 :: x36 :: x37 :: x38 :: x39 :: x40 :: x41 :: x42 :: Value.bool false :: t44 :: t45 :: t46 :: t47 :: t48 :: t49 :: t50 :: t51 :: t52 :: t53 :: t54 :: t55 :: t56 :: t57 :: t58 :: t59 :: t60 :: t61 :: t62 :: t63 :: t64 :: t65 :: t66 :: t67 :: t68 :: []), defers := [] } w') :
    Code.wp Tryd.prog (Code.region 7 #[{ dst := some 22, op := Op.move (Operand.tmp 5), type := 28, pos := "law.go:30", after := #[], guard := none },
{ dst := some 23, op := Op.convert 28 9 (Operand.tmp 22), type := 9, pos := "law.go:30", after := #[{ on := 0, ground := Ground.data }], guard := none },
{ dst := some 24, op := Op.load 26 (Operand.tmp 2), type := 26, pos := "law.go:30", after := #[], guard := none },
{ dst := some 25, op := Op.call { callee := Callee.value (Operand.func 21), args := #[Operand.tmp 24], argTypes := #[26] }, type := 9, pos := "law.go:30", after := #[{ on := 2, ground := Ground.data }], guard := none },
{ dst := some 26, op := Op.binOp BinOp.neq 9 (Operand.tmp 23) (Operand.tmp 25) 9, type := 4, pos := "law.go:30", after := #[{ on := 1, ground := Ground.data }, { on := 3, ground := Ground.data }], guard := none },
{ dst := some 27, op := Op.move (Operand.tmp 26), type := 4, pos := "law.go:30", after := #[{ on := 4, ground := Ground.data }, { on := 3, ground := Ground.chain }], guard := none },
{ dst := some 28, op := Op.move (Operand.tmp 7), type := 37, pos := "law.go:30", after := #[{ on := 5, ground := Ground.guard }], guard := some (5, false) },
{ dst := some 29, op := Op.binOp BinOp.neq 37 (Operand.tmp 28) (Operand.const (Value.int IntKind.i64 0)) 37, type := 4, pos := "law.go:30", after := #[{ on := 6, ground := Ground.data }, { on := 5, ground := Ground.guard }], guard := some (5, false) },
{ dst := some 30, op := Op.pick (Operand.tmp 27) (Operand.const (Value.bool true)) (Operand.tmp 29), type := 4, pos := "law.go:30", after := #[{ on := 5, ground := Ground.data }, { on := 7, ground := Ground.data }], guard := none },
{ dst := some 31, op := Op.move (Operand.tmp 30), type := 4, pos := "law.go:30", after := #[{ on := 8, ground := Ground.data }, { on := 5, ground := Ground.chain }], guard := none },
{ dst := some 32, op := Op.load 26 (Operand.tmp 6), type := 26, pos := "law.go:30", after := #[{ on := 9, ground := Ground.guard }], guard := some (9, false) },
{ dst := some 33, op := Op.load 26 (Operand.tmp 2), type := 26, pos := "law.go:30", after := #[{ on := 9, ground := Ground.guard }], guard := some (9, false) },
{ dst := some 34, op := Op.binOp BinOp.neq 26 (Operand.tmp 32) (Operand.tmp 33) 26, type := 4, pos := "law.go:30", after := #[{ on := 10, ground := Ground.data }, { on := 11, ground := Ground.data }, { on := 9, ground := Ground.guard }], guard := some (9, false) },
{ dst := some 35, op := Op.pick (Operand.tmp 31) (Operand.const (Value.bool true)) (Operand.tmp 34), type := 4, pos := "law.go:30", after := #[{ on := 9, ground := Ground.data }, { on := 12, ground := Ground.data }], guard := none },
{ dst := some 36, op := Op.move (Operand.tmp 35), type := 4, pos := "law.go:30", after := #[{ on := 13, ground := Ground.data }, { on := 9, ground := Ground.chain }], guard := none },
{ dst := some 37, op := Op.load 26 (Operand.tmp 2), type := 26, pos := "law.go:30", after := #[{ on := 14, ground := Ground.guard }], guard := some (14, false) },
{ dst := some 38, op := Op.call { callee := Callee.value (Operand.func 22), args := #[Operand.tmp 37], argTypes := #[26] }, type := 24, pos := "law.go:30", after := #[{ on := 15, ground := Ground.data }, { on := 14, ground := Ground.chain }, { on := 14, ground := Ground.guard }], guard := some (14, false) },
{ dst := some 39, op := Op.move (Operand.tmp 5), type := 28, pos := "law.go:30", after := #[{ on := 14, ground := Ground.guard }], guard := some (14, false) },
{ dst := some 40, op := Op.convert 28 9 (Operand.tmp 39), type := 9, pos := "law.go:30", after := #[{ on := 17, ground := Ground.data }, { on := 14, ground := Ground.guard }], guard := some (14, false) },
{ dst := some 41, op := Op.call { callee := Callee.value (Operand.func 23), args := #[Operand.tmp 40], argTypes := #[9] }, type := 23, pos := "law.go:30", after := #[{ on := 18, ground := Ground.data }, { on := 16, ground := Ground.chain }, { on := 14, ground := Ground.guard }], guard := some (14, false) },
{ dst := some 42, op := Op.binOp BinOp.neq 24 (Operand.tmp 38) (Operand.tmp 41) 24, type := 4, pos := "law.go:30", after := #[{ on := 16, ground := Ground.data }, { on := 19, ground := Ground.data }, { on := 14, ground := Ground.guard }], guard := some (14, false) },
{ dst := some 43, op := Op.pick (Operand.tmp 36) (Operand.const (Value.bool true)) (Operand.tmp 42), type := 4, pos := "law.go:30", after := #[{ on := 14, ground := Ground.data }, { on := 20, ground := Ground.data }], guard := none }] true) Q { tmps := List.toArray (t0 :: t1 :: Value.pointer (some { block := ga, off := 0 }) :: t3 :: t4 :: Value.slice s2 80 c2 :: Value.pointer (some { block := g6, off := 0 }) :: Value.int IntKind.i64 0 :: t8 :: t9 :: t10 :: t11 :: t12 :: t13 :: t14 :: t15 :: t16 :: t17 :: t18 :: t19 :: t20 :: t21 :: t22 :: t23 :: t24 :: t25 :: t26 :: t27 :: t28 :: t29 :: t30 :: t31 :: t32 :: t33 :: t34 :: t35 :: t36 :: t37 :: t38 :: t39 :: t40 :: t41 :: t42 :: t43 :: t44 :: t45 :: t46 :: t47 :: t48 :: t49 :: t50 :: t51 :: t52 :: t53 :: t54 :: t55 :: t56 :: t57 :: t58 :: t59 :: t60 :: t61 :: t62 :: t63 :: t64 :: t65 :: t66 :: t67 :: t68 :: []), defers := [] } V := by
  have h6v := K6.lt
  have HQ := Lib.hid hQ
  obtain ⟨tl, htl⟩ : ∃ tl : TypeId, tl = 26 := ⟨_, rfl⟩
  obtain ⟨sz, hsz0⟩ : ∃ sz : Nat, sz = 68 := ⟨_, rfl⟩
  have hag : ∀ w, (isAgg tl).run Tryd.prog w = .ok true w := by rw [htl]; exact hd_agg
  have hsz : ∀ w, (sizeOf tl).run Tryd.prog w = .ok sz w := by rw [htl, hsz0]; exact hd_size
  have hlA : ∀ w', Bk w' ga 26 A → (loadCellsFrom ⟨ga, 0, none⟩ 0 sz #[]).run Tryd.prog w' = .ok A w' := by rw [hsz0]; exact fun w' h => hd_load h sa
  have hl6 : ∀ w', Bk w' g6 26 A → (loadCellsFrom ⟨g6, 0, none⟩ 0 sz #[]).run Tryd.prog w' = .ok A w' := by rw [hsz0]; exact fun w' h => hd_load h sa
  have hcx : ∀ w', BsV w' g6 (.slice s2 80 c2) X → (convert 28 9 (.slice s2 80 c2)).run Tryd.prog w' = .ok (.string S) w' := fun w' h => by rw [← hS]; exact conv_bs h
  simp only [show ∀ z, Op.load 26 z = Op.load tl z from fun z => by rw [htl]]
  clear htl hsz0 hS hQ
  refine wp_region_noPanic ?_
  go_region_held (fun w' => V.heap.size ≤ w'.heap.size ∧ Bk w' ga 26 A ∧ Bk w' g6 26 A ∧ BsV w' g6 (.slice s2 80 c2) X)
    ((refine ⟨?_, ?_, ?_, ?_⟩; (focus (first | omega | (simp; done) | (simp; omega) | (simp [World.drew]; done) | (simp [World.drew]; omega))); (focus (repeat' (first | with_reducible assumption | with_reducible exact Bk.new _ _ _ | with_reducible refine Bk.new' _ _ _ ?_ | with_reducible refine Bk.alloc ?_ _ | with_reducible refine Bk.drew ?_ | (with_reducible refine Bk.keep ?_ (by with_reducible assumption)) | (simp; done) | (simp; omega) | (simp [World.drew]; done) | (simp [World.drew]; omega)))); (focus (repeat' (first | with_reducible assumption | with_reducible exact Bk.new _ _ _ | with_reducible refine Bk.new' _ _ _ ?_ | with_reducible refine Bk.alloc ?_ _ | with_reducible refine Bk.drew ?_ | (with_reducible refine Bk.keep ?_ (by with_reducible assumption)) | (simp; done) | (simp; omega) | (simp [World.drew]; done) | (simp [World.drew]; omega)))); (focus (first | with_reducible assumption | (refine BX3.keep (C := V.heap.size) ?_ (Nat.le_of_lt h6v); repeat' (first | with_reducible exact Below.refl _ _ | with_reducible assumption | with_reducible exact From.out (by with_reducible assumption) | with_reducible refine Below.drew ?_ | with_reducible refine Below.setCell ?_ ?_ _ | with_reducible refine Below.alloc ?_ ?_ _ | with_reducible exact Nat.le_refl _ | omega | (simp; done) | (simp; omega) | (simp [World.drew]; done) | (simp [World.drew]; omega)))))))
    (first
    | (go_at_call 21
       with_reducible refine (HR5.out _).mono ?_
       rintro e w6 ⟨rfl, hb6⟩
       have hE6 : From V w6 := by
         refine below_step ?_ ?_ hb6
         · repeat' (first | with_reducible exact Below.refl _ _ | with_reducible assumption | with_reducible exact From.out (by with_reducible assumption) | with_reducible refine Below.drew ?_ | with_reducible refine Below.setCell ?_ ?_ _ | with_reducible refine Below.alloc ?_ ?_ _ | with_reducible exact Nat.le_refl _ | omega | (simp; done) | (simp; omega) | (simp [World.drew]; done) | (simp [World.drew]; omega))
         · first | omega | (simp; done) | (simp; omega) | (simp [World.drew]; done) | (simp [World.drew]; omega)
       have z6 := hE6.out.size
       have A6 := KA.keep hE6.out
       have B6 := K6.keep hE6.out
       have X6 := BX3.keep hE6.out (Nat.le_of_lt h6v))
    | (go_at_call 22
       with_reducible refine (HID.out _ ?_).mono ?_
       · refine HLV.out.keep ?_
         repeat' (first | with_reducible exact Below.refl _ _ | with_reducible assumption | with_reducible exact From.out (by with_reducible assumption) | with_reducible refine Below.drew ?_ | with_reducible refine Below.setCell ?_ ?_ _ | with_reducible refine Below.alloc ?_ ?_ _ | with_reducible exact Nat.le_refl _ | omega | (simp; done) | (simp; omega) | (simp [World.drew]; done) | (simp [World.drew]; omega))
       rintro e w7 ⟨rfl, hb7⟩
       have hE7 : From V w7 := by
         refine below_step ?_ ?_ hb7
         · repeat' (first | with_reducible exact Below.refl _ _ | with_reducible assumption | with_reducible exact From.out (by with_reducible assumption) | with_reducible refine Below.drew ?_ | with_reducible refine Below.setCell ?_ ?_ _ | with_reducible refine Below.alloc ?_ ?_ _ | with_reducible exact Nat.le_refl _ | omega | (simp; done) | (simp; omega) | (simp [World.drew]; done) | (simp [World.drew]; omega))
         · first | omega | (simp; done) | (simp; omega) | (simp [World.drew]; done) | (simp [World.drew]; omega)
       have z7 := hE7.out.size
       have A7 := KA.keep hE7.out
       have B7 := K6.keep hE7.out
       have X7 := BX3.keep hE7.out (Nat.le_of_lt h6v))
    | (go_at_call 23
       with_reducible refine (HTW.out _).mono ?_
       rintro e w8 ⟨rfl, hb8⟩
       have hE8 : From V w8 := by
         refine below_step ?_ ?_ hb8
         · repeat' (first | with_reducible exact Below.refl _ _ | with_reducible assumption | with_reducible exact From.out (by with_reducible assumption) | with_reducible refine Below.drew ?_ | with_reducible refine Below.setCell ?_ ?_ _ | with_reducible refine Below.alloc ?_ ?_ _ | with_reducible exact Nat.le_refl _ | omega | (simp; done) | (simp; omega) | (simp [World.drew]; done) | (simp [World.drew]; omega))
         · first | omega | (simp; done) | (simp; omega) | (simp [World.drew]; done) | (simp [World.drew]; omega)
       have z8 := hE8.out.size
       have A8 := KA.keep hE8.out
       have B8 := K6.keep hE8.out
       have X8 := BX3.keep hE8.out (Nat.le_of_lt h6v)))
  all_goals
    exact NoPanic.normal (HQ.out _ _ _ _ _ _ _ _ _ _ _ _ _ _ _ _ _ _ _ _ _ _ hE8.out)
end Go.Proofs.YtkhiicnahijnoaaDoor.headBytes
