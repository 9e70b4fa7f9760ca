/-
  A region of the law HeadBytes.
-/
import Derived.Test.YtkhiicnahijnoaaDoorHeaI
import Derived.Test.YtkhiicnahijnoaaDoorHe5C
namespace Go.Proofs.YtkhiicnahijnoaaDoor.headBytes
open Go.ChangeShapes Go.WideShapes Go.ChangeAt Go.RowKit
set_option linter.unusedVariables false

set_option maxRecDepth 100000 in
set_option maxHeartbeats 8000000 in
theorem region12 (g8 n c : Nat) (s : Option Addr) (V : World) (AY : Array Value) (ys : List Nat) (K8 : Bk V g8 26 AY) (BY : BsV V V.heap.size (.slice s n c) ys) (sy : AY.size = 68) (HYS : Hid (∀ y ∈ ys, y < 256))
    (HBK : Hid (∀ W, Calls Tryd.prog 15 #[.agg AY] W fun e w' => ∃ v', e = .returned v' ∧ MineR byR w' W.heap.size v' ys ∧ Below W.heap.size W w'))
    (t0 t2 t3 t4 t5 t6 t7 t10 t11 t12 t13 t14 t15 t16 t17 t18 t19 t20 t21 t22 t23 t24 t25 t26 t27 t28 t29 t30 t31 t32 t33 t34 t35 t36 t37 t38 t39 t40 t41 t42 t43 t44 t45 t46 t47 t48 t49 t50 t51 t52 t53 t54 t55 t56 t57 t58 t59 t60 t61 t62 t63 t64 t65 t66 t67 t68 : Value) (Q : Exit → Act → World → Prop)
    (hQ : ∀ x59 x60 x61 x62 x63 x64 x65 x66 x67 w', Below V.heap.size V w' → Q .normal { tmps := List.toArray (t0 :: Value.slice s n c :: t2 :: t3 :: Value.bool true :: t5 :: t6 :: t7 :: Value.pointer (some { block := g8, off := 0 }) :: Value.int IntKind.i64 0 :: t10 :: t11 :: t12 :: t13 :: t14 :: t15 :: t16 :: t17 :: t18 :: t19 :: t20 :: t21 :: t22 :: t23 :: t24 :: t25 :: t26 :: t27 :: t28 :: t29 :: t30 :: t31 :: t32 :: t33 :: t34 :: t35 :: t36 :: t37 :: t38 :: t39 :: t40 :: t41 :: t42 :: t43 :: t44 :: t45 :: t46 :: t47 :: t48 :: t49 :: t50 :: t51 :: t52 :: t53 :: t54 :: t55 :: t56 :: t57 :: t58 :: x59 :: x60 :: x61 :: x62 :: x63 :: x64 :: x65 :: x66 :: x67 :: Value.bool true :: []), defers := [] } w') :
    Code.wp Tryd.prog (Code.region 12 #[{ dst := some 59, op := Op.move (Operand.tmp 9), type := 37, pos := "law.go:37", after := #[], guard := none },
{ dst := some 60, op := Op.binOp BinOp.eql 37 (Operand.tmp 59) (Operand.const (Value.int IntKind.i64 0)) 37, type := 4, pos := "law.go:37", after := #[{ on := 0, ground := Ground.data }], guard := none },
{ dst := some 61, op := Op.move (Operand.tmp 60), type := 4, pos := "law.go:37", after := #[{ on := 1, ground := Ground.data }], guard := none },
{ dst := some 62, op := Op.load 26 (Operand.tmp 8), type := 26, pos := "law.go:37", after := #[{ on := 2, ground := Ground.guard }], guard := some (2, true) },
{ dst := some 63, op := Op.call { callee := Callee.value (Operand.func 15), args := #[Operand.tmp 62], argTypes := #[26] }, type := 28, pos := "law.go:37", after := #[{ on := 3, ground := Ground.data }, { on := 2, ground := Ground.chain }, { on := 2, ground := Ground.guard }], guard := some (2, true) },
{ dst := some 64, op := Op.convert 28 9 (Operand.tmp 63), type := 9, pos := "law.go:37", after := #[{ on := 4, ground := Ground.data }, { on := 2, ground := Ground.guard }], guard := some (2, true) },
{ dst := some 65, op := Op.move (Operand.tmp 1), type := 28, pos := "law.go:37", after := #[{ on := 2, ground := Ground.guard }], guard := some (2, true) },
{ dst := some 66, op := Op.convert 28 9 (Operand.tmp 65), type := 9, pos := "law.go:37", after := #[{ on := 6, ground := Ground.data }, { on := 2, ground := Ground.guard }], guard := some (2, true) },
{ dst := some 67, op := Op.binOp BinOp.eql 9 (Operand.tmp 64) (Operand.tmp 66) 9, type := 4, pos := "law.go:37", after := #[{ on := 5, ground := Ground.data }, { on := 7, ground := Ground.data }, { on := 2, ground := Ground.guard }], guard := some (2, true) },
{ dst := some 68, op := Op.pick (Operand.tmp 61) (Operand.tmp 67) (Operand.const (Value.bool false)), type := 4, pos := "law.go:37", after := #[{ on := 2, ground := Ground.data }, { on := 8, ground := Ground.data }], guard := none },
{ dst := some 4, op := Op.assign (Operand.tmp 68), type := 4, pos := "law.go:37", after := #[{ on := 9, ground := Ground.data }, { on := 4, ground := Ground.chain }, { on := 0, ground := Ground.phase }, { on := 1, ground := Ground.phase }, { on := 2, ground := Ground.phase }, { on := 3, ground := Ground.phase }, { on := 4, ground := Ground.phase }, { on := 5, ground := Ground.phase }, { on := 6, ground := Ground.phase }, { on := 7, ground := Ground.phase }, { on := 8, ground := Ground.phase }, { on := 9, ground := Ground.phase }], guard := none }] true) Q { tmps := List.toArray (t0 :: Value.slice s n c :: t2 :: t3 :: t4 :: t5 :: t6 :: t7 :: Value.pointer (some { block := g8, off := 0 }) :: Value.int IntKind.i64 0 :: t10 :: t11 :: t12 :: t13 :: t14 :: t15 :: t16 :: t17 :: t18 :: t19 :: t20 :: t21 :: t22 :: t23 :: t24 :: t25 :: t26 :: t27 :: t28 :: t29 :: t30 :: t31 :: t32 :: t33 :: t34 :: t35 :: t36 :: t37 :: t38 :: t39 :: t40 :: t41 :: t42 :: t43 :: t44 :: t45 :: t46 :: t47 :: t48 :: t49 :: t50 :: t51 :: t52 :: t53 :: t54 :: t55 :: t56 :: t57 :: t58 :: t59 :: t60 :: t61 :: t62 :: t63 :: t64 :: t65 :: t66 :: t67 :: t68 :: []), defers := [] } V := by
  have h8v := K8.lt
  have HQ := Lib.hid hQ
  obtain ⟨tl, htl⟩ : ∃ tl : TypeId, tl = 26 := ⟨_, rfl⟩
  obtain ⟨sz, hsz0⟩ : ∃ sz : Nat, sz = 68 := ⟨_, rfl⟩
  have hag : ∀ w, (isAgg tl).run Tryd.prog w = .ok true w := by rw [htl]; exact hd_agg
  have hsz : ∀ w, (sizeOf tl).run Tryd.prog w = .ok sz w := by rw [htl, hsz0]; exact hd_size
  have hlA : ∀ w', Bk w' g8 26 AY → (loadCellsFrom ⟨g8, 0, none⟩ 0 sz #[]).run Tryd.prog w' = .ok AY w' := by rw [hsz0]; exact fun w' h => hd_load h sy
  obtain ⟨S, hS⟩ : ∃ S, strN ys = S := ⟨_, rfl⟩
  have hcx : ∀ w', BsV w' V.heap.size (.slice s n c) ys → (convert 28 9 (.slice s n c)).run Tryd.prog w' = .ok (.string S) w' := fun w' h => by rw [← hS]; exact conv_bs h
  have HS := Lib.hid hS
  simp only [show ∀ z, Op.load 26 z = Op.load tl z from fun z => by rw [htl]]
  clear htl hsz0 hS hQ
  refine wp_region_noPanic ?_
  go_region_held (fun w' => V.heap.size ≤ w'.heap.size ∧ Bk w' g8 26 AY ∧ BsV w' V.heap.size (.slice s n c) ys)
    ((refine ⟨?_, ?_, ?_⟩; (focus (first | omega | (simp; done) | (simp; omega) | (simp [World.drew]; done) | (simp [World.drew]; omega))); (focus (repeat' (first | with_reducible assumption | with_reducible exact Bk.new _ _ _ | with_reducible refine Bk.new' _ _ _ ?_ | with_reducible refine Bk.alloc ?_ _ | with_reducible refine Bk.drew ?_ | (with_reducible refine Bk.keep ?_ (by with_reducible assumption)) | (simp; done) | (simp; omega) | (simp [World.drew]; done) | (simp [World.drew]; omega)))); (focus (first | with_reducible assumption | (refine BY.keep (C := V.heap.size) ?_ (Nat.le_refl _); repeat' (first | with_reducible exact Below.refl _ _ | with_reducible assumption | with_reducible exact From.out (by with_reducible assumption) | with_reducible refine Below.drew ?_ | with_reducible refine Below.setCell ?_ ?_ _ | with_reducible refine Below.alloc ?_ ?_ _ | with_reducible exact Nat.le_refl _ | omega | (simp; done) | (simp; omega) | (simp [World.drew]; done) | (simp [World.drew]; omega)))))))
    ((go_at_call 15
      with_reducible refine (HBK.out _).mono ?_
      rintro e w6 ⟨v6, rfl, M6, hb6⟩
      have hE6 : From V w6 := by
        refine below_step ?_ ?_ hb6
        · repeat' (first | with_reducible exact Below.refl _ _ | with_reducible assumption | with_reducible exact From.out (by with_reducible assumption) | with_reducible refine Below.drew ?_ | with_reducible refine Below.setCell ?_ ?_ _ | with_reducible refine Below.alloc ?_ ?_ _ | with_reducible exact Nat.le_refl _ | omega | (simp; done) | (simp; omega) | (simp [World.drew]; done) | (simp [World.drew]; omega))
        · first | omega | (simp; done) | (simp; omega) | (simp [World.drew]; done) | (simp [World.drew]; omega)
      have z6 := hE6.out.size
      have A6 := K8.keep hE6.out
      have B6 := BY.keep hE6.out (Nat.le_refl _)
      have q6 := conv_bs (M6.bs HYS.out)
      rw [HS.out] at q6
      obtain ⟨s6, c6, e6⟩ := M6.slice
      subst e6))
  all_goals
    exact NoPanic.normal (HQ.out _ _ _ _ _ _ _ _ _ _ hE6.out)
end Go.Proofs.YtkhiicnahijnoaaDoor.headBytes
