/-
  Texts in one: FlA, FlB, FlC, FlI, FlW.
-/
import Derived.Test.YtljfhabhenaapaaDoorSkW
import Derived.Deep.RegionHeld3
namespace Go.Proofs.YtljfhabhenaapaaDoor
open Go.RowKit
set_option linter.unusedVariables false
set_option linter.unusedSimpArgs false
set_option maxRecDepth 100000
set_option maxRecDepth 100000 in
set_option maxHeartbeats 16000000 in
theorem fail8a (p b n : Nat) (i : Nat) (V : World) (t2 t3 t4 t5 t8 t9 t10 t11 t12 t13 t14 t15 t16 t17 t18 t19 t20 t21 t22 t23 t24 t25 t26 t27 t28 t29 t30 t31 t32 t33 t34 t35 t36 t37 t38 t39 t40 t41 t42 t43 t44 t45 t46 t47 t48 t49 t50 t51 t52 t53 t54 t55 t56 t57 t58 t59 t60 : Value) (Q : Exit → Act → World → Prop) (zp : p < V.heap.size) (zb : b < V.heap.size) (HCF : Hid (V.cell? ⟨b, n * 108 + 107, none⟩ = some (.bool true))) (HQ : Hid (∀ (x32 x33 x34 x35 x36 x37 x38 x39 x40 x41 x42 x43 x44 x45 x46 x47 x48 x49 x50 x51 x52 x53 : Value)  (w' : World), w' = V.drew → Q .normal { tmps := List.toArray (.pointer (some ⟨p, 0, none⟩) :: .int .i64 (i : Int) :: t2 :: t3 :: t4 :: t5 :: .int .i64 (n : Int) :: .pointer (some ⟨b, n * 108, none⟩) :: t8 :: t9 :: t10 :: t11 :: t12 :: t13 :: t14 :: t15 :: t16 :: t17 :: t18 :: t19 :: t20 :: t21 :: t22 :: t23 :: t24 :: t25 :: t26 :: t27 :: t28 :: t29 :: t30 :: t31 :: x32 :: x33 :: x34 :: x35 :: x36 :: x37 :: x38 :: x39 :: x40 :: x41 :: x42 :: x43 :: x44 :: x45 :: x46 :: x47 :: x48 :: x49 :: x50 :: x51 :: x52 :: x53 :: .bool false :: t55 :: t56 :: t57 :: t58 :: t59 :: t60 :: []), defers := [] } w')) :
    Code.wp Tryd.prog (Code.region 8 #[{ dst := some 32, op := Op.move (Operand.tmp 7), type := 85, pos := "index.go:187", after := #[], guard := none },
{ dst := some 33, op := Op.nilCheck (Operand.tmp 32), type := 0, pos := "index.go:187", after := #[{ on := 0, ground := Ground.data }], guard := none },
{ dst := some 34, op := Op.fieldAddr 45 (Operand.tmp 33) 6, type := 0, pos := "index.go:187", after := #[{ on := 1, ground := Ground.data }], guard := none },
{ dst := some 35, op := Op.load 4 (Operand.tmp 34), type := 4, pos := "index.go:187", after := #[{ on := 2, ground := Ground.data }], guard := none },
{ dst := some 36, op := Op.unOp UnOp.not 4 (Operand.tmp 35), type := 4, pos := "index.go:187", after := #[{ on := 3, ground := Ground.data }], guard := none },
{ dst := some 37, op := Op.move (Operand.tmp 36), type := 4, pos := "index.go:187", after := #[{ on := 4, ground := Ground.data }], guard := none },
{ dst := some 38, op := Op.move (Operand.tmp 6), type := 3, pos := "index.go:187", after := #[{ on := 5, ground := Ground.guard }], guard := some (5, true) },
{ dst := some 39, op := Op.move (Operand.tmp 1), type := 3, pos := "index.go:187", after := #[{ on := 5, ground := Ground.guard }], guard := some (5, true) },
{ dst := some 40, op := Op.binOp BinOp.eql 3 (Operand.tmp 38) (Operand.tmp 39) 3, type := 4, pos := "index.go:187", after := #[{ on := 6, ground := Ground.data }, { on := 7, ground := Ground.data }, { on := 5, ground := Ground.guard }], guard := some (5, true) },
{ dst := some 41, op := Op.move (Operand.tmp 40), type := 4, pos := "index.go:187", after := #[{ on := 8, ground := Ground.data }, { on := 5, ground := Ground.chain }, { on := 5, ground := Ground.guard }], guard := some (5, true) },
{ dst := some 42, op := Op.move (Operand.tmp 0), type := 24, pos := "index.go:187", after := #[{ on := 9, ground := Ground.guard }], guard := some (9, false) },
{ dst := some 43, op := Op.nilCheck (Operand.tmp 42), type := 0, pos := "index.go:187", after := #[{ on := 10, ground := Ground.data }, { on := 9, ground := Ground.guard }], guard := some (9, false) },
{ dst := some 44, op := Op.fieldAddr 76 (Operand.tmp 43) 1, type := 0, pos := "index.go:187", after := #[{ on := 11, ground := Ground.data }, { on := 9, ground := Ground.guard }], guard := some (9, false) },
{ dst := some 45, op := Op.load 74 (Operand.tmp 44), type := 74, pos := "index.go:187", after := #[{ on := 12, ground := Ground.data }, { on := 9, ground := Ground.guard }], guard := some (9, false) },
{ dst := some 46, op := Op.move (Operand.tmp 7), type := 85, pos := "index.go:187", after := #[{ on := 9, ground := Ground.guard }], guard := some (9, false) },
{ dst := some 47, op := Op.nilCheck (Operand.tmp 46), type := 0, pos := "index.go:187", after := #[{ on := 14, ground := Ground.data }, { on := 9, ground := Ground.guard }], guard := some (9, false) },
{ dst := some 48, op := Op.fieldAddr 45 (Operand.tmp 47) 2, type := 0, pos := "index.go:187", after := #[{ on := 15, ground := Ground.data }, { on := 9, ground := Ground.guard }], guard := some (9, false) },
{ dst := some 49, op := Op.load 3 (Operand.tmp 48), type := 3, pos := "index.go:187", after := #[{ on := 16, ground := Ground.data }, { on := 9, ground := Ground.guard }], guard := some (9, false) },
{ dst := some 50, op := Op.indexAddr 74 (Operand.tmp 45) (Operand.tmp 49), type := 0, pos := "index.go:187", after := #[{ on := 13, ground := Ground.data }, { on := 17, ground := Ground.data }, { on := 9, ground := Ground.guard }], guard := some (9, false) },
{ dst := some 51, op := Op.fieldAddr 45 (Operand.tmp 50) 6, type := 0, pos := "index.go:187", after := #[{ on := 18, ground := Ground.data }, { on := 9, ground := Ground.guard }], guard := some (9, false) },
{ dst := some 52, op := Op.load 4 (Operand.tmp 51), type := 4, pos := "index.go:187", after := #[{ on := 19, ground := Ground.data }, { on := 9, ground := Ground.guard }], guard := some (9, false) },
{ dst := some 53, op := Op.pick (Operand.tmp 41) (Operand.const (Value.bool true)) (Operand.tmp 52), type := 4, pos := "index.go:187", after := #[{ on := 9, ground := Ground.data }, { on := 20, ground := Ground.data }, { on := 5, ground := Ground.guard }], guard := some (5, true) },
{ dst := some 54, op := Op.pick (Operand.tmp 37) (Operand.tmp 53) (Operand.const (Value.bool false)), type := 4, pos := "index.go:187", after := #[{ on := 5, ground := Ground.data }, { on := 21, ground := Ground.data }], guard := none }] true) Q { tmps := List.toArray (.pointer (some ⟨p, 0, none⟩) :: .int .i64 (i : Int) :: t2 :: t3 :: t4 :: t5 :: .int .i64 (n : Int) :: .pointer (some ⟨b, n * 108, none⟩) :: t8 :: t9 :: t10 :: t11 :: t12 :: t13 :: t14 :: t15 :: t16 :: t17 :: t18 :: t19 :: t20 :: t21 :: t22 :: t23 :: t24 :: t25 :: t26 :: t27 :: t28 :: t29 :: t30 :: t31 :: t32 :: t33 :: t34 :: t35 :: t36 :: t37 :: t38 :: t39 :: t40 :: t41 :: t42 :: t43 :: t44 :: t45 :: t46 :: t47 :: t48 :: t49 :: t50 :: t51 :: t52 :: t53 :: t54 :: t55 :: t56 :: t57 :: t58 :: t59 :: t60 :: []), defers := [] } V := by
  refine wp_region_noPanic ?_
  refine wp_region_held_drew (S := (fun w' => Below V.heap.size V w')) (by kernel_rfl) ((Below.refl _ _).drew) (fun hHeld => ?_)
  have hB : Below V.heap.size V V.drew := ((Below.refl _ _).drew)
  show wpAnyH _ _ _ _ _ 23 _ _ _
  refine wpAnyH_take (i := 0) (oi := { dst := some 32, op := Op.move (Operand.tmp 7), type := 85, pos := "index.go:187", after := #[], guard := none }) (v := .pointer (some ⟨b, n * 108, none⟩)) rfl (by kernel_rfl) (by kernel_rfl) (by kernel_rfl) (fun _ _ _ h => h) ?_ hB ?_
  · (refine Or.inl ⟨by kernel_rfl, ?_⟩; intro w hSw; go_simp)
  simp only [Act.put, List.setIfInBounds_toArray, List.set_cons_zero, List.set_cons_succ]
  refine wpAnyH_take (i := 1) (oi := { dst := some 33, op := Op.nilCheck (Operand.tmp 32), type := 0, pos := "index.go:187", after := #[{ on := 0, ground := Ground.data }], guard := none }) (v := .pointer (some ⟨b, n * 108, none⟩)) rfl (by kernel_rfl) (by kernel_rfl) (by kernel_rfl) (fun _ _ _ h => h) ?_ hB ?_
  · (refine Or.inl ⟨by kernel_rfl, ?_⟩; intro w hSw; have hzp := Nat.lt_of_lt_of_le zp hSw.size; have hzb := Nat.lt_of_lt_of_le zb hSw.size; go_simp)
  simp only [Act.put, List.setIfInBounds_toArray, List.set_cons_zero, List.set_cons_succ]
  refine wpAnyH_take (i := 2) (oi := { dst := some 34, op := Op.fieldAddr 45 (Operand.tmp 33) 6, type := 0, pos := "index.go:187", after := #[{ on := 1, ground := Ground.data }], guard := none }) (v := .pointer (some ⟨b, n * 108 + 107, none⟩)) rfl (by kernel_rfl) (by kernel_rfl) (by kernel_rfl) (fun _ _ _ h => h) ?_ hB ?_
  · (refine Or.inl ⟨by kernel_rfl, ?_⟩; intro w hSw; have hzp := Nat.lt_of_lt_of_le zp hSw.size; have hzb := Nat.lt_of_lt_of_le zb hSw.size; go_simp)
  simp only [Act.put, List.setIfInBounds_toArray, List.set_cons_zero, List.set_cons_succ]
  refine wpAnyH_take (i := 3) (oi := { dst := some 35, op := Op.load 4 (Operand.tmp 34), type := 4, pos := "index.go:187", after := #[{ on := 2, ground := Ground.data }], guard := none }) (v := .bool true) rfl (by kernel_rfl) (by kernel_rfl) (by kernel_rfl) (fun _ _ _ h => h) ?_ hB ?_
  · (refine Or.inl ⟨by kernel_rfl, ?_⟩; intro w hSw; have hzp := Nat.lt_of_lt_of_le zp hSw.size; have hzb := Nat.lt_of_lt_of_le zb hSw.size; have c1 := (hSw.cell (p := ⟨b, n * 108 + 107, none⟩) zb).trans HCF.out; go_simp)
  simp only [Act.put, List.setIfInBounds_toArray, List.set_cons_zero, List.set_cons_succ]
  refine wpAnyH_take (i := 4) (oi := { dst := some 36, op := Op.unOp UnOp.not 4 (Operand.tmp 35), type := 4, pos := "index.go:187", after := #[{ on := 3, ground := Ground.data }], guard := none }) (v := .bool false) rfl (by kernel_rfl) (by kernel_rfl) (by kernel_rfl) (fun _ _ _ h => h) ?_ hB ?_
  · (refine Or.inl ⟨by kernel_rfl, ?_⟩; intro w hSw; go_simp)
  simp only [Act.put, List.setIfInBounds_toArray, List.set_cons_zero, List.set_cons_succ]
  refine wpAnyH_take (i := 5) (oi := { dst := some 37, op := Op.move (Operand.tmp 36), type := 4, pos := "index.go:187", after := #[{ on := 4, ground := Ground.data }], guard := none }) (v := .bool false) rfl (by kernel_rfl) (by kernel_rfl) (by kernel_rfl) (fun _ _ _ h => h) ?_ hB ?_
  · (refine Or.inl ⟨by kernel_rfl, ?_⟩; intro w hSw; go_simp)
  simp only [Act.put, List.setIfInBounds_toArray, List.set_cons_zero, List.set_cons_succ]
  refine wpAnyH_take (i := 6) (oi := { dst := some 38, op := Op.move (Operand.tmp 6), type := 3, pos := "index.go:187", after := #[{ on := 5, ground := Ground.guard }], guard := some (5, true) }) (v := undef) rfl (by kernel_rfl) (by kernel_rfl) (by kernel_rfl) (fun _ _ _ h => h) ?_ hB ?_
  · (exact Or.inr ⟨by kernel_rfl, rfl⟩)
  simp only [Act.put, List.setIfInBounds_toArray, List.set_cons_zero, List.set_cons_succ]
  refine wpAnyH_take (i := 7) (oi := { dst := some 39, op := Op.move (Operand.tmp 1), type := 3, pos := "index.go:187", after := #[{ on := 5, ground := Ground.guard }], guard := some (5, true) }) (v := undef) rfl (by kernel_rfl) (by kernel_rfl) (by kernel_rfl) (fun _ _ _ h => h) ?_ hB ?_
  · (exact Or.inr ⟨by kernel_rfl, rfl⟩)
  simp only [Act.put, List.setIfInBounds_toArray, List.set_cons_zero, List.set_cons_succ]
  refine wpAnyH_take (i := 8) (oi := { dst := some 40, op := Op.binOp BinOp.eql 3 (Operand.tmp 38) (Operand.tmp 39) 3, type := 4, pos := "index.go:187", after := #[{ on := 6, ground := Ground.data }, { on := 7, ground := Ground.data }, { on := 5, ground := Ground.guard }], guard := some (5, true) }) (v := undef) rfl (by kernel_rfl) (by kernel_rfl) (by kernel_rfl) (fun _ _ _ h => h) ?_ hB ?_
  · (exact Or.inr ⟨by kernel_rfl, rfl⟩)
  simp only [Act.put, List.setIfInBounds_toArray, List.set_cons_zero, List.set_cons_succ]
  refine wpAnyH_take (i := 9) (oi := { dst := some 41, op := Op.move (Operand.tmp 40), type := 4, pos := "index.go:187", after := #[{ on := 8, ground := Ground.data }, { on := 5, ground := Ground.chain }, { on := 5, ground := Ground.guard }], guard := some (5, true) }) (v := undef) rfl (by kernel_rfl) (by kernel_rfl) (by kernel_rfl) (fun _ _ _ h => h) ?_ hB ?_
  · (exact Or.inr ⟨by kernel_rfl, rfl⟩)
  simp only [Act.put, List.setIfInBounds_toArray, List.set_cons_zero, List.set_cons_succ]
  refine wpAnyH_take (i := 10) (oi := { dst := some 42, op := Op.move (Operand.tmp 0), type := 24, pos := "index.go:187", after := #[{ on := 9, ground := Ground.guard }], guard := some (9, false) }) (v := undef) rfl (by kernel_rfl) (by kernel_rfl) (by kernel_rfl) (fun _ _ _ h => h) ?_ hB ?_
  · (exact Or.inr ⟨by kernel_rfl, rfl⟩)
  simp only [Act.put, List.setIfInBounds_toArray, List.set_cons_zero, List.set_cons_succ]
  refine wpAnyH_take (i := 11) (oi := { dst := some 43, op := Op.nilCheck (Operand.tmp 42), type := 0, pos := "index.go:187", after := #[{ on := 10, ground := Ground.data }, { on := 9, ground := Ground.guard }], guard := some (9, false) }) (v := undef) rfl (by kernel_rfl) (by kernel_rfl) (by kernel_rfl) (fun _ _ _ h => h) ?_ hB ?_
  · (exact Or.inr ⟨by kernel_rfl, rfl⟩)
  simp only [Act.put, List.setIfInBounds_toArray, List.set_cons_zero, List.set_cons_succ]
  refine wpAnyH_take (i := 12) (oi := { dst := some 44, op := Op.fieldAddr 76 (Operand.tmp 43) 1, type := 0, pos := "index.go:187", after := #[{ on := 11, ground := Ground.data }, { on := 9, ground := Ground.guard }], guard := some (9, false) }) (v := undef) rfl (by kernel_rfl) (by kernel_rfl) (by kernel_rfl) (fun _ _ _ h => h) ?_ hB ?_
  · (exact Or.inr ⟨by kernel_rfl, rfl⟩)
  simp only [Act.put, List.setIfInBounds_toArray, List.set_cons_zero, List.set_cons_succ]
  refine wpAnyH_take (i := 13) (oi := { dst := some 45, op := Op.load 74 (Operand.tmp 44), type := 74, pos := "index.go:187", after := #[{ on := 12, ground := Ground.data }, { on := 9, ground := Ground.guard }], guard := some (9, false) }) (v := undef) rfl (by kernel_rfl) (by kernel_rfl) (by kernel_rfl) (fun _ _ _ h => h) ?_ hB ?_
  · (exact Or.inr ⟨by kernel_rfl, rfl⟩)
  simp only [Act.put, List.setIfInBounds_toArray, List.set_cons_zero, List.set_cons_succ]
  refine wpAnyH_take (i := 14) (oi := { dst := some 46, op := Op.move (Operand.tmp 7), type := 85, pos := "index.go:187", after := #[{ on := 9, ground := Ground.guard }], guard := some (9, false) }) (v := undef) rfl (by kernel_rfl) (by kernel_rfl) (by kernel_rfl) (fun _ _ _ h => h) ?_ hB ?_
  · (exact Or.inr ⟨by kernel_rfl, rfl⟩)
  simp only [Act.put, List.setIfInBounds_toArray, List.set_cons_zero, List.set_cons_succ]
  refine wpAnyH_take (i := 15) (oi := { dst := some 47, op := Op.nilCheck (Operand.tmp 46), type := 0, pos := "index.go:187", after := #[{ on := 14, ground := Ground.data }, { on := 9, ground := Ground.guard }], guard := some (9, false) }) (v := undef) rfl (by kernel_rfl) (by kernel_rfl) (by kernel_rfl) (fun _ _ _ h => h) ?_ hB ?_
  · (exact Or.inr ⟨by kernel_rfl, rfl⟩)
  simp only [Act.put, List.setIfInBounds_toArray, List.set_cons_zero, List.set_cons_succ]
  refine wpAnyH_take (i := 16) (oi := { dst := some 48, op := Op.fieldAddr 45 (Operand.tmp 47) 2, type := 0, pos := "index.go:187", after := #[{ on := 15, ground := Ground.data }, { on := 9, ground := Ground.guard }], guard := some (9, false) }) (v := undef) rfl (by kernel_rfl) (by kernel_rfl) (by kernel_rfl) (fun _ _ _ h => h) ?_ hB ?_
  · (exact Or.inr ⟨by kernel_rfl, rfl⟩)
  simp only [Act.put, List.setIfInBounds_toArray, List.set_cons_zero, List.set_cons_succ]
  refine wpAnyH_take (i := 17) (oi := { dst := some 49, op := Op.load 3 (Operand.tmp 48), type := 3, pos := "index.go:187", after := #[{ on := 16, ground := Ground.data }, { on := 9, ground := Ground.guard }], guard := some (9, false) }) (v := undef) rfl (by kernel_rfl) (by kernel_rfl) (by kernel_rfl) (fun _ _ _ h => h) ?_ hB ?_
  · (exact Or.inr ⟨by kernel_rfl, rfl⟩)
  simp only [Act.put, List.setIfInBounds_toArray, List.set_cons_zero, List.set_cons_succ]
  refine wpAnyH_take (i := 18) (oi := { dst := some 50, op := Op.indexAddr 74 (Operand.tmp 45) (Operand.tmp 49), type := 0, pos := "index.go:187", after := #[{ on := 13, ground := Ground.data }, { on := 17, ground := Ground.data }, { on := 9, ground := Ground.guard }], guard := some (9, false) }) (v := undef) rfl (by kernel_rfl) (by kernel_rfl) (by kernel_rfl) (fun _ _ _ h => h) ?_ hB ?_
  · (exact Or.inr ⟨by kernel_rfl, rfl⟩)
  simp only [Act.put, List.setIfInBounds_toArray, List.set_cons_zero, List.set_cons_succ]
  refine wpAnyH_take (i := 19) (oi := { dst := some 51, op := Op.fieldAddr 45 (Operand.tmp 50) 6, type := 0, pos := "index.go:187", after := #[{ on := 18, ground := Ground.data }, { on := 9, ground := Ground.guard }], guard := some (9, false) }) (v := undef) rfl (by kernel_rfl) (by kernel_rfl) (by kernel_rfl) (fun _ _ _ h => h) ?_ hB ?_
  · (exact Or.inr ⟨by kernel_rfl, rfl⟩)
  simp only [Act.put, List.setIfInBounds_toArray, List.set_cons_zero, List.set_cons_succ]
  refine wpAnyH_take (i := 20) (oi := { dst := some 52, op := Op.load 4 (Operand.tmp 51), type := 4, pos := "index.go:187", after := #[{ on := 19, ground := Ground.data }, { on := 9, ground := Ground.guard }], guard := some (9, false) }) (v := undef) rfl (by kernel_rfl) (by kernel_rfl) (by kernel_rfl) (fun _ _ _ h => h) ?_ hB ?_
  · (exact Or.inr ⟨by kernel_rfl, rfl⟩)
  simp only [Act.put, List.setIfInBounds_toArray, List.set_cons_zero, List.set_cons_succ]
  refine wpAnyH_take (i := 21) (oi := { dst := some 53, op := Op.pick (Operand.tmp 41) (Operand.const (Value.bool true)) (Operand.tmp 52), type := 4, pos := "index.go:187", after := #[{ on := 9, ground := Ground.data }, { on := 20, ground := Ground.data }, { on := 5, ground := Ground.guard }], guard := some (5, true) }) (v := undef) rfl (by kernel_rfl) (by kernel_rfl) (by kernel_rfl) (fun _ _ _ h => h) ?_ hB ?_
  · (exact Or.inr ⟨by kernel_rfl, rfl⟩)
  simp only [Act.put, List.setIfInBounds_toArray, List.set_cons_zero, List.set_cons_succ]
  refine wpAnyH_take (i := 22) (oi := { dst := some 54, op := Op.pick (Operand.tmp 37) (Operand.tmp 53) (Operand.const (Value.bool false)), type := 4, pos := "index.go:187", after := #[{ on := 5, ground := Ground.data }, { on := 21, ground := Ground.data }], guard := none }) (v := .bool false) rfl (by kernel_rfl) (by kernel_rfl) (by kernel_rfl) (fun _ _ _ h => h) ?_ hB ?_
  · (refine Or.inl ⟨by kernel_rfl, ?_⟩; intro w hSw; go_simp)
  simp only [Act.put, List.setIfInBounds_toArray, List.set_cons_zero, List.set_cons_succ]
  refine wpAnyH_done (by kernel_rfl) ?_ _
  refine NoPanic.normal ?_
  have hEnd := HQ.out (.pointer (some ⟨b, n * 108, none⟩)) (.pointer (some ⟨b, n * 108, none⟩)) (.pointer (some ⟨b, n * 108 + 107, none⟩)) (.bool true) (.bool false) (.bool false) (undef) (undef) (undef) (undef) (undef) (undef) (undef) (undef) (undef) (undef) (undef) (undef) (undef) (undef) (undef) (undef) _ rfl
  exact hEnd

set_option maxRecDepth 100000 in
set_option maxHeartbeats 16000000 in
theorem fail8b (p b n : Nat) (i : Nat) (V : World) (t2 t3 t4 t5 t8 t9 t10 t11 t12 t13 t14 t15 t16 t17 t18 t19 t20 t21 t22 t23 t24 t25 t26 t27 t28 t29 t30 t31 t32 t33 t34 t35 t36 t37 t38 t39 t40 t41 t42 t43 t44 t45 t46 t47 t48 t49 t50 t51 t52 t53 t54 t55 t56 t57 t58 t59 t60 : Value) (Q : Exit → Act → World → Prop) (zp : p < V.heap.size) (zb : b < V.heap.size) (hni : ((n : Int) == (i : Int)) = true) (HCF : Hid (V.cell? ⟨b, n * 108 + 107, none⟩ = some (.bool false))) (HQ : Hid (∀ (x32 x33 x34 x35 x36 x37 x38 x39 x40 x41 x42 x43 x44 x45 x46 x47 x48 x49 x50 x51 x52 x53 : Value)  (w' : World), w' = V.drew → Q .normal { tmps := List.toArray (.pointer (some ⟨p, 0, none⟩) :: .int .i64 (i : Int) :: t2 :: t3 :: t4 :: t5 :: .int .i64 (n : Int) :: .pointer (some ⟨b, n * 108, none⟩) :: t8 :: t9 :: t10 :: t11 :: t12 :: t13 :: t14 :: t15 :: t16 :: t17 :: t18 :: t19 :: t20 :: t21 :: t22 :: t23 :: t24 :: t25 :: t26 :: t27 :: t28 :: t29 :: t30 :: t31 :: x32 :: x33 :: x34 :: x35 :: x36 :: x37 :: x38 :: x39 :: x40 :: x41 :: x42 :: x43 :: x44 :: x45 :: x46 :: x47 :: x48 :: x49 :: x50 :: x51 :: x52 :: x53 :: .bool true :: t55 :: t56 :: t57 :: t58 :: t59 :: t60 :: []), defers := [] } w')) :
    Code.wp Tryd.prog (Code.region 8 #[{ dst := some 32, op := Op.move (Operand.tmp 7), type := 85, pos := "index.go:187", after := #[], guard := none },
{ dst := some 33, op := Op.nilCheck (Operand.tmp 32), type := 0, pos := "index.go:187", after := #[{ on := 0, ground := Ground.data }], guard := none },
{ dst := some 34, op := Op.fieldAddr 45 (Operand.tmp 33) 6, type := 0, pos := "index.go:187", after := #[{ on := 1, ground := Ground.data }], guard := none },
{ dst := some 35, op := Op.load 4 (Operand.tmp 34), type := 4, pos := "index.go:187", after := #[{ on := 2, ground := Ground.data }], guard := none },
{ dst := some 36, op := Op.unOp UnOp.not 4 (Operand.tmp 35), type := 4, pos := "index.go:187", after := #[{ on := 3, ground := Ground.data }], guard := none },
{ dst := some 37, op := Op.move (Operand.tmp 36), type := 4, pos := "index.go:187", after := #[{ on := 4, ground := Ground.data }], guard := none },
{ dst := some 38, op := Op.move (Operand.tmp 6), type := 3, pos := "index.go:187", after := #[{ on := 5, ground := Ground.guard }], guard := some (5, true) },
{ dst := some 39, op := Op.move (Operand.tmp 1), type := 3, pos := "index.go:187", after := #[{ on := 5, ground := Ground.guard }], guard := some (5, true) },
{ dst := some 40, op := Op.binOp BinOp.eql 3 (Operand.tmp 38) (Operand.tmp 39) 3, type := 4, pos := "index.go:187", after := #[{ on := 6, ground := Ground.data }, { on := 7, ground := Ground.data }, { on := 5, ground := Ground.guard }], guard := some (5, true) },
{ dst := some 41, op := Op.move (Operand.tmp 40), type := 4, pos := "index.go:187", after := #[{ on := 8, ground := Ground.data }, { on := 5, ground := Ground.chain }, { on := 5, ground := Ground.guard }], guard := some (5, true) },
{ dst := some 42, op := Op.move (Operand.tmp 0), type := 24, pos := "index.go:187", after := #[{ on := 9, ground := Ground.guard }], guard := some (9, false) },
{ dst := some 43, op := Op.nilCheck (Operand.tmp 42), type := 0, pos := "index.go:187", after := #[{ on := 10, ground := Ground.data }, { on := 9, ground := Ground.guard }], guard := some (9, false) },
{ dst := some 44, op := Op.fieldAddr 76 (Operand.tmp 43) 1, type := 0, pos := "index.go:187", after := #[{ on := 11, ground := Ground.data }, { on := 9, ground := Ground.guard }], guard := some (9, false) },
{ dst := some 45, op := Op.load 74 (Operand.tmp 44), type := 74, pos := "index.go:187", after := #[{ on := 12, ground := Ground.data }, { on := 9, ground := Ground.guard }], guard := some (9, false) },
{ dst := some 46, op := Op.move (Operand.tmp 7), type := 85, pos := "index.go:187", after := #[{ on := 9, ground := Ground.guard }], guard := some (9, false) },
{ dst := some 47, op := Op.nilCheck (Operand.tmp 46), type := 0, pos := "index.go:187", after := #[{ on := 14, ground := Ground.data }, { on := 9, ground := Ground.guard }], guard := some (9, false) },
{ dst := some 48, op := Op.fieldAddr 45 (Operand.tmp 47) 2, type := 0, pos := "index.go:187", after := #[{ on := 15, ground := Ground.data }, { on := 9, ground := Ground.guard }], guard := some (9, false) },
{ dst := some 49, op := Op.load 3 (Operand.tmp 48), type := 3, pos := "index.go:187", after := #[{ on := 16, ground := Ground.data }, { on := 9, ground := Ground.guard }], guard := some (9, false) },
{ dst := some 50, op := Op.indexAddr 74 (Operand.tmp 45) (Operand.tmp 49), type := 0, pos := "index.go:187", after := #[{ on := 13, ground := Ground.data }, { on := 17, ground := Ground.data }, { on := 9, ground := Ground.guard }], guard := some (9, false) },
{ dst := some 51, op := Op.fieldAddr 45 (Operand.tmp 50) 6, type := 0, pos := "index.go:187", after := #[{ on := 18, ground := Ground.data }, { on := 9, ground := Ground.guard }], guard := some (9, false) },
{ dst := some 52, op := Op.load 4 (Operand.tmp 51), type := 4, pos := "index.go:187", after := #[{ on := 19, ground := Ground.data }, { on := 9, ground := Ground.guard }], guard := some (9, false) },
{ dst := some 53, op := Op.pick (Operand.tmp 41) (Operand.const (Value.bool true)) (Operand.tmp 52), type := 4, pos := "index.go:187", after := #[{ on := 9, ground := Ground.data }, { on := 20, ground := Ground.data }, { on := 5, ground := Ground.guard }], guard := some (5, true) },
{ dst := some 54, op := Op.pick (Operand.tmp 37) (Operand.tmp 53) (Operand.const (Value.bool false)), type := 4, pos := "index.go:187", after := #[{ on := 5, ground := Ground.data }, { on := 21, ground := Ground.data }], guard := none }] true) Q { tmps := List.toArray (.pointer (some ⟨p, 0, none⟩) :: .int .i64 (i : Int) :: t2 :: t3 :: t4 :: t5 :: .int .i64 (n : Int) :: .pointer (some ⟨b, n * 108, none⟩) :: t8 :: t9 :: t10 :: t11 :: t12 :: t13 :: t14 :: t15 :: t16 :: t17 :: t18 :: t19 :: t20 :: t21 :: t22 :: t23 :: t24 :: t25 :: t26 :: t27 :: t28 :: t29 :: t30 :: t31 :: t32 :: t33 :: t34 :: t35 :: t36 :: t37 :: t38 :: t39 :: t40 :: t41 :: t42 :: t43 :: t44 :: t45 :: t46 :: t47 :: t48 :: t49 :: t50 :: t51 :: t52 :: t53 :: t54 :: t55 :: t56 :: t57 :: t58 :: t59 :: t60 :: []), defers := [] } V := by
  refine wp_region_noPanic ?_
  refine wp_region_held_drew (S := (fun w' => Below V.heap.size V w')) (by kernel_rfl) ((Below.refl _ _).drew) (fun hHeld => ?_)
  have hB : Below V.heap.size V V.drew := ((Below.refl _ _).drew)
  show wpAnyH _ _ _ _ _ 23 _ _ _
  refine wpAnyH_take (i := 0) (oi := { dst := some 32, op := Op.move (Operand.tmp 7), type := 85, pos := "index.go:187", after := #[], guard := none }) (v := .pointer (some ⟨b, n * 108, none⟩)) rfl (by kernel_rfl) (by kernel_rfl) (by kernel_rfl) (fun _ _ _ h => h) ?_ hB ?_
  · (refine Or.inl ⟨by kernel_rfl, ?_⟩; intro w hSw; go_simp)
  simp only [Act.put, List.setIfInBounds_toArray, List.set_cons_zero, List.set_cons_succ]
  refine wpAnyH_take (i := 1) (oi := { dst := some 33, op := Op.nilCheck (Operand.tmp 32), type := 0, pos := "index.go:187", after := #[{ on := 0, ground := Ground.data }], guard := none }) (v := .pointer (some ⟨b, n * 108, none⟩)) rfl (by kernel_rfl) (by kernel_rfl) (by kernel_rfl) (fun _ _ _ h => h) ?_ hB ?_
  · (refine Or.inl ⟨by kernel_rfl, ?_⟩; intro w hSw; have hzp := Nat.lt_of_lt_of_le zp hSw.size; have hzb := Nat.lt_of_lt_of_le zb hSw.size; go_simp)
  simp only [Act.put, List.setIfInBounds_toArray, List.set_cons_zero, List.set_cons_succ]
  refine wpAnyH_take (i := 2) (oi := { dst := some 34, op := Op.fieldAddr 45 (Operand.tmp 33) 6, type := 0, pos := "index.go:187", after := #[{ on := 1, ground := Ground.data }], guard := none }) (v := .pointer (some ⟨b, n * 108 + 107, none⟩)) rfl (by kernel_rfl) (by kernel_rfl) (by kernel_rfl) (fun _ _ _ h => h) ?_ hB ?_
  · (refine Or.inl ⟨by kernel_rfl, ?_⟩; intro w hSw; have hzp := Nat.lt_of_lt_of_le zp hSw.size; have hzb := Nat.lt_of_lt_of_le zb hSw.size; go_simp)
  simp only [Act.put, List.setIfInBounds_toArray, List.set_cons_zero, List.set_cons_succ]
  refine wpAnyH_take (i := 3) (oi := { dst := some 35, op := Op.load 4 (Operand.tmp 34), type := 4, pos := "index.go:187", after := #[{ on := 2, ground := Ground.data }], guard := none }) (v := .bool false) rfl (by kernel_rfl) (by kernel_rfl) (by kernel_rfl) (fun _ _ _ h => h) ?_ hB ?_
  · (refine Or.inl ⟨by kernel_rfl, ?_⟩; intro w hSw; have hzp := Nat.lt_of_lt_of_le zp hSw.size; have hzb := Nat.lt_of_lt_of_le zb hSw.size; have c1 := (hSw.cell (p := ⟨b, n * 108 + 107, none⟩) zb).trans HCF.out; go_simp)
  simp only [Act.put, List.setIfInBounds_toArray, List.set_cons_zero, List.set_cons_succ]
  refine wpAnyH_take (i := 4) (oi := { dst := some 36, op := Op.unOp UnOp.not 4 (Operand.tmp 35), type := 4, pos := "index.go:187", after := #[{ on := 3, ground := Ground.data }], guard := none }) (v := .bool true) rfl (by kernel_rfl) (by kernel_rfl) (by kernel_rfl) (fun _ _ _ h => h) ?_ hB ?_
  · (refine Or.inl ⟨by kernel_rfl, ?_⟩; intro w hSw; go_simp)
  simp only [Act.put, List.setIfInBounds_toArray, List.set_cons_zero, List.set_cons_succ]
  refine wpAnyH_take (i := 5) (oi := { dst := some 37, op := Op.move (Operand.tmp 36), type := 4, pos := "index.go:187", after := #[{ on := 4, ground := Ground.data }], guard := none }) (v := .bool true) rfl (by kernel_rfl) (by kernel_rfl) (by kernel_rfl) (fun _ _ _ h => h) ?_ hB ?_
  · (refine Or.inl ⟨by kernel_rfl, ?_⟩; intro w hSw; go_simp)
  simp only [Act.put, List.setIfInBounds_toArray, List.set_cons_zero, List.set_cons_succ]
  refine wpAnyH_take (i := 6) (oi := { dst := some 38, op := Op.move (Operand.tmp 6), type := 3, pos := "index.go:187", after := #[{ on := 5, ground := Ground.guard }], guard := some (5, true) }) (v := .int .i64 (n : Int)) rfl (by kernel_rfl) (by kernel_rfl) (by kernel_rfl) (fun _ _ _ h => h) ?_ hB ?_
  · (refine Or.inl ⟨by kernel_rfl, ?_⟩; intro w hSw; go_simp)
  simp only [Act.put, List.setIfInBounds_toArray, List.set_cons_zero, List.set_cons_succ]
  refine wpAnyH_take (i := 7) (oi := { dst := some 39, op := Op.move (Operand.tmp 1), type := 3, pos := "index.go:187", after := #[{ on := 5, ground := Ground.guard }], guard := some (5, true) }) (v := .int .i64 (i : Int)) rfl (by kernel_rfl) (by kernel_rfl) (by kernel_rfl) (fun _ _ _ h => h) ?_ hB ?_
  · (refine Or.inl ⟨by kernel_rfl, ?_⟩; intro w hSw; go_simp)
  simp only [Act.put, List.setIfInBounds_toArray, List.set_cons_zero, List.set_cons_succ]
  refine wpAnyH_take (i := 8) (oi := { dst := some 40, op := Op.binOp BinOp.eql 3 (Operand.tmp 38) (Operand.tmp 39) 3, type := 4, pos := "index.go:187", after := #[{ on := 6, ground := Ground.data }, { on := 7, ground := Ground.data }, { on := 5, ground := Ground.guard }], guard := some (5, true) }) (v := .bool true) rfl (by kernel_rfl) (by kernel_rfl) (by kernel_rfl) (fun _ _ _ h => h) ?_ hB ?_
  · (refine Or.inl ⟨by kernel_rfl, ?_⟩; intro w hSw; have h1 := hni; go_simp)
  simp only [Act.put, List.setIfInBounds_toArray, List.set_cons_zero, List.set_cons_succ]
  refine wpAnyH_take (i := 9) (oi := { dst := some 41, op := Op.move (Operand.tmp 40), type := 4, pos := "index.go:187", after := #[{ on := 8, ground := Ground.data }, { on := 5, ground := Ground.chain }, { on := 5, ground := Ground.guard }], guard := some (5, true) }) (v := .bool true) rfl (by kernel_rfl) (by kernel_rfl) (by kernel_rfl) (fun _ _ _ h => h) ?_ hB ?_
  · (refine Or.inl ⟨by kernel_rfl, ?_⟩; intro w hSw; go_simp)
  simp only [Act.put, List.setIfInBounds_toArray, List.set_cons_zero, List.set_cons_succ]
  refine wpAnyH_take (i := 10) (oi := { dst := some 42, op := Op.move (Operand.tmp 0), type := 24, pos := "index.go:187", after := #[{ on := 9, ground := Ground.guard }], guard := some (9, false) }) (v := undef) rfl (by kernel_rfl) (by kernel_rfl) (by kernel_rfl) (fun _ _ _ h => h) ?_ hB ?_
  · (exact Or.inr ⟨by kernel_rfl, rfl⟩)
  simp only [Act.put, List.setIfInBounds_toArray, List.set_cons_zero, List.set_cons_succ]
  refine wpAnyH_take (i := 11) (oi := { dst := some 43, op := Op.nilCheck (Operand.tmp 42), type := 0, pos := "index.go:187", after := #[{ on := 10, ground := Ground.data }, { on := 9, ground := Ground.guard }], guard := some (9, false) }) (v := undef) rfl (by kernel_rfl) (by kernel_rfl) (by kernel_rfl) (fun _ _ _ h => h) ?_ hB ?_
  · (exact Or.inr ⟨by kernel_rfl, rfl⟩)
  simp only [Act.put, List.setIfInBounds_toArray, List.set_cons_zero, List.set_cons_succ]
  refine wpAnyH_take (i := 12) (oi := { dst := some 44, op := Op.fieldAddr 76 (Operand.tmp 43) 1, type := 0, pos := "index.go:187", after := #[{ on := 11, ground := Ground.data }, { on := 9, ground := Ground.guard }], guard := some (9, false) }) (v := undef) rfl (by kernel_rfl) (by kernel_rfl) (by kernel_rfl) (fun _ _ _ h => h) ?_ hB ?_
  · (exact Or.inr ⟨by kernel_rfl, rfl⟩)
  simp only [Act.put, List.setIfInBounds_toArray, List.set_cons_zero, List.set_cons_succ]
  refine wpAnyH_take (i := 13) (oi := { dst := some 45, op := Op.load 74 (Operand.tmp 44), type := 74, pos := "index.go:187", after := #[{ on := 12, ground := Ground.data }, { on := 9, ground := Ground.guard }], guard := some (9, false) }) (v := undef) rfl (by kernel_rfl) (by kernel_rfl) (by kernel_rfl) (fun _ _ _ h => h) ?_ hB ?_
  · (exact Or.inr ⟨by kernel_rfl, rfl⟩)
  simp only [Act.put, List.setIfInBounds_toArray, List.set_cons_zero, List.set_cons_succ]
  refine wpAnyH_take (i := 14) (oi := { dst := some 46, op := Op.move (Operand.tmp 7), type := 85, pos := "index.go:187", after := #[{ on := 9, ground := Ground.guard }], guard := some (9, false) }) (v := undef) rfl (by kernel_rfl) (by kernel_rfl) (by kernel_rfl) (fun _ _ _ h => h) ?_ hB ?_
  · (exact Or.inr ⟨by kernel_rfl, rfl⟩)
  simp only [Act.put, List.setIfInBounds_toArray, List.set_cons_zero, List.set_cons_succ]
  refine wpAnyH_take (i := 15) (oi := { dst := some 47, op := Op.nilCheck (Operand.tmp 46), type := 0, pos := "index.go:187", after := #[{ on := 14, ground := Ground.data }, { on := 9, ground := Ground.guard }], guard := some (9, false) }) (v := undef) rfl (by kernel_rfl) (by kernel_rfl) (by kernel_rfl) (fun _ _ _ h => h) ?_ hB ?_
  · (exact Or.inr ⟨by kernel_rfl, rfl⟩)
  simp only [Act.put, List.setIfInBounds_toArray, List.set_cons_zero, List.set_cons_succ]
  refine wpAnyH_take (i := 16) (oi := { dst := some 48, op := Op.fieldAddr 45 (Operand.tmp 47) 2, type := 0, pos := "index.go:187", after := #[{ on := 15, ground := Ground.data }, { on := 9, ground := Ground.guard }], guard := some (9, false) }) (v := undef) rfl (by kernel_rfl) (by kernel_rfl) (by kernel_rfl) (fun _ _ _ h => h) ?_ hB ?_
  · (exact Or.inr ⟨by kernel_rfl, rfl⟩)
  simp only [Act.put, List.setIfInBounds_toArray, List.set_cons_zero, List.set_cons_succ]
  refine wpAnyH_take (i := 17) (oi := { dst := some 49, op := Op.load 3 (Operand.tmp 48), type := 3, pos := "index.go:187", after := #[{ on := 16, ground := Ground.data }, { on := 9, ground := Ground.guard }], guard := some (9, false) }) (v := undef) rfl (by kernel_rfl) (by kernel_rfl) (by kernel_rfl) (fun _ _ _ h => h) ?_ hB ?_
  · (exact Or.inr ⟨by kernel_rfl, rfl⟩)
  simp only [Act.put, List.setIfInBounds_toArray, List.set_cons_zero, List.set_cons_succ]
  refine wpAnyH_take (i := 18) (oi := { dst := some 50, op := Op.indexAddr 74 (Operand.tmp 45) (Operand.tmp 49), type := 0, pos := "index.go:187", after := #[{ on := 13, ground := Ground.data }, { on := 17, ground := Ground.data }, { on := 9, ground := Ground.guard }], guard := some (9, false) }) (v := undef) rfl (by kernel_rfl) (by kernel_rfl) (by kernel_rfl) (fun _ _ _ h => h) ?_ hB ?_
  · (exact Or.inr ⟨by kernel_rfl, rfl⟩)
  simp only [Act.put, List.setIfInBounds_toArray, List.set_cons_zero, List.set_cons_succ]
  refine wpAnyH_take (i := 19) (oi := { dst := some 51, op := Op.fieldAddr 45 (Operand.tmp 50) 6, type := 0, pos := "index.go:187", after := #[{ on := 18, ground := Ground.data }, { on := 9, ground := Ground.guard }], guard := some (9, false) }) (v := undef) rfl (by kernel_rfl) (by kernel_rfl) (by kernel_rfl) (fun _ _ _ h => h) ?_ hB ?_
  · (exact Or.inr ⟨by kernel_rfl, rfl⟩)
  simp only [Act.put, List.setIfInBounds_toArray, List.set_cons_zero, List.set_cons_succ]
  refine wpAnyH_take (i := 20) (oi := { dst := some 52, op := Op.load 4 (Operand.tmp 51), type := 4, pos := "index.go:187", after := #[{ on := 19, ground := Ground.data }, { on := 9, ground := Ground.guard }], guard := some (9, false) }) (v := undef) rfl (by kernel_rfl) (by kernel_rfl) (by kernel_rfl) (fun _ _ _ h => h) ?_ hB ?_
  · (exact Or.inr ⟨by kernel_rfl, rfl⟩)
  simp only [Act.put, List.setIfInBounds_toArray, List.set_cons_zero, List.set_cons_succ]
  refine wpAnyH_take (i := 21) (oi := { dst := some 53, op := Op.pick (Operand.tmp 41) (Operand.const (Value.bool true)) (Operand.tmp 52), type := 4, pos := "index.go:187", after := #[{ on := 9, ground := Ground.data }, { on := 20, ground := Ground.data }, { on := 5, ground := Ground.guard }], guard := some (5, true) }) (v := .bool true) rfl (by kernel_rfl) (by kernel_rfl) (by kernel_rfl) (fun _ _ _ h => h) ?_ hB ?_
  · (refine Or.inl ⟨by kernel_rfl, ?_⟩; intro w hSw; go_simp)
  simp only [Act.put, List.setIfInBounds_toArray, List.set_cons_zero, List.set_cons_succ]
  refine wpAnyH_take (i := 22) (oi := { dst := some 54, op := Op.pick (Operand.tmp 37) (Operand.tmp 53) (Operand.const (Value.bool false)), type := 4, pos := "index.go:187", after := #[{ on := 5, ground := Ground.data }, { on := 21, ground := Ground.data }], guard := none }) (v := .bool true) rfl (by kernel_rfl) (by kernel_rfl) (by kernel_rfl) (fun _ _ _ h => h) ?_ hB ?_
  · (refine Or.inl ⟨by kernel_rfl, ?_⟩; intro w hSw; go_simp)
  simp only [Act.put, List.setIfInBounds_toArray, List.set_cons_zero, List.set_cons_succ]
  refine wpAnyH_done (by kernel_rfl) ?_ _
  refine NoPanic.normal ?_
  have hEnd := HQ.out (.pointer (some ⟨b, n * 108, none⟩)) (.pointer (some ⟨b, n * 108, none⟩)) (.pointer (some ⟨b, n * 108 + 107, none⟩)) (.bool false) (.bool true) (.bool true) (.int .i64 (n : Int)) (.int .i64 (i : Int)) (.bool true) (.bool true) (undef) (undef) (undef) (undef) (undef) (undef) (undef) (undef) (undef) (undef) (undef) (.bool true) _ rfl
  exact hEnd

set_option maxRecDepth 100000 in
set_option maxHeartbeats 16000000 in
theorem fail8c (p b n m c q : Nat) (fq : Bool) (i : Nat) (V : World) (t2 t3 t4 t5 t8 t9 t10 t11 t12 t13 t14 t15 t16 t17 t18 t19 t20 t21 t22 t23 t24 t25 t26 t27 t28 t29 t30 t31 t32 t33 t34 t35 t36 t37 t38 t39 t40 t41 t42 t43 t44 t45 t46 t47 t48 t49 t50 t51 t52 t53 t54 t55 t56 t57 t58 t59 t60 : Value) (Q : Exit → Act → World → Prop) (zp : p < V.heap.size) (zb : b < V.heap.size) (hni : ((n : Int) == (i : Int)) = false) (hq : q < m) (hq0 : (0 : Int) ≤ (q : Int)) (HCF : Hid (V.cell? ⟨b, n * 108 + 107, none⟩ = some (.bool false))) (HC74 : Hid (V.cell? ⟨p, 74, none⟩ = some (.slice (some ⟨b, 0, none⟩) m c))) (HCP : Hid (V.cell? ⟨b, n * 108 + 100, none⟩ = some (.int .i64 (q : Int)))) (HCQ : Hid (V.cell? ⟨b, q * 108 + 107, none⟩ = some (.bool fq))) (HQ : Hid (∀ (x32 x33 x34 x35 x36 x37 x38 x39 x40 x41 x42 x43 x44 x45 x46 x47 x48 x49 x50 x51 x52 x53 : Value)  (w' : World), w' = V.drew → Q .normal { tmps := List.toArray (.pointer (some ⟨p, 0, none⟩) :: .int .i64 (i : Int) :: t2 :: t3 :: t4 :: t5 :: .int .i64 (n : Int) :: .pointer (some ⟨b, n * 108, none⟩) :: t8 :: t9 :: t10 :: t11 :: t12 :: t13 :: t14 :: t15 :: t16 :: t17 :: t18 :: t19 :: t20 :: t21 :: t22 :: t23 :: t24 :: t25 :: t26 :: t27 :: t28 :: t29 :: t30 :: t31 :: x32 :: x33 :: x34 :: x35 :: x36 :: x37 :: x38 :: x39 :: x40 :: x41 :: x42 :: x43 :: x44 :: x45 :: x46 :: x47 :: x48 :: x49 :: x50 :: x51 :: x52 :: x53 :: .bool fq :: t55 :: t56 :: t57 :: t58 :: t59 :: t60 :: []), defers := [] } w')) :
    Code.wp Tryd.prog (Code.region 8 #[{ dst := some 32, op := Op.move (Operand.tmp 7), type := 85, pos := "index.go:187", after := #[], guard := none },
{ dst := some 33, op := Op.nilCheck (Operand.tmp 32), type := 0, pos := "index.go:187", after := #[{ on := 0, ground := Ground.data }], guard := none },
{ dst := some 34, op := Op.fieldAddr 45 (Operand.tmp 33) 6, type := 0, pos := "index.go:187", after := #[{ on := 1, ground := Ground.data }], guard := none },
{ dst := some 35, op := Op.load 4 (Operand.tmp 34), type := 4, pos := "index.go:187", after := #[{ on := 2, ground := Ground.data }], guard := none },
{ dst := some 36, op := Op.unOp UnOp.not 4 (Operand.tmp 35), type := 4, pos := "index.go:187", after := #[{ on := 3, ground := Ground.data }], guard := none },
{ dst := some 37, op := Op.move (Operand.tmp 36), type := 4, pos := "index.go:187", after := #[{ on := 4, ground := Ground.data }], guard := none },
{ dst := some 38, op := Op.move (Operand.tmp 6), type := 3, pos := "index.go:187", after := #[{ on := 5, ground := Ground.guard }], guard := some (5, true) },
{ dst := some 39, op := Op.move (Operand.tmp 1), type := 3, pos := "index.go:187", after := #[{ on := 5, ground := Ground.guard }], guard := some (5, true) },
{ dst := some 40, op := Op.binOp BinOp.eql 3 (Operand.tmp 38) (Operand.tmp 39) 3, type := 4, pos := "index.go:187", after := #[{ on := 6, ground := Ground.data }, { on := 7, ground := Ground.data }, { on := 5, ground := Ground.guard }], guard := some (5, true) },
{ dst := some 41, op := Op.move (Operand.tmp 40), type := 4, pos := "index.go:187", after := #[{ on := 8, ground := Ground.data }, { on := 5, ground := Ground.chain }, { on := 5, ground := Ground.guard }], guard := some (5, true) },
{ dst := some 42, op := Op.move (Operand.tmp 0), type := 24, pos := "index.go:187", after := #[{ on := 9, ground := Ground.guard }], guard := some (9, false) },
{ dst := some 43, op := Op.nilCheck (Operand.tmp 42), type := 0, pos := "index.go:187", after := #[{ on := 10, ground := Ground.data }, { on := 9, ground := Ground.guard }], guard := some (9, false) },
{ dst := some 44, op := Op.fieldAddr 76 (Operand.tmp 43) 1, type := 0, pos := "index.go:187", after := #[{ on := 11, ground := Ground.data }, { on := 9, ground := Ground.guard }], guard := some (9, false) },
{ dst := some 45, op := Op.load 74 (Operand.tmp 44), type := 74, pos := "index.go:187", after := #[{ on := 12, ground := Ground.data }, { on := 9, ground := Ground.guard }], guard := some (9, false) },
{ dst := some 46, op := Op.move (Operand.tmp 7), type := 85, pos := "index.go:187", after := #[{ on := 9, ground := Ground.guard }], guard := some (9, false) },
{ dst := some 47, op := Op.nilCheck (Operand.tmp 46), type := 0, pos := "index.go:187", after := #[{ on := 14, ground := Ground.data }, { on := 9, ground := Ground.guard }], guard := some (9, false) },
{ dst := some 48, op := Op.fieldAddr 45 (Operand.tmp 47) 2, type := 0, pos := "index.go:187", after := #[{ on := 15, ground := Ground.data }, { on := 9, ground := Ground.guard }], guard := some (9, false) },
{ dst := some 49, op := Op.load 3 (Operand.tmp 48), type := 3, pos := "index.go:187", after := #[{ on := 16, ground := Ground.data }, { on := 9, ground := Ground.guard }], guard := some (9, false) },
{ dst := some 50, op := Op.indexAddr 74 (Operand.tmp 45) (Operand.tmp 49), type := 0, pos := "index.go:187", after := #[{ on := 13, ground := Ground.data }, { on := 17, ground := Ground.data }, { on := 9, ground := Ground.guard }], guard := some (9, false) },
{ dst := some 51, op := Op.fieldAddr 45 (Operand.tmp 50) 6, type := 0, pos := "index.go:187", after := #[{ on := 18, ground := Ground.data }, { on := 9, ground := Ground.guard }], guard := some (9, false) },
{ dst := some 52, op := Op.load 4 (Operand.tmp 51), type := 4, pos := "index.go:187", after := #[{ on := 19, ground := Ground.data }, { on := 9, ground := Ground.guard }], guard := some (9, false) },
{ dst := some 53, op := Op.pick (Operand.tmp 41) (Operand.const (Value.bool true)) (Operand.tmp 52), type := 4, pos := "index.go:187", after := #[{ on := 9, ground := Ground.data }, { on := 20, ground := Ground.data }, { on := 5, ground := Ground.guard }], guard := some (5, true) },
{ dst := some 54, op := Op.pick (Operand.tmp 37) (Operand.tmp 53) (Operand.const (Value.bool false)), type := 4, pos := "index.go:187", after := #[{ on := 5, ground := Ground.data }, { on := 21, ground := Ground.data }], guard := none }] true) Q { tmps := List.toArray (.pointer (some ⟨p, 0, none⟩) :: .int .i64 (i : Int) :: t2 :: t3 :: t4 :: t5 :: .int .i64 (n : Int) :: .pointer (some ⟨b, n * 108, none⟩) :: t8 :: t9 :: t10 :: t11 :: t12 :: t13 :: t14 :: t15 :: t16 :: t17 :: t18 :: t19 :: t20 :: t21 :: t22 :: t23 :: t24 :: t25 :: t26 :: t27 :: t28 :: t29 :: t30 :: t31 :: t32 :: t33 :: t34 :: t35 :: t36 :: t37 :: t38 :: t39 :: t40 :: t41 :: t42 :: t43 :: t44 :: t45 :: t46 :: t47 :: t48 :: t49 :: t50 :: t51 :: t52 :: t53 :: t54 :: t55 :: t56 :: t57 :: t58 :: t59 :: t60 :: []), defers := [] } V := by
  refine wp_region_noPanic ?_
  refine wp_region_held_drew (S := (fun w' => Below V.heap.size V w')) (by kernel_rfl) ((Below.refl _ _).drew) (fun hHeld => ?_)
  have hB : Below V.heap.size V V.drew := ((Below.refl _ _).drew)
  show wpAnyH _ _ _ _ _ 23 _ _ _
  refine wpAnyH_take (i := 0) (oi := { dst := some 32, op := Op.move (Operand.tmp 7), type := 85, pos := "index.go:187", after := #[], guard := none }) (v := .pointer (some ⟨b, n * 108, none⟩)) rfl (by kernel_rfl) (by kernel_rfl) (by kernel_rfl) (fun _ _ _ h => h) ?_ hB ?_
  · (refine Or.inl ⟨by kernel_rfl, ?_⟩; intro w hSw; go_simp)
  simp only [Act.put, List.setIfInBounds_toArray, List.set_cons_zero, List.set_cons_succ]
  refine wpAnyH_take (i := 1) (oi := { dst := some 33, op := Op.nilCheck (Operand.tmp 32), type := 0, pos := "index.go:187", after := #[{ on := 0, ground := Ground.data }], guard := none }) (v := .pointer (some ⟨b, n * 108, none⟩)) rfl (by kernel_rfl) (by kernel_rfl) (by kernel_rfl) (fun _ _ _ h => h) ?_ hB ?_
  · (refine Or.inl ⟨by kernel_rfl, ?_⟩; intro w hSw; have hzp := Nat.lt_of_lt_of_le zp hSw.size; have hzb := Nat.lt_of_lt_of_le zb hSw.size; go_simp)
  simp only [Act.put, List.setIfInBounds_toArray, List.set_cons_zero, List.set_cons_succ]
  refine wpAnyH_take (i := 2) (oi := { dst := some 34, op := Op.fieldAddr 45 (Operand.tmp 33) 6, type := 0, pos := "index.go:187", after := #[{ on := 1, ground := Ground.data }], guard := none }) (v := .pointer (some ⟨b, n * 108 + 107, none⟩)) rfl (by kernel_rfl) (by kernel_rfl) (by kernel_rfl) (fun _ _ _ h => h) ?_ hB ?_
  · (refine Or.inl ⟨by kernel_rfl, ?_⟩; intro w hSw; have hzp := Nat.lt_of_lt_of_le zp hSw.size; have hzb := Nat.lt_of_lt_of_le zb hSw.size; go_simp)
  simp only [Act.put, List.setIfInBounds_toArray, List.set_cons_zero, List.set_cons_succ]
  refine wpAnyH_take (i := 3) (oi := { dst := some 35, op := Op.load 4 (Operand.tmp 34), type := 4, pos := "index.go:187", after := #[{ on := 2, ground := Ground.data }], guard := none }) (v := .bool false) rfl (by kernel_rfl) (by kernel_rfl) (by kernel_rfl) (fun _ _ _ h => h) ?_ hB ?_
  · (refine Or.inl ⟨by kernel_rfl, ?_⟩; intro w hSw; have hzp := Nat.lt_of_lt_of_le zp hSw.size; have hzb := Nat.lt_of_lt_of_le zb hSw.size; have c1 := (hSw.cell (p := ⟨b, n * 108 + 107, none⟩) zb).trans HCF.out; go_simp)
  simp only [Act.put, List.setIfInBounds_toArray, List.set_cons_zero, List.set_cons_succ]
  refine wpAnyH_take (i := 4) (oi := { dst := some 36, op := Op.unOp UnOp.not 4 (Operand.tmp 35), type := 4, pos := "index.go:187", after := #[{ on := 3, ground := Ground.data }], guard := none }) (v := .bool true) rfl (by kernel_rfl) (by kernel_rfl) (by kernel_rfl) (fun _ _ _ h => h) ?_ hB ?_
  · (refine Or.inl ⟨by kernel_rfl, ?_⟩; intro w hSw; go_simp)
  simp only [Act.put, List.setIfInBounds_toArray, List.set_cons_zero, List.set_cons_succ]
  refine wpAnyH_take (i := 5) (oi := { dst := some 37, op := Op.move (Operand.tmp 36), type := 4, pos := "index.go:187", after := #[{ on := 4, ground := Ground.data }], guard := none }) (v := .bool true) rfl (by kernel_rfl) (by kernel_rfl) (by kernel_rfl) (fun _ _ _ h => h) ?_ hB ?_
  · (refine Or.inl ⟨by kernel_rfl, ?_⟩; intro w hSw; go_simp)
  simp only [Act.put, List.setIfInBounds_toArray, List.set_cons_zero, List.set_cons_succ]
  refine wpAnyH_take (i := 6) (oi := { dst := some 38, op := Op.move (Operand.tmp 6), type := 3, pos := "index.go:187", after := #[{ on := 5, ground := Ground.guard }], guard := some (5, true) }) (v := .int .i64 (n : Int)) rfl (by kernel_rfl) (by kernel_rfl) (by kernel_rfl) (fun _ _ _ h => h) ?_ hB ?_
  · (refine Or.inl ⟨by kernel_rfl, ?_⟩; intro w hSw; go_simp)
  simp only [Act.put, List.setIfInBounds_toArray, List.set_cons_zero, List.set_cons_succ]
  refine wpAnyH_take (i := 7) (oi := { dst := some 39, op := Op.move (Operand.tmp 1), type := 3, pos := "index.go:187", after := #[{ on := 5, ground := Ground.guard }], guard := some (5, true) }) (v := .int .i64 (i : Int)) rfl (by kernel_rfl) (by kernel_rfl) (by kernel_rfl) (fun _ _ _ h => h) ?_ hB ?_
  · (refine Or.inl ⟨by kernel_rfl, ?_⟩; intro w hSw; go_simp)
  simp only [Act.put, List.setIfInBounds_toArray, List.set_cons_zero, List.set_cons_succ]
  refine wpAnyH_take (i := 8) (oi := { dst := some 40, op := Op.binOp BinOp.eql 3 (Operand.tmp 38) (Operand.tmp 39) 3, type := 4, pos := "index.go:187", after := #[{ on := 6, ground := Ground.data }, { on := 7, ground := Ground.data }, { on := 5, ground := Ground.guard }], guard := some (5, true) }) (v := .bool false) rfl (by kernel_rfl) (by kernel_rfl) (by kernel_rfl) (fun _ _ _ h => h) ?_ hB ?_
  · (refine Or.inl ⟨by kernel_rfl, ?_⟩; intro w hSw; have h1 := hni; go_simp)
  simp only [Act.put, List.setIfInBounds_toArray, List.set_cons_zero, List.set_cons_succ]
  refine wpAnyH_take (i := 9) (oi := { dst := some 41, op := Op.move (Operand.tmp 40), type := 4, pos := "index.go:187", after := #[{ on := 8, ground := Ground.data }, { on := 5, ground := Ground.chain }, { on := 5, ground := Ground.guard }], guard := some (5, true) }) (v := .bool false) rfl (by kernel_rfl) (by kernel_rfl) (by kernel_rfl) (fun _ _ _ h => h) ?_ hB ?_
  · (refine Or.inl ⟨by kernel_rfl, ?_⟩; intro w hSw; go_simp)
  simp only [Act.put, List.setIfInBounds_toArray, List.set_cons_zero, List.set_cons_succ]
  refine wpAnyH_take (i := 10) (oi := { dst := some 42, op := Op.move (Operand.tmp 0), type := 24, pos := "index.go:187", after := #[{ on := 9, ground := Ground.guard }], guard := some (9, false) }) (v := .pointer (some ⟨p, 0, none⟩)) rfl (by kernel_rfl) (by kernel_rfl) (by kernel_rfl) (fun _ _ _ h => h) ?_ hB ?_
  · (refine Or.inl ⟨by kernel_rfl, ?_⟩; intro w hSw; go_simp)
  simp only [Act.put, List.setIfInBounds_toArray, List.set_cons_zero, List.set_cons_succ]
  refine wpAnyH_take (i := 11) (oi := { dst := some 43, op := Op.nilCheck (Operand.tmp 42), type := 0, pos := "index.go:187", after := #[{ on := 10, ground := Ground.data }, { on := 9, ground := Ground.guard }], guard := some (9, false) }) (v := .pointer (some ⟨p, 0, none⟩)) rfl (by kernel_rfl) (by kernel_rfl) (by kernel_rfl) (fun _ _ _ h => h) ?_ hB ?_
  · (refine Or.inl ⟨by kernel_rfl, ?_⟩; intro w hSw; have hzp := Nat.lt_of_lt_of_le zp hSw.size; have hzb := Nat.lt_of_lt_of_le zb hSw.size; go_simp)
  simp only [Act.put, List.setIfInBounds_toArray, List.set_cons_zero, List.set_cons_succ]
  refine wpAnyH_take (i := 12) (oi := { dst := some 44, op := Op.fieldAddr 76 (Operand.tmp 43) 1, type := 0, pos := "index.go:187", after := #[{ on := 11, ground := Ground.data }, { on := 9, ground := Ground.guard }], guard := some (9, false) }) (v := .pointer (some ⟨p, 74, none⟩)) rfl (by kernel_rfl) (by kernel_rfl) (by kernel_rfl) (fun _ _ _ h => h) ?_ hB ?_
  · (refine Or.inl ⟨by kernel_rfl, ?_⟩; intro w hSw; have hzp := Nat.lt_of_lt_of_le zp hSw.size; have hzb := Nat.lt_of_lt_of_le zb hSw.size; go_simp)
  simp only [Act.put, List.setIfInBounds_toArray, List.set_cons_zero, List.set_cons_succ]
  refine wpAnyH_take (i := 13) (oi := { dst := some 45, op := Op.load 74 (Operand.tmp 44), type := 74, pos := "index.go:187", after := #[{ on := 12, ground := Ground.data }, { on := 9, ground := Ground.guard }], guard := some (9, false) }) (v := .slice (some ⟨b, 0, none⟩) m c) rfl (by kernel_rfl) (by kernel_rfl) (by kernel_rfl) (fun _ _ _ h => h) ?_ hB ?_
  · (refine Or.inl ⟨by kernel_rfl, ?_⟩; intro w hSw; have hzp := Nat.lt_of_lt_of_le zp hSw.size; have hzb := Nat.lt_of_lt_of_le zb hSw.size; have c1 := (hSw.cell (p := ⟨p, 74, none⟩) zp).trans HC74.out; go_simp)
  simp only [Act.put, List.setIfInBounds_toArray, List.set_cons_zero, List.set_cons_succ]
  refine wpAnyH_take (i := 14) (oi := { dst := some 46, op := Op.move (Operand.tmp 7), type := 85, pos := "index.go:187", after := #[{ on := 9, ground := Ground.guard }], guard := some (9, false) }) (v := .pointer (some ⟨b, n * 108, none⟩)) rfl (by kernel_rfl) (by kernel_rfl) (by kernel_rfl) (fun _ _ _ h => h) ?_ hB ?_
  · (refine Or.inl ⟨by kernel_rfl, ?_⟩; intro w hSw; go_simp)
  simp only [Act.put, List.setIfInBounds_toArray, List.set_cons_zero, List.set_cons_succ]
  refine wpAnyH_take (i := 15) (oi := { dst := some 47, op := Op.nilCheck (Operand.tmp 46), type := 0, pos := "index.go:187", after := #[{ on := 14, ground := Ground.data }, { on := 9, ground := Ground.guard }], guard := some (9, false) }) (v := .pointer (some ⟨b, n * 108, none⟩)) rfl (by kernel_rfl) (by kernel_rfl) (by kernel_rfl) (fun _ _ _ h => h) ?_ hB ?_
  · (refine Or.inl ⟨by kernel_rfl, ?_⟩; intro w hSw; have hzp := Nat.lt_of_lt_of_le zp hSw.size; have hzb := Nat.lt_of_lt_of_le zb hSw.size; go_simp)
  simp only [Act.put, List.setIfInBounds_toArray, List.set_cons_zero, List.set_cons_succ]
  refine wpAnyH_take (i := 16) (oi := { dst := some 48, op := Op.fieldAddr 45 (Operand.tmp 47) 2, type := 0, pos := "index.go:187", after := #[{ on := 15, ground := Ground.data }, { on := 9, ground := Ground.guard }], guard := some (9, false) }) (v := .pointer (some ⟨b, n * 108 + 100, none⟩)) rfl (by kernel_rfl) (by kernel_rfl) (by kernel_rfl) (fun _ _ _ h => h) ?_ hB ?_
  · (refine Or.inl ⟨by kernel_rfl, ?_⟩; intro w hSw; have hzp := Nat.lt_of_lt_of_le zp hSw.size; have hzb := Nat.lt_of_lt_of_le zb hSw.size; go_simp)
  simp only [Act.put, List.setIfInBounds_toArray, List.set_cons_zero, List.set_cons_succ]
  refine wpAnyH_take (i := 17) (oi := { dst := some 49, op := Op.load 3 (Operand.tmp 48), type := 3, pos := "index.go:187", after := #[{ on := 16, ground := Ground.data }, { on := 9, ground := Ground.guard }], guard := some (9, false) }) (v := .int .i64 (q : Int)) rfl (by kernel_rfl) (by kernel_rfl) (by kernel_rfl) (fun _ _ _ h => h) ?_ hB ?_
  · (refine Or.inl ⟨by kernel_rfl, ?_⟩; intro w hSw; have hzp := Nat.lt_of_lt_of_le zp hSw.size; have hzb := Nat.lt_of_lt_of_le zb hSw.size; have c1 := (hSw.cell (p := ⟨b, n * 108 + 100, none⟩) zb).trans HCP.out; go_simp)
  simp only [Act.put, List.setIfInBounds_toArray, List.set_cons_zero, List.set_cons_succ]
  refine wpAnyH_take (i := 18) (oi := { dst := some 50, op := Op.indexAddr 74 (Operand.tmp 45) (Operand.tmp 49), type := 0, pos := "index.go:187", after := #[{ on := 13, ground := Ground.data }, { on := 17, ground := Ground.data }, { on := 9, ground := Ground.guard }], guard := some (9, false) }) (v := .pointer (some ⟨b, q * 108, none⟩)) rfl (by kernel_rfl) (by kernel_rfl) (by kernel_rfl) (fun _ _ _ h => h) ?_ hB ?_
  · (refine Or.inl ⟨by kernel_rfl, ?_⟩; intro w hSw; have h1 := hq; have h2 := hq0; have hzp := Nat.lt_of_lt_of_le zp hSw.size; have hzb := Nat.lt_of_lt_of_le zb hSw.size; go_simp)
  simp only [Act.put, List.setIfInBounds_toArray, List.set_cons_zero, List.set_cons_succ]
  refine wpAnyH_take (i := 19) (oi := { dst := some 51, op := Op.fieldAddr 45 (Operand.tmp 50) 6, type := 0, pos := "index.go:187", after := #[{ on := 18, ground := Ground.data }, { on := 9, ground := Ground.guard }], guard := some (9, false) }) (v := .pointer (some ⟨b, q * 108 + 107, none⟩)) rfl (by kernel_rfl) (by kernel_rfl) (by kernel_rfl) (fun _ _ _ h => h) ?_ hB ?_
  · (refine Or.inl ⟨by kernel_rfl, ?_⟩; intro w hSw; have hzp := Nat.lt_of_lt_of_le zp hSw.size; have hzb := Nat.lt_of_lt_of_le zb hSw.size; go_simp)
  simp only [Act.put, List.setIfInBounds_toArray, List.set_cons_zero, List.set_cons_succ]
  refine wpAnyH_take (i := 20) (oi := { dst := some 52, op := Op.load 4 (Operand.tmp 51), type := 4, pos := "index.go:187", after := #[{ on := 19, ground := Ground.data }, { on := 9, ground := Ground.guard }], guard := some (9, false) }) (v := .bool fq) rfl (by kernel_rfl) (by kernel_rfl) (by kernel_rfl) (fun _ _ _ h => h) ?_ hB ?_
  · (refine Or.inl ⟨by kernel_rfl, ?_⟩; intro w hSw; have hzp := Nat.lt_of_lt_of_le zp hSw.size; have hzb := Nat.lt_of_lt_of_le zb hSw.size; have c1 := (hSw.cell (p := ⟨b, q * 108 + 107, none⟩) zb).trans HCQ.out; go_simp)
  simp only [Act.put, List.setIfInBounds_toArray, List.set_cons_zero, List.set_cons_succ]
  refine wpAnyH_take (i := 21) (oi := { dst := some 53, op := Op.pick (Operand.tmp 41) (Operand.const (Value.bool true)) (Operand.tmp 52), type := 4, pos := "index.go:187", after := #[{ on := 9, ground := Ground.data }, { on := 20, ground := Ground.data }, { on := 5, ground := Ground.guard }], guard := some (5, true) }) (v := .bool fq) rfl (by kernel_rfl) (by kernel_rfl) (by kernel_rfl) (fun _ _ _ h => h) ?_ hB ?_
  · (refine Or.inl ⟨by kernel_rfl, ?_⟩; intro w hSw; go_simp)
  simp only [Act.put, List.setIfInBounds_toArray, List.set_cons_zero, List.set_cons_succ]
  refine wpAnyH_take (i := 22) (oi := { dst := some 54, op := Op.pick (Operand.tmp 37) (Operand.tmp 53) (Operand.const (Value.bool false)), type := 4, pos := "index.go:187", after := #[{ on := 5, ground := Ground.data }, { on := 21, ground := Ground.data }], guard := none }) (v := .bool fq) rfl (by kernel_rfl) (by kernel_rfl) (by kernel_rfl) (fun _ _ _ h => h) ?_ hB ?_
  · (refine Or.inl ⟨by kernel_rfl, ?_⟩; intro w hSw; go_simp)
  simp only [Act.put, List.setIfInBounds_toArray, List.set_cons_zero, List.set_cons_succ]
  refine wpAnyH_done (by kernel_rfl) ?_ _
  refine NoPanic.normal ?_
  have hEnd := HQ.out (.pointer (some ⟨b, n * 108, none⟩)) (.pointer (some ⟨b, n * 108, none⟩)) (.pointer (some ⟨b, n * 108 + 107, none⟩)) (.bool false) (.bool true) (.bool true) (.int .i64 (n : Int)) (.int .i64 (i : Int)) (.bool false) (.bool false) (.pointer (some ⟨p, 0, none⟩)) (.pointer (some ⟨p, 0, none⟩)) (.pointer (some ⟨p, 74, none⟩)) (.slice (some ⟨b, 0, none⟩) m c) (.pointer (some ⟨b, n * 108, none⟩)) (.pointer (some ⟨b, n * 108, none⟩)) (.pointer (some ⟨b, n * 108 + 100, none⟩)) (.int .i64 (q : Int)) (.pointer (some ⟨b, q * 108, none⟩)) (.pointer (some ⟨b, q * 108 + 107, none⟩)) (.bool fq) (.bool fq) _ rfl
  exact hEnd

end Go.Proofs.YtljfhabhenaapaaDoor
namespace Go.Proofs.YtljfhabhenaapaaDoor
open Go.RowKit
set_option linter.unusedVariables false
set_option linter.unusedSimpArgs false
set_option maxRecDepth 100000
section
variable {α : Type} {R : RowT α}
theorem flat_sing (x : α) : R.flat [x] = R.c x := by simp [RowT.flat]
theorem ovr_mid (A Y B X : List Value) (hl : X.length = Y.length) : ovr (A ++ (Y ++ B)).toArray A.length X = (A ++ (X ++ B)).toArray := by
  apply Array.ext_getElem?
  intro q
  rw [ovr_get, List.getElem?_toArray, List.getElem?_toArray, List.size_toArray, List.length_append, List.length_append]
  by_cases q1 : q < A.length
  · rw [if_neg (by omega), List.getElem?_append_left q1, List.getElem?_append_left q1]
  · by_cases q2 : q < A.length + X.length
    · rw [if_pos (by omega), List.getElem?_append_right (by omega), List.getElem?_append_left (by omega)]
    · rw [if_neg (by omega), List.getElem?_append_right (by omega), List.getElem?_append_right (by omega), List.getElem?_append_right (by omega), List.getElem?_append_right (by omega), hl]
theorem flat_put (h : R.Ok) (A Y B X : List α) (hl : X.length = Y.length) : ovr (R.flat (A ++ (Y ++ B))).toArray (A.length * R.k) (R.flat X) = (R.flat (A ++ (X ++ B))).toArray := by
  rw [flat_app, flat_app, flat_app, flat_app, ← h.flat_len A]
  exact ovr_mid _ _ _ _ (by rw [h.flat_len, h.flat_len, hl])
theorem split_at' (D : List α) (i : Nat) (hi : i < D.length) : ∃ y, D = D.take i ++ ([y] ++ D.drop (i + 1)) ∧ D[i]? = some y := by
  refine ⟨D[i], ?_, List.getElem?_eq_getElem hi⟩
  have : [D[i]] ++ D.drop (i + 1) = D.drop i := by rw [List.drop_eq_getElem_cons hi]; rfl
  rw [this, List.take_append_drop]
theorem set_split (D : List α) (i : Nat) (x : α) (hi : i < D.length) : D.set i x = D.take i ++ ([x] ++ D.drop (i + 1)) := by
  rw [List.set_eq_take_append_cons_drop, if_pos hi]; rfl
theorem flat_set (h : R.Ok) (D : List α) (i : Nat) (x : α) (hi : i < D.length) : ovr (R.flat D).toArray (i * R.k) (R.c x) = (R.flat (D.set i x)).toArray := by
  obtain ⟨y, e, _⟩ := split_at' D i hi
  have hl : (D.take i).length = i := by rw [List.length_take]; omega
  have := flat_put h (D.take i) [y] (D.drop (i + 1)) [x] rfl
  rw [← e, hl, ← set_split D i x hi, flat_sing] at this
  exact this
theorem flat_cell (h : R.Ok) (D : List α) (i j : Nat) (x x' : α) (v : Value) (hx : D[i]? = some x) (hj : j < R.k) (hc : (R.c x).set j v = R.c x') : (R.flat D).toArray.setIfInBounds (i * R.k + j) v = (R.flat (D.set i x')).toArray := by
  have hi := (List.getElem?_eq_some_iff.1 hx).1
  obtain ⟨y, e, hy⟩ := split_at' D i hi
  obtain rfl : y = x := Option.some.inj (hy.symm.trans hx)
  have hl : (D.take i).length = i := by rw [List.length_take]; omega
  rw [set_split D i x' hi, List.setIfInBounds_toArray]
  congr 1
  conv => lhs; rw [e]
  rw [flat_app, flat_app, flat_sing, flat_app, flat_app, flat_sing, List.set_append_right _ _ (by rw [h.flat_len, hl]; omega), h.flat_len, hl, show i * R.k + j - i * R.k = j by omega, List.set_append_left _ _ (by rw [h.len]; exact hj), hc]
end
theorem ndL_fail (x : Nd) (h : IsHd x.h) : (ndL x).set 107 (.bool true) = ndL { x with fl := true } := by
  unfold ndL
  rw [← List.append_assoc, ← List.append_assoc, List.set_append_right _ _ (by simp [hdL_length h, hID_length])]
  congr 1
  have : (hdL x.h ++ (hID x.h).map byteV).length = 100 := by rw [List.length_append, hdL_length h, List.length_map, hID_length]
  rw [this]
  rfl
theorem nd_set {w : World} {b n c lo k : Nat} {M : List Nd} (h : MineR ndR w lo (.slice (some ⟨b, 0, none⟩) n c) (M.map ndC)) (hk : k < M.length) (hx : IsHd (ndA M k).h) :
    MineR ndR (w.setCell ⟨b, k * 108 + 107, none⟩ (.bool true)) lo (.slice (some ⟨b, 0, none⟩) n c) ((M.set k { ndA M k with fl := true }).map ndC) := by
  rcases h with ⟨e, _⟩ | ⟨T', cap, z, e, hc1, hc2, hT, K⟩
  · cases e
  · cases e
    rw [List.map_set]
    refine .inr ⟨b, c, z, by rw [List.length_set], by rw [List.length_set]; exact hc1, hc2, hT, ?_⟩
    have hkm : k < (M.map ndC).length := by rw [List.length_map]; exact hk
    have hx' : (M.map ndC ++ List.replicate z ndR.z)[k]? = some (ndC (ndA M k)) := by
      rw [List.getElem?_append_left hkm, List.getElem?_map, ndA_get hk]
      rfl
    have e := Bk.set_ K (k * 108 + 107) (.bool true)
    have e2 := flat_cell ndR_ok (M.map ndC ++ List.replicate z ndR.z) k 107 (ndC (ndA M k)) (ndC { ndA M k with fl := true }) (.bool true) hx' (by decide) (by
      show (ndC (ndA M k)).1.set 107 _ = (ndC { ndA M k with fl := true }).1
      rw [ndC_val hx, ndC_val (x := { ndA M k with fl := true }) hx]
      exact ndL_fail _ hx)
    change (ndR.flat (M.map ndC ++ List.replicate z ndR.z)).toArray.setIfInBounds (k * 108 + 107) (.bool true) = _ at e2
    rw [e2, List.set_append_left _ _ hkm] at e
    exact e
theorem nd_at {w : World} {b n c lo : Nat} {M : List Nd} (h : MineR ndR w lo (.slice (some ⟨b, 0, none⟩) n c) (M.map ndC)) (hM : ∀ x ∈ M, IsHd x.h) {j : Nat} (hj : j < M.length) : NdAt w b (j * 108) (ndA M j) := by
  have h1 := h.rows ndR_ok
  obtain ⟨x, b', o, hx, hs, _, hrg⟩ := row_at h1 j (by rw [List.length_map]; exact hj)
  have e2 : b' = b ∧ o = 0 := by injection hs with hs; injection hs with h1 h2; exact ⟨h1.symm, h2.symm⟩
  obtain ⟨rfl, rfl⟩ := e2
  rw [List.getElem?_map, ndA_get hj] at hx
  injection hx with hx
  have hi2 := hM _ (ndA_mem hj)
  subst hx
  rw [Nat.zero_add] at hrg
  have hrg : w.rangeAt b' (j * 108) (ndC (ndA M j)).1 := hrg
  rw [ndC_val hi2] at hrg
  exact NdAt.of hi2 hrg
theorem failTo_hd {L : List Nd} (T : TreeOk L) (i n : Nat) : ∀ x ∈ failTo L i n, IsHd x.h := by
  intro x hx
  obtain ⟨j, hj, rfl⟩ := List.getElem_of_mem hx
  have hj' : j < L.length := by rw [failTo_len] at hj; exact hj
  have e : (failTo L i n)[j] = ndA (failTo L i n) j := (ndA_some (List.getElem?_eq_getElem hj)).symm
  rw [e, failTo_get hj']
  split
  · exact T.hd (ndA L j) (ndA_mem hj')
  · exact T.hd (ndA L j) (ndA_mem hj')
theorem failTo_find {L : List Nd} (i n : Nat) (d : List Nat) : findI (failTo L i n) d = findI L d := by
  unfold findI failTo
  apply Option.ext
  intro k
  rw [List.findIdx?_eq_some_iff_getElem, List.findIdx?_eq_some_iff_getElem]
  constructor
  · rintro ⟨h1, h2, h3⟩
    rw [List.length_mapIdx] at h1
    refine ⟨h1, ?_, fun j hj => ?_⟩
    · rw [List.getElem_mapIdx] at h2; revert h2; split <;> exact id
    · have := h3 j hj; rw [List.getElem_mapIdx] at this; revert this; split <;> exact id
  · rintro ⟨h1, h2, h3⟩
    refine ⟨by rw [List.length_mapIdx]; exact h1, ?_, fun j hj => ?_⟩
    · rw [List.getElem_mapIdx]; revert h2; split <;> exact id
    · have := h3 j hj; rw [List.getElem_mapIdx]; revert this; split <;> exact id
end Go.Proofs.YtljfhabhenaapaaDoor
namespace Go.Proofs.YtljfhabhenaapaaDoor
open Go.RowKit
set_option linter.unusedVariables false
set_option linter.unusedSimpArgs false
set_option maxRecDepth 100000
/-- What holds between the rounds: up to the n-th those have failed that should. -/
structure FailI (w wr : World) (p lo : Nat) (r : Ru) (L : List Nd) (i n b c m : Nat) : Prop where
  blk : Bk wr p 76 (ruL r ++ [Value.slice (some ⟨b, 0, none⟩) L.length c, Value.map (some m)]).toArray
  row : MineR ndR wr lo (.slice (some ⟨b, 0, none⟩) L.length c) ((failTo L i n).map ndC)
  mp : MapG akE wr m L.length (fnd L)
  but : But (F0 p (.slice (some ⟨b, 0, none⟩) L.length c) m) w wr
theorem FailI.drew {w wr : World} {p lo : Nat} {r : Ru} {L : List Nd} {i n b c m : Nat} (h : FailI w wr p lo r L i n b c m) : FailI w wr.drew p lo r L i n b c m :=
  ⟨h.blk.drew, h.row.keep (Below.refl _ _).drew, h.mp.keep (Below.refl _ _).drew, h.but.drew⟩
theorem FailI.skip {w wr : World} {p lo : Nat} {r : Ru} {L : List Nd} {i n b c m : Nat} (h : FailI w wr p lo r L i n b c m) (hn : n < L.length) (hs : (!(ndA L n).fl && onB L (i : Int) (n : Int)) = false) : FailI w wr p lo r L i (n + 1) b c m := by
  refine ⟨h.blk, ?_, h.mp, h.but⟩
  have e : failTo L i (n + 1) = failTo L i n := by
    rw [failTo_succ hn]
    apply List.ext_getElem?
    intro j
    rw [List.getElem?_set]
    by_cases e : n = j
    · subst e
      rw [if_pos rfl, if_pos (by rw [failTo_len]; exact hn), ndA_get (by rw [failTo_len]; exact hn), failTo_get hn, if_neg (Nat.lt_irrefl _)]
      congr 1
      cases hf : (ndA L n).fl with
      | true => rw [Bool.true_or, ← hf]
      | false =>
        rw [hf] at hs
        simp at hs
        rw [hs, Bool.false_or, ← hf]
    · rw [if_neg e]
  rw [e]
  exact h.row
theorem FailI.fail {w wr : World} {p lo : Nat} {r : Ru} {L : List Nd} {i n b c m : Nat} (T : TreeOk L) (h : FailI w wr p lo r L i n b c m) (hr : IsRu r) (hn : n < L.length) (hs : (!(ndA L n).fl && onB L (i : Int) (n : Int)) = true) : FailI w (wr.setCell ⟨b, n * 108 + 107, none⟩ (.bool true)) p lo r L i (n + 1) b c m := by
  have hnp : ¬ b = p := fun e => h.row.apart h.blk (by decide) (by rw [← e]; exact slb_mk b 0 _ c)
  have hnm : ¬ b = m := fun e => by
    obtain ⟨_, _, ys, K⟩ := h.row.slb_lo (slb_mk b 0 _ c)
    exact map_apart h.mp (by rw [← e]; exact K)
  have hb : But (fun k => k = b) wr (wr.setCell ⟨b, n * 108 + 107, none⟩ (.bool true)) := But.set_ (S := fun k => k = b) (g := b) (But.refl _ _) (.inl rfl) _ none _
  have hnl : n < (failTo L i n).length := by rw [failTo_len]; exact hn
  have hx := failTo_hd T i n _ (ndA_mem hnl)
  refine ⟨hb.keep h.blk (fun e => hnp e.symm), ?_, h.mp.but hb (fun e => hnm e.symm), h.but.trans (hb.mono (fun k _ e => (Or.inr (Or.inl (e ▸ slb_mk b 0 _ c)) : F0 p (.slice (some ⟨b, 0, none⟩) L.length c) m k))) (fun _ _ h => h)⟩
  have := nd_set h.row hnl hx
  have e : (failTo L i n).set n { ndA (failTo L i n) n with fl := true } = failTo L i (n + 1) := by
    rw [failTo_succ hn, failTo_get hn, if_neg (Nat.lt_irrefl _)]
    congr 1
    simp at hs
    rw [hs.2, Bool.or_true]
  rw [e] at this
  exact this
def failR (L : List Nd) (i : Int) : Int := if 0 < i ∧ i < (L.length : Int) then (failN L i.toNat L.length : Int) else 0
def failT (L : List Nd) (i : Int) : List Nd := if 0 < i ∧ i < (L.length : Int) then failTo L i.toNat L.length else L
theorem failN_le (L : List Nd) (i n : Nat) : failN L i n ≤ n := by
  unfold failN
  exact Nat.le_trans List.countP_le_length (by rw [List.length_range]; exact Nat.le_refl _)
set_option maxHeartbeats 16000000 in
theorem tfail_any {w : World} {p lo : Nat} {F : Nat → Prop} {r : Ru} {L : List Nd} (h : Tre w p lo F r L) (iI : Int) (hL : L.length ≤ 16384) :
    Calls Tryd.prog 15 #[pv p, .int .i64 iI] w fun e w' => e = .returned (.int .i64 (failR L iI)) ∧ AddG w p lo F r (failT L iI) w' := by
  have HH := Lib.hid (has_any h iI)
  have HT := Lib.hid h
  have zp := h.look.elim fun b h => h.elim fun c k => k.p1
  unfold pv at HH ⊢
  by_cases hi : hasB L iI = true
  · rw [hi] at HH
    have hi2 := of_decide_eq_true hi
    by_cases hi0 : iI = 0
    · subst hi0
      have HR : Hid (failR L 0 = 0 ∧ failT L 0 = L) := ⟨by unfold failR; rw [if_neg (by omega)], by unfold failT; rw [if_neg (by omega)]⟩
      clear hi hi2 h
      go_enter Tryd.func15, Tryd.ntmps15
      go_wp2_with fail
      refine HH.out.mono ?_
      rintro e w1 ⟨rfl, rfl⟩
      go_wp2_with fail
      go_ret
      exact ⟨by rw [HR.out.1]; rfl, by rw [HR.out.2]; exact AddG.stay HT.out (Below.refl _ _)⟩
    · obtain ⟨i, rfl⟩ : ∃ i : Nat, iI = (i : Int) := ⟨iI.toNat, by omega⟩
      have hi1 : 0 < i := by omega
      have hil : i < L.length := by omega
      have d0 : ((i : Int) == 0) = false := by simp; omega
      have HV : Hid (failR L (i : Int) = (failN L i L.length : Int) ∧ failT L (i : Int) = failTo L i L.length) := ⟨by unfold failR; rw [if_pos (by omega)]; rfl, by unfold failT; rw [if_pos (by omega)]; rfl⟩
      obtain ⟨v, m, hV, hFe⟩ := h
      obtain ⟨b, c, hv, _, hlb, _, _⟩ := hV.rows
      subst hv
      have T := hV.ok
      have HTK := Lib.hid T
      have hr := Lib.hid hV.hr
      have H0 : Hid (FailI w w p lo r L i i b c m) := ⟨hV.blk, by rw [failTo_start T hil]; exact hV.row, hV.mp, But.refl _ _⟩
      have HLP := Lib.hid hV.lp
      have HLM := Lib.hid hV.lm
      have HFE := Lib.hid hFe
      have HIL := Lib.hid hil
      obtain ⟨N, hN⟩ : ∃ N, N = L.length := ⟨_, rfl⟩
      have HN := Lib.hid hN
      have hN6 : N ≤ 16384 := by rw [hN]; exact hL
      have hiN : i ≤ N := by omega
      clear hV hFe T hi hi2 hi0 hN hil
      go_enter Tryd.func15, Tryd.ntmps15
      go_wp2_with fail
      refine HH.out.mono ?_
      rintro e w1 ⟨rfl, rfl⟩
      go_upto_region 4 with fail
      go_wp2_with fail
      go_loopw [5, 6] (fun kv nv wr => ∃ n : Nat, kv = .int .i64 ((failN L i n : Nat) : Int) ∧ nv = .int .i64 (n : Int) ∧ i ≤ n ∧ n ≤ N ∧ Hid (FailI w1 wr p lo r L i n b c m)) (fun _ nv _ => N - (intOf nv).toNat)
      case atStart => exact ⟨i, by rw [failN_start HTK.out HIL.out]; rfl, rfl, Nat.le_refl _, hiN, H0.out⟩
      case round =>
        obtain ⟨n, rfl, rfl, hin, hnN, HF⟩ := hrel
        have hc := cell_at hr.out HF.out.blk
        have c74 := hc.1
        rw [← HN.out] at c74
        clear hc
        have zpr := HF.out.blk.lt
        by_cases hlt : n < N
        · have d1 : decide ((n : Int) < (N : Int)) = true := decide_eq_true (by omega)
          have d2 : decide (n < N) = true := decide_eq_true hlt
          have hnL : n < L.length := by rw [← HN.out]; exact hlt
          have hnF : n < (failTo L i n).length := by rw [failTo_len]; exact hnL
          have hat := nd_at HF.out.row (failTo_hd HTK.out i n) hnF
          have hbK := HF.out.row.slb_lo (slb_mk b 0 _ c)
          have zb := hbK.2.1
          have ask := failTo_ask HTK.out hi1 HIL.out hin hnL
          have HASK := Lib.hid ask
          obtain ⟨fl, hfl⟩ : ∃ fl, fl = (ndA (failTo L i n) n).fl := ⟨_, rfl⟩
          have cf := Lib.hid hat.fl
          rw [← hfl] at cf
          have HFL := Lib.hid hfl
          have HSK : Hid ((!(ndA L n).fl && onB L (i : Int) (n : Int)) = false → failN L i (n + 1) = failN L i n) := fun e => by rw [failN_succ, e]; rfl
          have HSY : Hid ((!(ndA L n).fl && onB L (i : Int) (n : Int)) = true → failN L i (n + 1) = failN L i n + 1) := fun e => by rw [failN_succ, e]; rfl
          have hkl := failN_le L i n
          cases hfc : fl with
          | true =>
            have hs : (!(ndA L n).fl && onB L (i : Int) (n : Int)) = false := by rw [← HASK.out, ← HFL.out, hfc]; rfl
            have HNEW : Hid (FailI w1 wr.drew p lo r L i (n + 1) b c m) := (HF.out.skip hnL hs).drew
            have HK := Lib.hid (HSK.out hs)
            rw [hfc] at cf
            clear hs hfc hfl ask hat hnF
            go_upto_region 8 with fail
            refine fail8a p b n i wr _ _ _ _ _ _ _ _ _ _ _ _ _ _ _ _ _ _ _ _ _ _ _ _ _ _ _ _ _ _ _ _ _ _ _ _ _ _ _ _ _ _ _ _ _ _ _ _ _ _ _ _ _ _ _ _ _ _ zpr zb cf (Lib.hid (fun x32 x33 x34 x35 x36 x37 x38 x39 x40 x41 x42 x43 x44 x45 x46 x47 x48 x49 x50 x51 x52 x53 w5 h5 => ?_))
            subst h5
            go_wp2_with fail
            go_roundw
            case rel => exact ⟨n + 1, by rw [HK.out], by go_num, by omega, by omega, HNEW⟩
            case measure => simp [intOf]; omega
          | false =>
            rw [hfc] at cf
            by_cases e : n = i
            · have hni : ((n : Int) == (i : Int)) = true := by simp [e]
              have hs : (!(ndA L n).fl && onB L (i : Int) (n : Int)) = true := by rw [← HASK.out, ← HFL.out, hfc, decide_eq_true e]; rfl
              have HDF : Hid (FailI w1 wr.drew p lo r L i n b c m) := HF.out.drew
              have HNEW : Hid (FailI w1 (wr.drew.setCell ⟨b, n * 108 + 107, none⟩ (.bool true)) p lo r L i (n + 1) b c m) := HDF.out.fail HTK.out hr.out hnL hs
              have HK := Lib.hid (HSY.out hs)
              have cfd : wr.drew.cell? ⟨b, n * 108 + 107, none⟩ = some (.bool false) := cf.out
              have ffd : wr.drew.frozen? ⟨b, n * 108 + 107, none⟩ = false := by obtain ⟨_, _, ys, K⟩ := HDF.out.row.slb_lo (slb_mk b 0 _ c); exact K.frozen _
              have zbd : b < wr.drew.heap.size := zb
              have w1w : IntKind.i64.wrap (((failN L i n : Nat) : Int) + 1) = ((failN L i n : Nat) : Int) + 1 := IntWalk.i64_in _ (by omega)
              clear hs hfl ask hat hnF hfc e
              go_upto_region 8 with fail
              refine fail8b p b n i wr _ _ _ _ _ _ _ _ _ _ _ _ _ _ _ _ _ _ _ _ _ _ _ _ _ _ _ _ _ _ _ _ _ _ _ _ _ _ _ _ _ _ _ _ _ _ _ _ _ _ _ _ _ _ _ _ _ _ zpr zb hni cf (Lib.hid (fun x32 x33 x34 x35 x36 x37 x38 x39 x40 x41 x42 x43 x44 x45 x46 x47 x48 x49 x50 x51 x52 x53 w5 h5 => ?_))
              subst h5
              go_wp2_with fail
              go_roundw
              case rel => exact ⟨n + 1, by rw [HK.out]; go_num, by go_num, by omega, by omega, HNEW⟩
              case measure => simp [intOf]; omega
            · have hni : ((n : Int) == (i : Int)) = false := by simp; omega
              have hn0 : 0 < n := by omega
              have hpr := HTK.out.par_lt hn0 hnL
              have cp := hat.pr
              have hpe : (ndA (failTo L i n) n).pr = (ndA L n).pr := by rw [failTo_get hnL, if_neg (Nat.lt_irrefl _)]
              rw [hpe, hpr.2.2.1] at cp
              have HCP := Lib.hid cp
              have hqL : parN L n < L.length := Nat.lt_trans hpr.1 hnL
              have hatq := nd_at HF.out.row (failTo_hd HTK.out i n) (j := parN L n) (by rw [failTo_len]; exact hqL)
              have HCQ := Lib.hid hatq.fl
              obtain ⟨q, hq⟩ : ∃ q, q = parN L n := ⟨_, rfl⟩
              rw [← hq] at HCP HCQ hqL
              obtain ⟨fq, hfq⟩ : ∃ fq, fq = (ndA (failTo L i n) q).fl := ⟨_, rfl⟩
              rw [← hfq] at HCQ
              have hask2 : fq = (!(ndA L n).fl && onB L (i : Int) (n : Int)) := by rw [← HASK.out, ← HFL.out, hfc, decide_eq_false e, ← hq, ← hfq]; simp
              have hqN : q < N := by rw [HN.out]; exact hqL
              have HC7 := Lib.hid c74
              have HAS2 := Lib.hid hask2
              clear hfq hq hpr cp hpe hatq hfl ask hat hnF hfc e hask2 hn0 hqL
              go_upto_region 8 with fail
              refine fail8c p b n N c q fq i wr _ _ _ _ _ _ _ _ _ _ _ _ _ _ _ _ _ _ _ _ _ _ _ _ _ _ _ _ _ _ _ _ _ _ _ _ _ _ _ _ _ _ _ _ _ _ _ _ _ _ _ _ _ _ _ _ _ _ zpr zb hni hqN (by omega) cf HC7 HCP HCQ (Lib.hid (fun x32 x33 x34 x35 x36 x37 x38 x39 x40 x41 x42 x43 x44 x45 x46 x47 x48 x49 x50 x51 x52 x53 w5 h5 => ?_))
              subst h5
              have HDF : Hid (FailI w1 wr.drew p lo r L i n b c m) := HF.out.drew
              cases hfqc : fq with
              | true =>
                have hs := HAS2.out.symm.trans hfqc
                have HNEW : Hid (FailI w1 (wr.drew.setCell ⟨b, n * 108 + 107, none⟩ (.bool true)) p lo r L i (n + 1) b c m) := HDF.out.fail HTK.out hr.out hnL hs
                have HK := Lib.hid (HSY.out hs)
                have cfd : wr.drew.cell? ⟨b, n * 108 + 107, none⟩ = some (.bool false) := cf.out
                have ffd : wr.drew.frozen? ⟨b, n * 108 + 107, none⟩ = false := by obtain ⟨_, _, ys, K⟩ := HDF.out.row.slb_lo (slb_mk b 0 _ c); exact K.frozen _
                have zbd : b < wr.drew.heap.size := zb
                have w1w : IntKind.i64.wrap (((failN L i n : Nat) : Int) + 1) = ((failN L i n : Nat) : Int) + 1 := IntWalk.i64_in _ (by omega)
                clear hs hfqc HAS2
                go_wp2_with fail
                go_roundw
                case rel => exact ⟨n + 1, by rw [HK.out]; go_num, by go_num, by omega, by omega, HNEW⟩
                case measure => simp [intOf]; omega
              | false =>
                have hs := HAS2.out.symm.trans hfqc
                have HNEW : Hid (FailI w1 wr.drew p lo r L i (n + 1) b c m) := HDF.out.skip hnL hs
                have HK := Lib.hid (HSK.out hs)
                clear hs hfqc HAS2
                go_wp2_with fail
                go_roundw
                case rel => exact ⟨n + 1, by rw [HK.out], by go_num, by omega, by omega, HNEW⟩
                case measure => simp [intOf]; omega
        · have d1 : decide ((n : Int) < (N : Int)) = false := decide_eq_false (by omega)
          have d2 : decide (n < N) = false := decide_eq_false hlt
          obtain rfl : n = N := by omega
          have HG : Hid (AddG w1 p lo F r (failT L (i : Int)) wr) := by
            show AddG _ _ _ _ _ _ _
            rw [HV.out.2, HFE.out]
            have hrow := HF.out.row
            rw [HN.out] at hrow
            have hmp := HF.out.mp
            refine ⟨F0 p (.slice (some ⟨b, 0, none⟩) L.length c) m, ⟨_, m, ⟨failTo_all HTK.out hi1 HIL.out, hr.out, HF.out.blk, hrow, ?_, HLP.out, HLM.out⟩, rfl⟩, HF.out.but, fun k hk => .inl hk⟩
            rw [failTo_len]
            have e : fnd (failTo L i L.length) = fnd L := by funext z; unfold fnd; rw [failTo_find]
            rw [e]
            exact hmp
          have HVN : Hid (failR L (i : Int) = ((failN L i n : Nat) : Int)) := by
            show _ = _
            rw [HV.out.1, HN.out]
          go_wp2_with fail
          go_ret
          exact ⟨by rw [HVN.out]; rfl, HG.out⟩
  · have hi' : hasB L iI = false := by cases e : hasB L iI with
      | true => exact absurd e hi
      | false => rfl
    rw [hi'] at HH
    have hi3 := of_decide_eq_false hi'
    have HR : Hid (failR L iI = 0 ∧ failT L iI = L) := ⟨by unfold failR; rw [if_neg (by omega)], by unfold failT; rw [if_neg (by omega)]⟩
    clear hi hi' h hi3
    go_enter Tryd.func15, Tryd.ntmps15
    go_wp2_with fail
    refine HH.out.mono ?_
    rintro e w1 ⟨rfl, rfl⟩
    go_wp2_with fail
    go_ret
    exact ⟨by rw [HR.out.1]; rfl, by rw [HR.out.2]; exact AddG.stay HT.out (Below.refl _ _)⟩
end Go.Proofs.YtljfhabhenaapaaDoor
namespace Go.Proofs.YtljfhabhenaapaaDoor
open Go.ChangeShapes Go.WideShapes Go.ChangeAt Go.RowKit
open Go.Deep (open_slice choose_lt)
set_option linter.unusedVariables false
set_option linter.unusedSimpArgs false
set_option maxRecDepth 100000
def intR : RowT Int := ⟨3, 53, 1, 8, fun z => [.int .i64 z], 0⟩
theorem int_facts : (Tryd.prog.info? 3).map (fun i => (i.zero.map (·.cells), i.size, i.bytes)) = some (some #[.int .i64 0], 1, 8) := by kernel_rfl
theorem int_info : ∃ i v, Tryd.prog.info? 3 = some i ∧ i.zero = some v ∧ i.size = 1 ∧ i.bytes = 8 ∧ v.cells = #[.int .i64 0] := by
  obtain ⟨i, hi, hs⟩ := Option.map_eq_some_iff.1 int_facts
  simp only [Prod.mk.injEq, Option.map_eq_some_iff] at hs
  obtain ⟨⟨v, hv, hc⟩, h1, h2⟩ := hs
  exact ⟨i, v, hi, hv, h1, h2, hc⟩
theorem intR_ok : intR.Ok where
  ht := Tryd.underlying53
  info := int_info
  len := fun x => rfl
  one := fun x v hv => by
    rw [List.mem_singleton.1 hv]
    rfl
  pos := by decide
  bys := by decide
theorem ints_arg {H : Type} {enc : TypeId × Value → H} {w : World} {base b0 : Nat} {spare : Nat → Bool} {held : Bool} {r : Reach} {v : Value} {d : DataW H} {p : List MemPlace}
    (hv : Value.okWide Tryd.prog w r b0 53 v) (h : DataW.Trod enc Tryd.prog w base spare held 53 v d p) : ∃ L : List Int, RowV intR w w.heap.size v L ∧ ∀ z ∈ L, InI z := by
  obtain ⟨s0, len, cap, rfl⟩ := okWide_slice Tryd.underlying53 hv
  obtain ⟨fuel, hf⟩ := h
  obtain ⟨s, L, c, h1, h2, h3⟩ := rows_trod intR_ok (fun z => InI z) (by kernel_rfl) (fun n cs d h1 h2 => by
    obtain ⟨z, e1, _, hw⟩ := DataW.trod_int Tryd.underlying3 h2
    exact ⟨z, wf_i64n hw, e1⟩) hf
  simp [Value.cells] at h1
  obtain ⟨rfl, rfl, rfl⟩ := h1
  exact ⟨L, h2, h3⟩
/-- The parent that a number stands for. -/
def parI (z : Int) (N : Nat) : Nat := (max 0 (min z ((N : Int) - 1))).toNat
theorem parI_lt {z : Int} {N : Nat} (h : 0 < N) : parI z N < N := by unfold parI; omega
theorem parI_is {z : Int} {N : Nat} (h : 0 < N) : max 0 (min z ((N : Int) - 1)) = (parI z N : Int) := by unfold parI; omega
theorem g0_sound : Sound [g0] := fun j hj => by
  have : j = 0 := by simpa using hj
  subst this
  rfl
theorem Tre.okT {w : World} {p lo : Nat} {F : Nat → Prop} {r : Ru} {L : List Nd} (h : Tre w p lo F r L) : TreeOk L := by
  obtain ⟨_, _, hV, _⟩ := h
  exact hV.ok
/-- What doesn't fit leaves the tree as it is. -/
theorem addF_stay {L : List Nd} (T : TreeOk L) {lim : Nat} {x : Hd} {now : Int} (h : provV x lim ≠ 0 ∨ ∃ p, p < L.length ∧ x.p = hID (ndA L p).h ∧ (ndA L p).fl = true) : (addF L lim x now).1 = L := by
  unfold addF
  cases findI L (hID x) with
  | some i => rfl
  | none =>
    cases hf : findI L x.p with
    | none => rfl
    | some p =>
      have : fitsV L lim x (p : Int) now ≠ 0 := by
        unfold fitsV
        split
        · decide
        · split
          · assumption
          · rename_i _ h2
            rcases h with h | ⟨q, hq, hx, hfl⟩
            · exact absurd h h2
            · rw [findI_at T hq hx.symm] at hf
              injection hf with hf
              subst hf
              rw [Int.toNat_natCast, if_pos hfl]
              decide
      show (if fitsV L lim x (p : Int) now ≠ 0 then _ else _ : List Nd × Int × Nat).1 = L
      rw [if_pos this]
theorem provV_hd0 (l : Nat) : provV hd0 l ≠ 0 := by
  unfold provV
  rw [if_pos (Or.inl (by decide))]
  decide
/-- The marks of a tree one of whose headers has failed. -/
theorem Sound.next {L : List Nd} (h : Sound L) (i : Nat) {n : Nat} (hn : n < L.length) : failN L i (n + 1) = failN L i n + if (ndA (failTo L i L.length) n).fl = true then 1 else 0 := by
  rw [failN_succ, failTo_get hn, if_pos hn, h n hn]
  simp
theorem Sound.self {L : List Nd} (h : Sound L) (T : TreeOk L) {i : Nat} (hi : i < L.length) : (ndA (failTo L i L.length) i).fl = true := by
  rw [failTo_get hi, if_pos hi, onB_nat T hi hi]
  show ((ndA L i).fl || decide _) = true
  rw [decide_eq_true ⟨Nat.le_refl _, anc_self⟩, Bool.or_true]
end Go.Proofs.YtljfhabhenaapaaDoor
namespace Go.Proofs.YtljfhabhenaapaaDoor
open Go.RowKit
set_option linter.unusedVariables false
set_option linter.unusedSimpArgs false
set_option maxRecDepth 100000
set_option maxHeartbeats 32000000 in
theorem walkFl (f : Int) (PL : List Int) (v : Value) (w : World) (hLd : Laid w) (hf : -9223372036854775808 ≤ f ∧ f ≤ 9223372036854775807) (hP : RowV intR w w.heap.size v PL) (hPI : ∀ x ∈ PL, InI x) :
    Calls Tryd.prog 4 #[v, .int .i64 f] w fun e w' => e = .returned (.bool true) ∧ Below w.heap.size w w' := by
  have h63 : PL.length < 9223372036854775808 := by obtain ⟨_, _, _, h1, h2, _⟩ := hP; omega
  obtain ⟨s0, c, rfl⟩ : ∃ s c, v = .slice s PL.length c := hP.slice
  have hrow := row_at hP
  obtain ⟨m, hm⟩ : ∃ m, m = PL.length := ⟨_, rfl⟩
  rw [← hm] at hrow h63 ⊢
  have HR : Hid (∀ k, k < m → ∃ (x : Int) (b o : Nat), PL[k]? = some x ∧ s0 = some ⟨b, o, none⟩ ∧ b < w.heap.size ∧ w.rangeAt b (o + k * 1) [.int .i64 x]) := hrow
  have HPI := Lib.hid hPI
  have HGR := Lib.hid (grows_any w hLd)
  have HLD := Lib.hid hLd
  have HE := Lib.hid easy_any
  have HN := Lib.hid (fun W (hW : Below w.heap.size w W) => new_any W (hLd.keep hW))
  have HFI := Lib.hid hf
  clear hrow hm hP hPI hLd hf
  go_enter Tryd.func4, Tryd.ntmps4
  go_wp2_with fail
  refine HGR.out.mono ?_
  rintro e w1 ⟨rfl, hb1⟩
  have HB1 := Lib.hid hb1
  clear HGR hb1
  by_cases hm50 : 25 < m
  · have d3 : decide ((25 : Int) < (m : Int)) = true := decide_eq_true (by omega)
    clear hm50
    go_wp2_with fail
    go_ret
    exact ⟨rfl, HB1.out⟩
  have d3 : decide ((25 : Int) < (m : Int)) = false := decide_eq_false (by omega)
  generalize ruA r0 = RA at *
  go_wp2_with fail
  refine (HE.out w1).mono ?_
  rintro e w2 ⟨rfl, hb2⟩
  have HB2 := Lib.hid (HB1.out.trans (hb2.mono HB1.out.size))
  clear hb2
  go_wp2_with fail
  refine (HN.out w2 HB2.out).mono ?_
  rintro e w3 ⟨p, F, rfl, hT3, hb3⟩
  unfold pv
  have HB3 := Lib.hid (HB2.out.trans (hb3.mono HB2.out.size))
  have HT3 := Lib.hid hT3
  have hlo : w.heap.size ≤ w2.heap.size := HB2.out.size
  have HLO := Lib.hid hlo
  clear hb3 hT3 hlo HN HE HB1 HB2
  generalize w2.heap.size = lo at *
  clear w2 w1
  go_wp2_with fail
  go_loopw [30] (fun iv wr => ∃ (i : Nat) (L : List Nd) (F : Nat → Prop), iv = .int .i64 (i : Int) ∧ i ≤ m ∧ Hid (L.length ≤ i + 1) ∧ Hid (Sound L) ∧ Hid (Tre wr p lo F r0 L) ∧ Hid (Below w.heap.size w wr)) (fun iv _ => m - (intOf iv).toNat)
  case atStart => exact ⟨0, [g0], F, rfl, Nat.zero_le _, Nat.le_refl _, g0_sound, HT3.out, HB3.out⟩
  case round =>
    obtain ⟨i, L, F, rfl, hi, HLL, HSD, HT, HB⟩ := hrel
    clear HT3 HB3
    rename World => wq
    by_cases hlt : i < m
    · have j1 : decide ((i : Int) < (m : Int)) = true := decide_eq_true (by omega)
      have j2 : decide (i < m) = true := decide_eq_true hlt
      obtain ⟨z, b, o, hx, rfl, hbw, hrg⟩ := HR.out i hlt
      have hI := HPI.out z (List.mem_of_getElem? hx)
      have hrg : wq.rangeAt b (o + i * 1) [.int .i64 z] := rowr_below hrg HB.out hbw
      have hbz : b < wq.heap.size := Nat.lt_of_lt_of_le hbw HB.out.size
      have c0 : wq.cell? ⟨b, o + i * 1, none⟩ = some (.int .i64 z) := hrg 0 _ rfl
      have c1 : wq.cell? ⟨b, o + i, none⟩ = some (.int .i64 z) := by rw [← Nat.mul_one i]; exact hrg 0 _ rfl
      have hN0 := HT.out.ok.pos
      have hLE := HLL.out
      obtain ⟨N, hN⟩ : ∃ N, N = L.length := ⟨_, rfl⟩
      have HTL : Hid (∀ W, Below wq.heap.size wq W → Calls Tryd.prog 14 #[.pointer (some ⟨p, 0, none⟩)] W fun e w' => e = .returned (.int .i64 (N : Int)) ∧ w' = W) := fun W h => by rw [hN]; exact tlen_any (HT.out.keep h)
      have hj := parI_lt (z := z) (N := N) (by omega)
      have hjI := parI_is (z := z) (N := N) (by omega)
      have wN : IntKind.i64.wrap ((N : Int) - 1) = (N : Int) - 1 := IntWalk.i64_in _ (by omega)
      obtain ⟨j, hjj⟩ : ∃ j, j = parI z N := ⟨_, rfl⟩
      rw [← hjj] at hj hjI
      have HJI := Lib.hid hjI
      have hjl : j < L.length := by omega
      have hix := HT.out.ok.hd _ (ndA_mem hjl)
      obtain ⟨x, hx⟩ : ∃ x, x = ndA L j := ⟨_, rfl⟩
      have hG : Hid (∀ W, Below wq.heap.size wq W → Calls Tryd.prog 10 #[.pointer (some ⟨p, 0, none⟩), .int .i64 (j : Int)] W fun e w' => e = .returned (.agg (ndL x).toArray) ∧ Below W.heap.size W w') := fun W h => by
        have := get_any (HT.out.keep h) (j : Int)
        rw [getN_nat hjl, ← hx] at this
        exact this
      rw [← hx] at hix
      have HX := Lib.hid hx
      have htl := hix.t
      obtain ⟨NA, hNA⟩ : ∃ NA, NA = (ndL x).toArray := ⟨_, rfl⟩
      obtain ⟨HX2, hHX⟩ : ∃ HX2, HX2 = (hdL x.h).toArray := ⟨_, rfl⟩
      obtain ⟨tx, htx⟩ : ∃ tx, tx = x.h.t := ⟨_, rfl⟩
      obtain ⟨t1, ht1⟩ : ∃ t1, t1 = (tx + 1) % 4294967296 := ⟨_, rfl⟩
      obtain ⟨IDL, hIDL⟩ : ∃ IDL, IDL = idL (nameI x.h) := ⟨_, rfl⟩
      obtain ⟨ZH, hZH⟩ : ∃ ZH, ZH = hdA hd0 := ⟨_, rfl⟩
      obtain ⟨B0, hB0⟩ : ∃ B0, B0 = bH i (nameI x.h) := ⟨_, rfl⟩
      obtain ⟨HQ, hHQ⟩ : ∃ HQ, HQ = (hdL ⟨i, (nameI x.h).1, zeros 32, t1, 545259519, 0⟩).toArray := ⟨_, rfl⟩
      obtain ⟨o, ho⟩ : ∃ o, o = mined i t1 1000 (nameI x.h) := ⟨_, rfl⟩
      have hoi : IsHd (minedH o) := by rw [ho]; exact mined_is (by omega) (by omega) _
      have f0 : ∀ w, (Instr.field 45 (.agg NA) 1).run Tryd.prog w = .ok (.agg IDL.toArray) w := fun w => by rw [hNA, hIDL]; exact nf_id hix w
      have f1 : ∀ w, (Instr.field 45 (.agg NA) 0).run Tryd.prog w = .ok (.agg HX2) w := fun w => by rw [hNA, hHX]; exact nf_hd hix w
      have f2 : ∀ w, (Instr.field 32 (.agg HX2) 3).run Tryd.prog w = .ok (.int .u32 (tx : Int)) w := fun w => by rw [hHX, htx]; exact hf_t hix w
      have z1 : ∀ w, (zeroValue 32).run Tryd.prog w = .ok (.agg ZH) w := fun w => by rw [hZH]; exact hd_zero w
      have z2 : (ZH = #[]) = False := by rw [hZH]; exact hd_zne
      have z3 : ZH.size = 68 := by rw [hZH]; exact hdA_size hd0_is
      have b1 : IDL.zipIdx.foldl (fun (cs : Array Value) (x : Value × Nat) => cs.setIfInBounds (1 + x.2) x.1) (ZH.setIfInBounds 0 (.int .u32 (i : Int))) = B0 := by rw [hIDL, hZH, hB0]; exact bH_1 _ _
      have b2 : B0.size = 68 := by rw [hB0]; exact bH_size _ _
      have b3 : (B0.setIfInBounds 65 (.int .u32 (t1 : Int))).setIfInBounds 66 (.int .u32 545259519) = HQ := by rw [hB0, hHQ]; exact bH_2 i t1 (nameI x.h)
      have b4 : IDL.length = 32 := by rw [hIDL]; exact idL_len _
      have w1w : IntKind.i64.wrap ((i : Int) + 1) = (i : Int) + 1 := IntWalk.i64_in _ (by omega)
      have w2w : IntKind.u32.wrap ((tx : Int) + 1) = (t1 : Int) := by rw [IntKind.wrap_u32, ht1]; omega
      have w3w : IntKind.u32.wrap (i : Int) = (i : Int) := by rw [IntKind.wrap_u32]; omega
      have hM : Hid (∀ W, Below w.heap.size w W → Calls Tryd.prog 9 #[.agg HQ, .int .u32 545259519, .int .i64 1000] W fun e w' => e = .returned (.tuple #[.agg (hdL (minedH o)).toArray, .bool o.isSome]) ∧ Below W.heap.size W w') := fun W hW => by
        rw [hHQ, ho]
        exact mine_law i t1 (nameI x.h) W (by omega) (by omega) (HLD.out.keep hW)
      obtain ⟨HL, hHL⟩ : ∃ HL, HL = hdL (minedH o) := ⟨_, rfl⟩
      have hMD : ∀ W : World, (W.alloc (.cells ZH 32)).there W.heap.size 0 HL.toArray.size ∧ Below W.heap.size W ((W.alloc (.cells ZH 32)).setCells W.heap.size 0 HL) ∧ Bk ((W.alloc (.cells ZH 32)).setCells W.heap.size 0 HL) W.heap.size 32 HL.toArray := fun W => by rw [hHL]; exact hd_made _ hoi ZH z3
      have l2 : (Tryd.prog.info? 32).map (·.size) = some HL.toArray.size := by rw [hHL]; exact hd_szA hoi
      have l3 : HL.toArray.all (·.oneCell') = true := by rw [hHL]; exact hd_onA _
      have hA : Hid (∀ W, Below wq.heap.size wq W → Below w.heap.size w W → Calls Tryd.prog 11 #[.pointer (some ⟨p, 0, none⟩), .agg HL.toArray, .int .i64 100000] W fun e w' => e = .returned (.tuple #[.int .i64 (addF L 545259519 (minedH o) 100000).2.1, .int .i64 (((addF L 545259519 (minedH o) 100000).2.2 : Nat) : Int)]) ∧ AddG W p lo F r0 (addF L 545259519 (minedH o) 100000).1 w') := fun W h1 h2 => by
        rw [hHL]
        exact tadd_any (HT.out.keep h1) rfl (minedH o) hoi 100000 (by decide) (HLD.out.keep h2) (by omega)
      have HO := Lib.hid ho
      rw [← hNA] at hG
      rw [← hHL] at hM
      have hx2 := hx
      clear hx2 hx hNA hIDL hZH hB0 hHQ ho hHL hix hjl hHX htx ht1 htl hN hN0 hLE hrg hbw hjj hI
      go_wp2_with fail
      refine (HTL.out _ (Below.refl _ _)).mono ?_
      rintro e wq ⟨rfl, rfl⟩
      go_wp2_with fail

      refine (hG.out _ (Below.refl _ _)).mono ?_
      rintro e w4 ⟨rfl, hb4⟩
      have HQ4 := Lib.hid hb4
      have HB4 := Lib.hid (HB.out.trans (hb4.mono HB.out.size))
      clear hb4
      go_wp2_with fail
      refine (hG.out _ HQ4.out).mono ?_
      rintro e w44 ⟨rfl, hb4⟩
      have HQ44 := Lib.hid (HQ4.out.trans (hb4.mono HQ4.out.size))
      have HB44 := Lib.hid (HB4.out.trans (hb4.mono HB4.out.size))
      clear hb4 hG HQ4 HB4
      go_wp2_with fail
      refine (hM.out w44 HB44.out).mono ?_
      rintro e w5 ⟨rfl, hb5⟩
      have HQ5 := Lib.hid (HQ44.out.trans (hb5.mono HQ44.out.size))
      have HB5 := Lib.hid (HB44.out.trans (hb5.mono HB44.out.size))
      clear hb5 hM HQ44 HB44
      obtain ⟨hth, hm1, hm2⟩ := hMD w5
      go_upto_region 11 with (refine wpList_store_mid rfl 32 (.tmp 9) (.tmp 56) rfl w5.heap.size 0 HL.toArray rfl rfl hth l2 l3 ?_)
      refine wp_any (fun W => Below wq.heap.size wq W ∧ Below w.heap.size w W ∧ Bk W w5.heap.size 32 HL.toArray) ⟨HQ5.out.trans (hm1.mono HQ5.out.size), HB5.out.trans (hm1.mono HB5.out.size), hm2⟩ ?_
      clear hth hm1 hm2 HQ5 HB5 hMD z1 z2 z3 c0 c1
      generalize w5.heap.size = k8 at *
      clear w5 w4 w44
      rintro W6 ⟨hq6, hb6, K6⟩
      have HQ6 := Lib.hid hq6
      have HB6 := Lib.hid hb6
      clear hq6 hb6
      go_wp2_with (first | (refine wpList_load_row rfl 32 (.tmp 9) rfl k8 rfl 32 HL.toArray (0, 0) _ K6 Tryd.underlying32 rfl l2 ?_) | fail)
      refine (hA.out W6 HQ6.out HB6.out).mono ?_
      rintro e w7 ⟨rfl, F7, hT7, hb7, hn7⟩
      have HB7 : Hid (Below w.heap.size w w7) := HB6.out.trans (hb7.below HB6.out.size (fun k hk => Nat.le_trans HLO.out (HT.out.lt hk).1))
      have HT7 := Lib.hid hT7
      have hsd := HSD.out.add 545259519 (minedH o) 100000
      have HSD7 := Lib.hid hsd.1
      have HLL7 : Hid ((addF L 545259519 (minedH o) 100000).1.length ≤ i + 1 + 1) := Nat.le_trans hsd.2.2 (Nat.succ_le_succ HLL.out)
      clear hT7 hb7 hn7 K6 hA hsd
      go_wp2_with fail
      go_roundw
      case rel => exact ⟨i + 1, _, F7, by go_num, by omega, HLL7, HSD7, HT7, HB7⟩
      case measure => simp [intOf]; omega
    · have j1 : decide ((i : Int) < (m : Int)) = false := decide_eq_false (by omega)
      have j2 : decide (i < m) = false := decide_eq_false hlt
      have hN0 := HT.out.ok.pos
      have hLE := HLL.out
      have hLn : L.length ≤ 26 := by omega
      have hFA := Lib.hid (tfail_any HT.out f (by omega))
      unfold pv at hFA
      have hfr := HFI.out
      obtain ⟨N, hN⟩ : ∃ N, N = L.length := ⟨_, rfl⟩
      have HNN := Lib.hid hN
      clear hlt HR HLL hLE HPI
      by_cases hf1 : f < 1
      · have g1 : decide (f < 1) = true := decide_eq_true hf1
        have hn0 : failR L f = 0 := by unfold failR; rw [if_neg (by omega)]
        rw [hn0] at hFA
        clear hn0 hf1 hN hLn hN0
        go_wp2_with fail
        refine hFA.out.mono ?_
        rintro e w8 ⟨rfl, F8, hT8, hb8, hn8⟩
        have HB8 : Hid (Below w.heap.size w w8) := HB.out.trans (hb8.below HB.out.size (fun k hk => Nat.le_trans HLO.out (HT.out.lt hk).1))
        clear hT8 hb8 hn8
        go_wp2_with fail
        go_ret
        exact ⟨rfl, HB8.out⟩
      have g1 : decide (f < 1) = false := decide_eq_false hf1
      by_cases hfN : (N : Int) ≤ f
      · have g2 : decide ((N : Int) ≤ f) = true := decide_eq_true hfN
        have hn0 : failR L f = 0 := by unfold failR; rw [if_neg (by omega)]
        have hn1 : failT L f = L := by unfold failT; rw [if_neg (by omega)]
        rw [hn0, hn1] at hFA
        clear hn0 hn1 hf1 hN hLn hN0 hfN
        go_wp2_with fail
        refine hFA.out.mono ?_
        rintro e w8 ⟨rfl, F8, hT8, hb8, hn8⟩
        have HB8 : Hid (Below w.heap.size w w8) := HB.out.trans (hb8.below HB.out.size (fun k hk => Nat.le_trans HLO.out (HT.out.lt hk).1))
        have hTL := Lib.hid (tlen_any hT8)
        rw [← HNN.out] at hTL
        unfold pv at hTL
        clear hT8 hb8 hn8 hFA
        go_wp2_with fail
        refine hTL.out.mono ?_
        rintro e w9 ⟨rfl, rfl⟩
        go_wp2_with fail
        go_ret
        exact ⟨rfl, HB8.out⟩
      have g2 : decide ((N : Int) ≤ f) = false := decide_eq_false hfN
      obtain ⟨q, rfl⟩ : ∃ q : Nat, f = (q : Int) := ⟨f.toNat, by omega⟩
      have hq0 : 0 < q := by omega
      have hqN : q < N := by omega
      have hqL : q < L.length := by omega
      obtain ⟨C, hC⟩ : ∃ C : Nat → Nat, C = failN L q := ⟨_, rfl⟩
      obtain ⟨L2, hL2⟩ : ∃ L2, L2 = failTo L q L.length := ⟨_, rfl⟩
      have hn0 : failR L (q : Int) = (C N : Int) := by unfold failR; rw [if_pos (by omega), hC, hN]; rfl
      have hn1 : failT L (q : Int) = L2 := by unfold failT; rw [if_pos (by omega), hL2]; rfl
      rw [hn0, hn1] at hFA
      have H2L : Hid (L2.length = N) := by show _ = _; rw [hL2, failTo_len, hN]
      have HFL : Hid (∀ j, j < N → onB L2 (q : Int) (j : Int) = (ndA L2 j).fl) := fun j hj => by rw [hL2]; exact (HSD.out.fail HT.out.ok hqL (by omega)).symm
      have HCS : Hid (∀ j, j < N → C (j + 1) = C j + if (ndA L2 j).fl = true then 1 else 0) := fun j hj => by rw [hL2, hC]; exact HSD.out.next q (by omega)
      have HC0 : Hid (C 0 = 0) := by show _ = _; rw [hC]; rfl
      have HCL : Hid (∀ j, C j ≤ j) := fun j => by rw [hC]; exact failN_le L q j
      have HSF : Hid ((ndA L2 q).fl = true) := by show _ = _; rw [hL2]; exact HSD.out.self HT.out.ok hqL
      have HAG : Hid (failN L2 q L2.length = 0) := by show _ = _; rw [hL2]; exact HSD.out.again HT.out.ok hqL
      have HLN : Hid (N ≤ 26) := by show _ ≤ _; omega
      clear hn0 hn1 hC hL2 hqL hN hN0 hLn HSD hf1 hfN
      go_wp2_with fail
      refine hFA.out.mono ?_
      rintro e w8 ⟨rfl, F8, hT8, hb8, hn8⟩
      have HB8 : Hid (Below w.heap.size w w8) := HB.out.trans (hb8.below HB.out.size (fun k hk => Nat.le_trans HLO.out (HT.out.lt hk).1))
      have HT8 := Lib.hid hT8
      have hTL := Lib.hid (tlen_any hT8)
      rw [H2L.out] at hTL
      unfold pv at hTL
      clear hT8 hb8 hn8 hFA HT HB HNN
      go_wp2_with fail
      refine hTL.out.mono ?_
      rintro e w9 ⟨rfl, rfl⟩
      go_wp2_with fail
      refine hTL.out.mono ?_
      rintro e wx ⟨rfl, rfl⟩
      go_wp2_with fail
      go_loopw [12, 77] (fun kv jv wr => ∃ j : Nat, kv = .int .i64 ((C j : Nat) : Int) ∧ jv = .int .i64 (j : Int) ∧ j ≤ N ∧ Hid (Tre wr p lo F8 r0 L2) ∧ Hid (Below w.heap.size w wr)) (fun _ jv _ => N - (intOf jv).toNat)
      case atStart => exact ⟨0, by rw [HC0.out]; rfl, rfl, Nat.zero_le _, HT8.out, HB8.out⟩
      case round =>
        obtain ⟨j, rfl, rfl, hjN, HT, HB⟩ := hrel
        clear HT8 HB8 hTL
        rename World => wz
        have h26 := HLN.out
        have hcl := HCL.out j
        by_cases hlt : j < N
        · have k1 : decide ((j : Int) < (N : Int)) = true := decide_eq_true (by omega)
          have k2 : decide (j < N) = true := decide_eq_true hlt
          have hjl : j < L2.length := by rw [H2L.out]; exact hlt
          have hix := HT.out.ok.hd _ (ndA_mem hjl)
          have hfl := HFL.out j hlt
          have hcs := HCS.out j hlt
          obtain ⟨x, hx⟩ : ∃ x, x = ndA L2 j := ⟨_, rfl⟩
          have hG : Hid (∀ W, Below wz.heap.size wz W → Calls Tryd.prog 10 #[.pointer (some ⟨p, 0, none⟩), .int .i64 (j : Int)] W fun e w' => e = .returned (.agg (ndL x).toArray) ∧ Below W.heap.size W w') := fun W h => by
            have := get_any (HT.out.keep h) (j : Int)
            rw [getN_nat hjl, ← hx] at this
            exact this
          rw [← hx] at hix hfl hcs
          obtain ⟨fl, hfe⟩ : ∃ fl, fl = x.fl := ⟨_, rfl⟩
          rw [← hfe] at hfl hcs
          have hO : Hid (∀ W, Below wz.heap.size wz W → Calls Tryd.prog 13 #[.pointer (some ⟨p, 0, none⟩), .int .i64 (q : Int), .int .i64 (j : Int)] W fun e w' => e = .returned (.bool fl) ∧ w' = W) := fun W h => by
            have := on_any (HT.out.keep h) (q : Int) (j : Int) (by have h2 := H2L.out; omega)
            rw [hfl] at this
            exact this
          obtain ⟨NA, hNA⟩ : ∃ NA, NA = (ndL x).toArray := ⟨_, rfl⟩
          have f6 : ∀ w, (Instr.field 45 (.agg NA) 6).run Tryd.prog w = .ok (.bool fl) w := fun w => by rw [hNA, hfe]; exact nf_fl hix w
          rw [← hNA] at hG
          have w1w : IntKind.i64.wrap ((j : Int) + 1) = (j : Int) + 1 := IntWalk.i64_in _ (by omega)
          have w2w : IntKind.i64.wrap (((C j : Nat) : Int) + 1) = ((C j : Nat) : Int) + 1 := IntWalk.i64_in _ (by omega)
          have HCSj := Lib.hid hcs
          clear hx hix hfl hcs hfe hNA hjl
          go_wp2_with fail
          refine (hG.out _ (Below.refl _ _)).mono ?_
          rintro e w4 ⟨rfl, hb4⟩
          have HQ4 := Lib.hid hb4
          clear hb4
          go_wp2_with fail
          refine (hO.out _ HQ4.out).mono ?_
          rintro e w5 ⟨rfl, hw5⟩
          subst hw5
          cases hfc : fl with
          | true =>
            rw [hfc] at f6 HCSj
            go_wp2_with fail
            refine (hG.out _ HQ4.out).mono ?_
            rintro e w6 ⟨rfl, hb6⟩
            have HQ6 := Lib.hid (HQ4.out.trans (hb6.mono HQ4.out.size))
            have HT6 : Hid (Tre w6 p lo F8 r0 L2) := HT.out.keep HQ6.out
            have HB6 : Hid (Below w.heap.size w w6) := HB.out.trans (HQ6.out.mono HB.out.size)
            clear hb6 HQ6
            go_wp2_with fail
            go_roundw
            case rel => exact ⟨j + 1, by rw [HCSj.out]; go_num, by go_num, by omega, HT6, HB6⟩
            case measure => simp [intOf]; omega
          | false =>
            rw [hfc] at f6 HCSj
            go_wp2_with fail
            refine (hG.out _ HQ4.out).mono ?_
            rintro e w6 ⟨rfl, hb6⟩
            have HQ6 := Lib.hid (HQ4.out.trans (hb6.mono HQ4.out.size))
            have HT6 : Hid (Tre w6 p lo F8 r0 L2) := HT.out.keep HQ6.out
            have HB6 : Hid (Below w.heap.size w w6) := HB.out.trans (HQ6.out.mono HB.out.size)
            clear hb6 HQ6
            go_wp2_with fail
            go_roundw
            case rel => exact ⟨j + 1, by rw [HCSj.out]; go_num, by go_num, by omega, HT6, HB6⟩
            case measure => simp [intOf]; omega
        · have k1 : decide ((j : Int) < (N : Int)) = false := decide_eq_false (by omega)
          have k2 : decide (j < N) = false := decide_eq_false hlt
          obtain rfl : j = N := by omega
          have hql : q < L2.length := by rw [H2L.out]; exact hqN
          have hix := HT.out.ok.hd _ (ndA_mem hql)
          obtain ⟨x, hx⟩ : ∃ x, x = ndA L2 q := ⟨_, rfl⟩
          have hG : Hid (∀ W, Below wz.heap.size wz W → Calls Tryd.prog 10 #[.pointer (some ⟨p, 0, none⟩), .int .i64 (q : Int)] W fun e w' => e = .returned (.agg (ndL x).toArray) ∧ Below W.heap.size W w') := fun W h => by
            have := get_any (HT.out.keep h) (q : Int)
            rw [getN_nat hql, ← hx] at this
            exact this
          rw [← hx] at hix
          have HX := Lib.hid hx
          have htl := hix.t
          obtain ⟨NA, hNA⟩ : ∃ NA, NA = (ndL x).toArray := ⟨_, rfl⟩
          obtain ⟨HX2, hHX⟩ : ∃ HX2, HX2 = (hdL x.h).toArray := ⟨_, rfl⟩
          obtain ⟨tx, htx⟩ : ∃ tx, tx = x.h.t := ⟨_, rfl⟩
          obtain ⟨t1, ht1⟩ : ∃ t1, t1 = (tx + 1) % 4294967296 := ⟨_, rfl⟩
          obtain ⟨IDL, hIDL⟩ : ∃ IDL, IDL = idL (nameI x.h) := ⟨_, rfl⟩
          obtain ⟨ZH, hZH⟩ : ∃ ZH, ZH = hdA hd0 := ⟨_, rfl⟩
          obtain ⟨B0, hB0⟩ : ∃ B0, B0 = bH 99 (nameI x.h) := ⟨_, rfl⟩
          obtain ⟨HQ, hHQ⟩ : ∃ HQ, HQ = (hdL ⟨99, (nameI x.h).1, zeros 32, t1, 545259519, 0⟩).toArray := ⟨_, rfl⟩
          obtain ⟨o, ho⟩ : ∃ o, o = mined 99 t1 1000 (nameI x.h) := ⟨_, rfl⟩
          have hoi : IsHd (minedH o) := by rw [ho]; exact mined_is (by omega) (by omega) _
          have f0 : ∀ w, (Instr.field 45 (.agg NA) 1).run Tryd.prog w = .ok (.agg IDL.toArray) w := fun w => by rw [hNA, hIDL]; exact nf_id hix w
          have f1 : ∀ w, (Instr.field 45 (.agg NA) 0).run Tryd.prog w = .ok (.agg HX2) w := fun w => by rw [hNA, hHX]; exact nf_hd hix w
          have f2 : ∀ w, (Instr.field 32 (.agg HX2) 3).run Tryd.prog w = .ok (.int .u32 (tx : Int)) w := fun w => by rw [hHX, htx]; exact hf_t hix w
          have z1 : ∀ w, (zeroValue 32).run Tryd.prog w = .ok (.agg ZH) w := fun w => by rw [hZH]; exact hd_zero w
          have z2 : (ZH = #[]) = False := by rw [hZH]; exact hd_zne
          have z3 : ZH.size = 68 := by rw [hZH]; exact hdA_size hd0_is
          have b1 : IDL.zipIdx.foldl (fun (cs : Array Value) (x : Value × Nat) => cs.setIfInBounds (1 + x.2) x.1) (ZH.setIfInBounds 0 (.int .u32 99)) = B0 := by rw [hIDL, hZH, hB0]; exact bH_1 99 _
          have b2 : B0.size = 68 := by rw [hB0]; exact bH_size _ _
          have b3 : (B0.setIfInBounds 65 (.int .u32 (t1 : Int))).setIfInBounds 66 (.int .u32 545259519) = HQ := by rw [hB0, hHQ]; exact bH_2 99 t1 (nameI x.h)
          have b4 : IDL.length = 32 := by rw [hIDL]; exact idL_len _
          have w2w : IntKind.u32.wrap ((tx : Int) + 1) = (t1 : Int) := by rw [IntKind.wrap_u32, ht1]; omega
          have hM : Hid (∀ W, Below w.heap.size w W → Calls Tryd.prog 9 #[.agg HQ, .int .u32 545259519, .int .i64 1000] W fun e w' => e = .returned (.tuple #[.agg (hdL (minedH o)).toArray, .bool o.isSome]) ∧ Below W.heap.size W w') := fun W hW => by
            rw [hHQ, ho]
            exact mine_law 99 t1 (nameI x.h) W (by omega) (by omega) (HLD.out.keep hW)
          obtain ⟨HL, hHL⟩ : ∃ HL, HL = hdL (minedH o) := ⟨_, rfl⟩
          have hMD : ∀ W : World, (W.alloc (.cells ZH 32)).there W.heap.size 0 HL.toArray.size ∧ Below W.heap.size W ((W.alloc (.cells ZH 32)).setCells W.heap.size 0 HL) ∧ Bk ((W.alloc (.cells ZH 32)).setCells W.heap.size 0 HL) W.heap.size 32 HL.toArray := fun W => by rw [hHL]; exact hd_made _ hoi ZH z3
          have l2 : (Tryd.prog.info? 32).map (·.size) = some HL.toArray.size := by rw [hHL]; exact hd_szA hoi
          have l3 : HL.toArray.all (·.oneCell') = true := by rw [hHL]; exact hd_onA _
          have hST : provV (minedH o) 545259519 ≠ 0 ∨ ∃ p, p < L2.length ∧ (minedH o).p = hID (ndA L2 p).h ∧ (ndA L2 p).fl = true := by
            cases hov : o with
            | none => exact .inl (provV_hd0 _)
            | some x2 =>
              have hms := mined_some (ho.symm.trans hov)
              exact .inr ⟨q, hql, by show x2.p = _; rw [hms.2.1, hx]; rfl, HSF.out⟩
          have hL3 := addF_stay HT.out.ok (now := 100000) hST
          have HERR : Hid (o = none ∨ ∃ x2, o = some x2 ∧ ((addF L2 545259519 (minedH o) 100000).2.2 = 101 ∨ (addF L2 545259519 (minedH o) 100000).2.2 = 5)) := by
            cases hov : o with
            | none => exact .inl rfl
            | some x2 =>
              have hms := mined_some (ho.symm.trans hov)
              exact .inr ⟨x2, rfl, addF_failed HT.out.ok hql (by show x2.p = _; rw [hms.2.1, hx]; rfl) (by show provV x2 _ = 0; exact hms.2.2.2.2) HSF.out⟩
          have hA : Hid (∀ W, Below wz.heap.size wz W → Below w.heap.size w W → Calls Tryd.prog 11 #[.pointer (some ⟨p, 0, none⟩), .agg HL.toArray, .int .i64 100000] W fun e w' => e = .returned (.tuple #[.int .i64 (addF L2 545259519 (minedH o) 100000).2.1, .int .i64 (((addF L2 545259519 (minedH o) 100000).2.2 : Nat) : Int)]) ∧ AddG W p lo F8 r0 L2 w') := fun W h1 h2 => by
            have := tadd_any (HT.out.keep h1) rfl (minedH o) hoi 100000 (by decide) (HLD.out.keep h2) (by rw [H2L.out]; omega)
            rw [show (addF L2 r0.lim (minedH o) 100000).1 = L2 from hL3] at this
            rw [hHL]
            exact this
          obtain ⟨er, her⟩ : ∃ er, er = (addF L2 545259519 (minedH o) 100000).2.2 := ⟨_, rfl⟩
          obtain ⟨ei, hei⟩ : ∃ ei, ei = (addF L2 545259519 (minedH o) 100000).2.1 := ⟨_, rfl⟩
          rw [← her] at HERR hA
          rw [← hei] at hA
          rw [← hNA] at hG
          rw [← hHL] at hM
          have HR2 : Hid (failR L2 (q : Int) = 0) := by
            show _ = _
            unfold failR
            rw [if_pos ⟨by omega, by omega⟩, Int.toNat_natCast, HAG.out]; rfl
          clear hx hNA hIDL hZH hB0 hHQ ho hHL hix hql hHX htx ht1 htl hST hL3 her hei
          go_wp2_with fail
          refine (hG.out _ (Below.refl _ _)).mono ?_
          rintro e w4 ⟨rfl, hb4⟩
          have HQ4 := Lib.hid hb4
          have HB4 := Lib.hid (HB.out.trans (hb4.mono HB.out.size))
          clear hb4
          go_wp2_with fail
          refine (hG.out _ HQ4.out).mono ?_
          rintro e w44 ⟨rfl, hb4⟩
          have HQ44 := Lib.hid (HQ4.out.trans (hb4.mono HQ4.out.size))
          have HB44 := Lib.hid (HB4.out.trans (hb4.mono HB4.out.size))
          clear hb4 hG HQ4 HB4
          go_wp2_with fail
          refine (hM.out w44 HB44.out).mono ?_
          rintro e w5 ⟨rfl, hb5⟩
          have HQ5 := Lib.hid (HQ44.out.trans (hb5.mono HQ44.out.size))
          have HB5 := Lib.hid (HB44.out.trans (hb5.mono HB44.out.size))
          clear hb5 hM HQ44 HB44
          obtain ⟨hth, hm1, hm2⟩ := hMD w5
          go_upto_region 26 with (refine wpList_store_mid rfl 32 (.tmp 14) (.tmp 109) rfl w5.heap.size 0 HL.toArray rfl rfl hth l2 l3 ?_)
          refine wp_any (fun W => Below wz.heap.size wz W ∧ Below w.heap.size w W ∧ Bk W w5.heap.size 32 HL.toArray) ⟨HQ5.out.trans (hm1.mono HQ5.out.size), HB5.out.trans (hm1.mono HB5.out.size), hm2⟩ ?_
          clear hth hm1 hm2 HQ5 HB5 hMD z1 z2 z3
          generalize w5.heap.size = k8 at *
          clear w5 w4 w44
          rintro W6 ⟨hq6, hb6, K6⟩
          have HQ6 := Lib.hid hq6
          have HB6 := Lib.hid hb6
          clear hq6 hb6
          go_wp2_with (first | (refine wpList_load_row rfl 32 (.tmp 14) rfl k8 rfl 32 HL.toArray (0, 0) _ K6 Tryd.underlying32 rfl l2 ?_) | fail)
          refine (hA.out W6 HQ6.out HB6.out).mono ?_
          rintro e w7 ⟨rfl, F7, hT7, hb7, hn7⟩
          have HB7 : Hid (Below w.heap.size w w7) := HB6.out.trans (hb7.below HB6.out.size (fun k hk => Nat.le_trans HLO.out (HT.out.lt hk).1))
          have HT7 := Lib.hid hT7
          have hFA := Lib.hid (tfail_any hT7 (q : Int) (by rw [H2L.out]; omega))
          rw [HR2.out] at hFA
          unfold pv at hFA
          clear hT7 hb7 hn7 K6 hA
          have e5 : (((C j : Nat) : Int) == ((C j : Nat) : Int)) = true := by simp
          rcases HERR.out with hov | ⟨x2, hov, her⟩
          · have hos : o.isSome = false := by rw [hov]; rfl
            clear hov
            go_wp2_with fail
            refine hFA.out.mono ?_
            rintro e w10 ⟨rfl, F10, hT10, hb10, hn10⟩
            have HB10 : Hid (Below w.heap.size w w10) := HB7.out.trans (hb10.below HB7.out.size (fun k hk => Nat.le_trans HLO.out (HT7.out.lt hk).1))
            have hp0 := hT10.ok.pos
            have hG0 := get_any hT10 ((0 : Nat) : Int)
            rw [getN_nat hp0] at hG0
            have hix := hT10.ok.hd _ (ndA_mem hp0)
            have hfl := hT10.ok.g.2.2.2
            obtain ⟨NB, hNB⟩ : ∃ NB, NB = (ndL (ndA (failT L2 (q : Int)) 0)).toArray := ⟨_, rfl⟩
            have hG0 : Hid (Calls Tryd.prog 10 #[.pointer (some ⟨p, 0, none⟩), .int .i64 0] w10 fun e w' => e = .returned (.agg NB) ∧ Below w10.heap.size w10 w') := by rw [hNB]; exact hG0
            have f6 : ∀ w, (Instr.field 45 (.agg NB) 6).run Tryd.prog w = .ok (.bool false) w := fun w => by rw [hNB, ← hfl]; exact nf_fl hix w
            clear hT10 hb10 hn10 hp0 hix hfl hNB
            go_wp2_with fail
            refine hG0.out.mono ?_
            rintro e w11 ⟨rfl, hb11⟩
            have HB11 := Lib.hid (HB10.out.trans (hb11.mono HB10.out.size))
            clear hb11
            go_wp2_with fail
            go_ret
            exact ⟨rfl, HB11.out⟩
          · have hos : o.isSome = true := by rw [hov]; rfl
            rcases her with her | her
            · rw [her]
              clear hov her
              go_wp2_with fail
              refine hFA.out.mono ?_
              rintro e w10 ⟨rfl, F10, hT10, hb10, hn10⟩
              have HB10 : Hid (Below w.heap.size w w10) := HB7.out.trans (hb10.below HB7.out.size (fun k hk => Nat.le_trans HLO.out (HT7.out.lt hk).1))
              have hp0 := hT10.ok.pos
              have hG0 := get_any hT10 ((0 : Nat) : Int)
              rw [getN_nat hp0] at hG0
              have hix := hT10.ok.hd _ (ndA_mem hp0)
              have hfl := hT10.ok.g.2.2.2
              obtain ⟨NB, hNB⟩ : ∃ NB, NB = (ndL (ndA (failT L2 (q : Int)) 0)).toArray := ⟨_, rfl⟩
              have hG0 : Hid (Calls Tryd.prog 10 #[.pointer (some ⟨p, 0, none⟩), .int .i64 0] w10 fun e w' => e = .returned (.agg NB) ∧ Below w10.heap.size w10 w') := by rw [hNB]; exact hG0
              have f6 : ∀ w, (Instr.field 45 (.agg NB) 6).run Tryd.prog w = .ok (.bool false) w := fun w => by rw [hNB, ← hfl]; exact nf_fl hix w
              clear hT10 hb10 hn10 hp0 hix hfl hNB
              go_wp2_with fail
              refine hG0.out.mono ?_
              rintro e w11 ⟨rfl, hb11⟩
              have HB11 := Lib.hid (HB10.out.trans (hb11.mono HB10.out.size))
              clear hb11
              go_wp2_with fail
              go_ret
              exact ⟨rfl, HB11.out⟩
            · rw [her]
              clear hov her
              go_wp2_with fail
              refine hFA.out.mono ?_
              rintro e w10 ⟨rfl, F10, hT10, hb10, hn10⟩
              have HB10 : Hid (Below w.heap.size w w10) := HB7.out.trans (hb10.below HB7.out.size (fun k hk => Nat.le_trans HLO.out (HT7.out.lt hk).1))
              have hp0 := hT10.ok.pos
              have hG0 := get_any hT10 ((0 : Nat) : Int)
              rw [getN_nat hp0] at hG0
              have hix := hT10.ok.hd _ (ndA_mem hp0)
              have hfl := hT10.ok.g.2.2.2
              obtain ⟨NB, hNB⟩ : ∃ NB, NB = (ndL (ndA (failT L2 (q : Int)) 0)).toArray := ⟨_, rfl⟩
              have hG0 : Hid (Calls Tryd.prog 10 #[.pointer (some ⟨p, 0, none⟩), .int .i64 0] w10 fun e w' => e = .returned (.agg NB) ∧ Below w10.heap.size w10 w') := by rw [hNB]; exact hG0
              have f6 : ∀ w, (Instr.field 45 (.agg NB) 6).run Tryd.prog w = .ok (.bool false) w := fun w => by rw [hNB, ← hfl]; exact nf_fl hix w
              clear hT10 hb10 hn10 hp0 hix hfl hNB
              go_wp2_with fail
              refine hG0.out.mono ?_
              rintro e w11 ⟨rfl, hb11⟩
              have HB11 := Lib.hid (HB10.out.trans (hb11.mono HB10.out.size))
              clear hb11
              go_wp2_with fail
              go_ret
              exact ⟨rfl, HB11.out⟩
end Go.Proofs.YtljfhabhenaapaaDoor
