/-
  A region of the law MerkleRoots: do the sums stay as they are?
-/
import Derived.Test.YtecmgojecjenmaaDoorMroQ
import Derived.Deep.RegionHeld3
namespace Go.Proofs.YtecmgojecjenmaaDoor.merkleRoots
open Go.ChangeShapes Go.WideShapes Go.ChangeAt Go.RowKit
set_option linter.unusedVariables false
set_option linter.unusedSimpArgs false
set_option maxRecDepth 100000 in
set_option maxHeartbeats 4000000 in
theorem region11_o (bA oA cA bB oB cB n k : Nat) (V : World) (x : List Nat) (t1 t2 t4 t5 t6 t7 t9 t10 t11 t12 t13 t14 t15 t16 t17 t18 t19 t20 t21 t22 t23 t24 t25 t26 t27 t28 t29 t30 t31 t32 t33 t34 t35 t36 t37 t38 t39 t40 t41 t42 t43 t44 t45 t46 t47 t48 t49 t50 : Value) (Q : Exit → Act → World → Prop) (HI : Hid (IsId x)) (HJ : Hid ((0 : Int) ≤ (k : Int) ∧ (k : Int) < (n : Int)))
    (HR : Hid (bA < V.heap.size ∧ bB < V.heap.size ∧ V.rangeAt bA (oA + k * 32) (idA x).toList ∧ V.rangeAt bB (oB + k * 32) (idA x).toList))
    (HE : Hid (∀ W, (Op.equalIn 10000 27 (.agg (idA x)) (.agg (idA x))).run Tryd.prog W = .ok true W))
    (HQ : Hid (∀ x33 x34 x35 x36 x37 x38 x39 x40 w', Below V.heap.size V w' → Q .normal { tmps := List.toArray (Value.slice (some { block := bB, off := oB }) n cB :: t1 :: t2 :: Value.slice (some { block := bA, off := oA }) n cA :: t4 :: t5 :: t6 :: t7 :: Value.int IntKind.i64 (k : Int) :: t9 :: t10 :: t11 :: t12 :: t13 :: t14 :: t15 :: t16 :: t17 :: t18 :: t19 :: t20 :: t21 :: t22 :: t23 :: t24 :: t25 :: t26 :: t27 :: t28 :: t29 :: t30 :: t31 :: t32 :: x33 :: x34 :: x35 :: x36 :: x37 :: x38 :: x39 :: x40 :: Value.bool false :: t42 :: t43 :: t44 :: t45 :: t46 :: t47 :: t48 :: t49 :: t50 :: []), defers := [] } w')) (w : World) (hB : Below V.heap.size V w) :
    wpAnyH Tryd.prog .any (#[{ dst := some 33, op := Op.move (Operand.tmp 3), type := 32, pos := "law.go:41", after := #[], guard := none },
{ dst := some 34, op := Op.move (Operand.tmp 8), type := 3, pos := "law.go:41", after := #[], guard := none },
{ dst := some 35, op := Op.indexAddr 32 (Operand.tmp 33) (Operand.tmp 34), type := 0, pos := "law.go:41", after := #[{ on := 0, ground := Ground.data }, { on := 1, ground := Ground.data }], guard := none },
{ dst := some 36, op := Op.load 27 (Operand.tmp 35), type := 27, pos := "law.go:41", after := #[{ on := 2, ground := Ground.data }], guard := none },
{ dst := some 37, op := Op.move (Operand.tmp 0), type := 32, pos := "law.go:41", after := #[], guard := none },
{ dst := some 38, op := Op.move (Operand.tmp 8), type := 3, pos := "law.go:41", after := #[], guard := none },
{ dst := some 39, op := Op.indexAddr 32 (Operand.tmp 37) (Operand.tmp 38), type := 0, pos := "law.go:41", after := #[{ on := 4, ground := Ground.data }, { on := 5, ground := Ground.data }], guard := none },
{ dst := some 40, op := Op.load 27 (Operand.tmp 39), type := 27, pos := "law.go:41", after := #[{ on := 6, ground := Ground.data }], guard := none },
{ dst := some 41, op := Op.binOp BinOp.neq 27 (Operand.tmp 36) (Operand.tmp 40) 27, type := 4, pos := "law.go:41", after := #[{ on := 3, ground := Ground.data }, { on := 7, ground := Ground.data }], guard := none }]) (NoPanic Q) (fun w' => Below V.heap.size V w') 0 #[true, true, true, true, true, true, true, true, true] { tmps := List.toArray (Value.slice (some { block := bB, off := oB }) n cB :: t1 :: t2 :: Value.slice (some { block := bA, off := oA }) n cA :: t4 :: t5 :: t6 :: t7 :: Value.int IntKind.i64 (k : Int) :: t9 :: t10 :: t11 :: t12 :: t13 :: t14 :: t15 :: t16 :: t17 :: t18 :: t19 :: t20 :: t21 :: t22 :: t23 :: t24 :: t25 :: t26 :: t27 :: t28 :: t29 :: t30 :: t31 :: t32 :: Value.slice (some { block := bA, off := oA }) n cA :: Value.int IntKind.i64 (k : Int) :: Value.pointer (some { block := bA, off := oA + k * 32 }) :: Value.agg (idA x) :: Value.slice (some { block := bB, off := oB }) n cB :: Value.int IntKind.i64 (k : Int) :: Value.pointer (some { block := bB, off := oB + k * 32 }) :: Value.agg (idA x) :: Value.bool false :: t42 :: t43 :: t44 :: t45 :: t46 :: t47 :: t48 :: t49 :: t50 :: []), defers := [] } w := by
  refine wpAnyH_done (by kernel_rfl) ?_ _
  exact NoPanic.normal (HQ.out _ _ _ _ _ _ _ _ _ hB)

set_option maxRecDepth 100000 in
set_option maxHeartbeats 4000000 in
theorem region11 (bA oA cA bB oB cB n k : Nat) (V : World) (x : List Nat) (t1 t2 t4 t5 t6 t7 t9 t10 t11 t12 t13 t14 t15 t16 t17 t18 t19 t20 t21 t22 t23 t24 t25 t26 t27 t28 t29 t30 t31 t32 t33 t34 t35 t36 t37 t38 t39 t40 t41 t42 t43 t44 t45 t46 t47 t48 t49 t50 : Value) (Q : Exit → Act → World → Prop) (HI : Hid (IsId x)) (HJ : Hid ((0 : Int) ≤ (k : Int) ∧ (k : Int) < (n : Int)))
    (HR : Hid (bA < V.heap.size ∧ bB < V.heap.size ∧ V.rangeAt bA (oA + k * 32) (idA x).toList ∧ V.rangeAt bB (oB + k * 32) (idA x).toList))
    (HE : Hid (∀ W, (Op.equalIn 10000 27 (.agg (idA x)) (.agg (idA x))).run Tryd.prog W = .ok true W))
    (HQ : Hid (∀ x33 x34 x35 x36 x37 x38 x39 x40 w', Below V.heap.size V w' → Q .normal { tmps := List.toArray (Value.slice (some { block := bB, off := oB }) n cB :: t1 :: t2 :: Value.slice (some { block := bA, off := oA }) n cA :: t4 :: t5 :: t6 :: t7 :: Value.int IntKind.i64 (k : Int) :: t9 :: t10 :: t11 :: t12 :: t13 :: t14 :: t15 :: t16 :: t17 :: t18 :: t19 :: t20 :: t21 :: t22 :: t23 :: t24 :: t25 :: t26 :: t27 :: t28 :: t29 :: t30 :: t31 :: t32 :: x33 :: x34 :: x35 :: x36 :: x37 :: x38 :: x39 :: x40 :: Value.bool false :: t42 :: t43 :: t44 :: t45 :: t46 :: t47 :: t48 :: t49 :: t50 :: []), defers := [] } w')) :
    Code.wp Tryd.prog (Code.region 11 (#[{ dst := some 33, op := Op.move (Operand.tmp 3), type := 32, pos := "law.go:41", after := #[], guard := none },
{ dst := some 34, op := Op.move (Operand.tmp 8), type := 3, pos := "law.go:41", after := #[], guard := none },
{ dst := some 35, op := Op.indexAddr 32 (Operand.tmp 33) (Operand.tmp 34), type := 0, pos := "law.go:41", after := #[{ on := 0, ground := Ground.data }, { on := 1, ground := Ground.data }], guard := none },
{ dst := some 36, op := Op.load 27 (Operand.tmp 35), type := 27, pos := "law.go:41", after := #[{ on := 2, ground := Ground.data }], guard := none },
{ dst := some 37, op := Op.move (Operand.tmp 0), type := 32, pos := "law.go:41", after := #[], guard := none },
{ dst := some 38, op := Op.move (Operand.tmp 8), type := 3, pos := "law.go:41", after := #[], guard := none },
{ dst := some 39, op := Op.indexAddr 32 (Operand.tmp 37) (Operand.tmp 38), type := 0, pos := "law.go:41", after := #[{ on := 4, ground := Ground.data }, { on := 5, ground := Ground.data }], guard := none },
{ dst := some 40, op := Op.load 27 (Operand.tmp 39), type := 27, pos := "law.go:41", after := #[{ on := 6, ground := Ground.data }], guard := none },
{ dst := some 41, op := Op.binOp BinOp.neq 27 (Operand.tmp 36) (Operand.tmp 40) 27, type := 4, pos := "law.go:41", after := #[{ on := 3, ground := Ground.data }, { on := 7, ground := Ground.data }], guard := none }]) true) Q { tmps := List.toArray (Value.slice (some { block := bB, off := oB }) n cB :: t1 :: t2 :: Value.slice (some { block := bA, off := oA }) n cA :: t4 :: t5 :: t6 :: t7 :: Value.int IntKind.i64 (k : Int) :: t9 :: t10 :: t11 :: t12 :: t13 :: t14 :: t15 :: t16 :: t17 :: t18 :: t19 :: t20 :: t21 :: t22 :: t23 :: t24 :: t25 :: t26 :: t27 :: t28 :: t29 :: t30 :: t31 :: t32 :: t33 :: t34 :: t35 :: t36 :: t37 :: t38 :: t39 :: t40 :: t41 :: t42 :: t43 :: t44 :: t45 :: t46 :: t47 :: t48 :: t49 :: t50 :: []), defers := [] } V := by
  refine wp_region_noPanic ?_
  refine wp_region_held_drew (S := (fun w' => Below V.heap.size V w')) (by kernel_rfl) ((Below.refl _ _).drew) (fun hHeld => ?_)
  have hB : Below V.heap.size V V.drew := ((Below.refl _ _).drew)
  show wpAnyH _ _ _ _ _ 9 _ _ _
  refine wpAnyH_take (i := 0) (oi := { dst := some 33, op := Op.move (Operand.tmp 3), type := 32, pos := "law.go:41", after := #[], guard := none }) (v := Value.slice (some { block := bA, off := oA }) n cA) rfl (by kernel_rfl) (by kernel_rfl) (by kernel_rfl) (fun _ _ _ h => h) ?_ hHeld ?_
  · (refine Or.inl ⟨by rfl, ?_⟩; intro w hSw; have j0 := HJ.out.1; have j1 := HJ.out.2; go_simp)
  simp only [Act.put, List.setIfInBounds_toArray, List.set_cons_zero, List.set_cons_succ]
  refine wpAnyH_take (i := 1) (oi := { dst := some 34, op := Op.move (Operand.tmp 8), type := 3, pos := "law.go:41", after := #[], guard := none }) (v := Value.int IntKind.i64 (k : Int)) rfl (by kernel_rfl) (by kernel_rfl) (by kernel_rfl) (fun _ _ _ h => h) ?_ hHeld ?_
  · (refine Or.inl ⟨by rfl, ?_⟩; intro w hSw; have j0 := HJ.out.1; have j1 := HJ.out.2; go_simp)
  simp only [Act.put, List.setIfInBounds_toArray, List.set_cons_zero, List.set_cons_succ]
  refine wpAnyH_take (i := 2) (oi := { dst := some 35, op := Op.indexAddr 32 (Operand.tmp 33) (Operand.tmp 34), type := 0, pos := "law.go:41", after := #[{ on := 0, ground := Ground.data }, { on := 1, ground := Ground.data }], guard := none }) (v := Value.pointer (some { block := bA, off := oA + k * 32 })) rfl (by kernel_rfl) (by kernel_rfl) (by kernel_rfl) (fun _ _ _ h => h) ?_ hHeld ?_
  · (refine Or.inl ⟨by rfl, ?_⟩; intro w hSw; have j0 := HJ.out.1; have j1 := HJ.out.2; go_simp)
  simp only [Act.put, List.setIfInBounds_toArray, List.set_cons_zero, List.set_cons_succ]
  refine wpAnyH_take (i := 3) (oi := { dst := some 36, op := Op.load 27 (Operand.tmp 35), type := 27, pos := "law.go:41", after := #[{ on := 2, ground := Ground.data }], guard := none }) (v := Value.agg (idA x)) rfl (by kernel_rfl) (by kernel_rfl) (by kernel_rfl) (fun _ _ _ h => h) ?_ hHeld ?_
  · (exact yieldsIf_load_mid (by rfl) 27 (.tmp 35) rfl bA (oA + k * 32) rfl (x.map byteV) _ (fun w h => idr_below HR.out.2.2.1 h HR.out.1) Tryd.underlying27 rfl (by rw [List.length_map, HI.out.1]; exact id_info'))
  simp only [Act.put, List.setIfInBounds_toArray, List.set_cons_zero, List.set_cons_succ]
  refine wpAnyH_take (i := 4) (oi := { dst := some 37, op := Op.move (Operand.tmp 0), type := 32, pos := "law.go:41", after := #[], guard := none }) (v := Value.slice (some { block := bB, off := oB }) n cB) rfl (by kernel_rfl) (by kernel_rfl) (by kernel_rfl) (fun _ _ _ h => h) ?_ hHeld ?_
  · (refine Or.inl ⟨by rfl, ?_⟩; intro w hSw; have j0 := HJ.out.1; have j1 := HJ.out.2; go_simp)
  simp only [Act.put, List.setIfInBounds_toArray, List.set_cons_zero, List.set_cons_succ]
  refine wpAnyH_take (i := 5) (oi := { dst := some 38, op := Op.move (Operand.tmp 8), type := 3, pos := "law.go:41", after := #[], guard := none }) (v := Value.int IntKind.i64 (k : Int)) rfl (by kernel_rfl) (by kernel_rfl) (by kernel_rfl) (fun _ _ _ h => h) ?_ hHeld ?_
  · (refine Or.inl ⟨by rfl, ?_⟩; intro w hSw; have j0 := HJ.out.1; have j1 := HJ.out.2; go_simp)
  simp only [Act.put, List.setIfInBounds_toArray, List.set_cons_zero, List.set_cons_succ]
  refine wpAnyH_take (i := 6) (oi := { dst := some 39, op := Op.indexAddr 32 (Operand.tmp 37) (Operand.tmp 38), type := 0, pos := "law.go:41", after := #[{ on := 4, ground := Ground.data }, { on := 5, ground := Ground.data }], guard := none }) (v := Value.pointer (some { block := bB, off := oB + k * 32 })) rfl (by kernel_rfl) (by kernel_rfl) (by kernel_rfl) (fun _ _ _ h => h) ?_ hHeld ?_
  · (refine Or.inl ⟨by rfl, ?_⟩; intro w hSw; have j0 := HJ.out.1; have j1 := HJ.out.2; go_simp)
  simp only [Act.put, List.setIfInBounds_toArray, List.set_cons_zero, List.set_cons_succ]
  refine wpAnyH_take (i := 7) (oi := { dst := some 40, op := Op.load 27 (Operand.tmp 39), type := 27, pos := "law.go:41", after := #[{ on := 6, ground := Ground.data }], guard := none }) (v := Value.agg (idA x)) rfl (by kernel_rfl) (by kernel_rfl) (by kernel_rfl) (fun _ _ _ h => h) ?_ hHeld ?_
  · (exact yieldsIf_load_mid (by rfl) 27 (.tmp 39) rfl bB (oB + k * 32) rfl (x.map byteV) _ (fun w h => idr_below HR.out.2.2.2 h HR.out.2.1) Tryd.underlying27 rfl (by rw [List.length_map, HI.out.1]; exact id_info'))
  simp only [Act.put, List.setIfInBounds_toArray, List.set_cons_zero, List.set_cons_succ]
  refine wpAnyH_take (i := 8) (oi := { dst := some 41, op := Op.binOp BinOp.neq 27 (Operand.tmp 36) (Operand.tmp 40) 27, type := 4, pos := "law.go:41", after := #[{ on := 3, ground := Ground.data }, { on := 7, ground := Ground.data }], guard := none }) (v := Value.bool false) rfl (by kernel_rfl) (by kernel_rfl) (by kernel_rfl) (fun _ _ _ h => h) ?_ hHeld ?_
  · (refine Or.inl ⟨by rfl, ?_⟩; intro w hSw; have h1 := HE.out; go_simp)
  simp only [Act.put, List.setIfInBounds_toArray, List.set_cons_zero, List.set_cons_succ]
  exact region11_o bA oA cA bB oB cB n k V x t1 t2 t4 t5 t6 t7 t9 t10 t11 t12 t13 t14 t15 t16 t17 t18 t19 t20 t21 t22 t23 t24 t25 t26 t27 t28 t29 t30 t31 t32 t33 t34 t35 t36 t37 t38 t39 t40 t41 t42 t43 t44 t45 t46 t47 t48 t49 t50 Q HI HJ HR HE HQ _ hB
end Go.Proofs.YtecmgojecjenmaaDoor.merkleRoots
