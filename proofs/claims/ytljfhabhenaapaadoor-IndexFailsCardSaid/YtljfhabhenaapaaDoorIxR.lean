/-
  Regions of package index that draw.
-/
import Derived.Test.YtljfhabhenaapaaDoorIxD
import Derived.Test.YtljfhabhenaapaaDoorStX
import Derived.Deep.RegionHeld3
namespace Go.Proofs.YtljfhabhenaapaaDoor
open Go.RowKit
set_option linter.unusedVariables false
set_option linter.unusedSimpArgs false
set_option maxRecDepth 100000
theorem nd_onesA (x : Nd) : (ndL x).toArray.all (·.oneCell') = true := all_oneCell_toArray (ndL_one x)
theorem nd_sizeA {x : Nd} (h : IsHd x.h) : (Tryd.prog.info? 45).map (·.size) = some (ndL x).toArray.size := by rw [List.size_toArray]; exact nd_sizeL h
theorem nz_size : nz.toArray.size = 108 := by rw [List.size_toArray]; exact nz_ok.1
set_option maxRecDepth 100000 in
set_option maxHeartbeats 16000000 in
theorem next3 (p b n c j : Nat) (ev : Int) (x : Nd) (V : World) (t2 t3 t4 t5 t6 t7 t8 t9 t10 t11 t12 t13 t14 t15 t16 t17 t18 t19 t20 t21 t22 t23 t24 t25 t26 t27 t28 t29 t30 t31 t32 t33 t34 t35 t36 t37 t38 t39 t40 t41 t42 t43 t44 t45 t46 t47 t48 t49 t50 t51 t52 t53 t54 t55 t56 t57 t58 t59 t60 t61 t62 t63 t64 t65 t66 t67 t68 t69 t70 t71 t72 t73 t74 t75 t76 t77 t78 t79 t80 t81 t82 t83 t84 t85 t86 t87 t88 t89 t90 : Value) (Q : Exit → Act → World → Prop) (zp : p < V.heap.size) (zb : b < V.heap.size) (hj : j < n) (hj0 : (0 : Int) ≤ (j : Int)) (HC74 : Hid (V.cell? ⟨p, 74, none⟩ = some (.slice (some ⟨b, 0, none⟩) n c))) (HC1 : Hid (V.cell? ⟨p, 1, none⟩ = some (.int .i64 ev))) (hx : IsHd x.h) (hrg : V.rangeAt b (j * 108) (ndL x)) (HQ : Hid (∀ (x17 x18 x19 x20 x21 x22 x23 x24 x25 x26 x27 x28 : Value)  (w' : World), Below V.heap.size V w' → Bk w' V.heap.size 45 (ndL x).toArray → Q .normal { tmps := List.toArray (.pointer (some ⟨p, 0, none⟩) :: .int .i64 (j : Int) :: t2 :: t3 :: t4 :: .pointer (some ⟨V.heap.size, 0, none⟩) :: .int .i64 ev :: t7 :: t8 :: t9 :: t10 :: t11 :: t12 :: t13 :: t14 :: t15 :: t16 :: x17 :: x18 :: x19 :: x20 :: x21 :: x22 :: x23 :: x24 :: x25 :: x26 :: x27 :: x28 :: t29 :: t30 :: t31 :: t32 :: t33 :: t34 :: t35 :: t36 :: t37 :: t38 :: t39 :: t40 :: t41 :: t42 :: t43 :: t44 :: t45 :: t46 :: t47 :: t48 :: t49 :: t50 :: t51 :: t52 :: t53 :: t54 :: t55 :: t56 :: t57 :: t58 :: t59 :: t60 :: t61 :: t62 :: t63 :: t64 :: t65 :: t66 :: t67 :: t68 :: t69 :: t70 :: t71 :: t72 :: t73 :: t74 :: t75 :: t76 :: t77 :: t78 :: t79 :: t80 :: t81 :: t82 :: t83 :: t84 :: t85 :: t86 :: t87 :: t88 :: t89 :: t90 :: []), defers := [] } w')) :
    Code.wp Tryd.prog (Code.region 3 #[{ dst := some 17, op := Op.move (Operand.tmp 0), type := 24, pos := "index.go:126", after := #[], guard := none },
{ dst := some 18, op := Op.nilCheck (Operand.tmp 17), type := 0, pos := "index.go:126", after := #[{ on := 0, ground := Ground.data }], guard := none },
{ dst := some 19, op := Op.fieldAddr 76 (Operand.tmp 18) 1, type := 0, pos := "index.go:126", after := #[{ on := 1, ground := Ground.data }], guard := none },
{ dst := some 20, op := Op.load 74 (Operand.tmp 19), type := 74, pos := "index.go:126", after := #[{ on := 2, ground := Ground.data }], guard := none },
{ dst := some 21, op := Op.move (Operand.tmp 1), type := 3, pos := "index.go:126", after := #[], guard := none },
{ dst := some 22, op := Op.indexAddr 74 (Operand.tmp 20) (Operand.tmp 21), type := 0, pos := "index.go:126", after := #[{ on := 3, ground := Ground.data }, { on := 4, ground := Ground.data }], guard := none },
{ dst := some 23, op := Op.load 45 (Operand.tmp 22), type := 45, pos := "index.go:126", after := #[{ on := 5, ground := Ground.data }], guard := none },
{ dst := some 24, op := Op.move (Operand.tmp 0), type := 24, pos := "index.go:126", after := #[{ on := 13, ground := Ground.gcOnly Departure.lateStores }], guard := none },
{ dst := some 25, op := Op.nilCheck (Operand.tmp 24), type := 0, pos := "index.go:126", after := #[{ on := 7, ground := Ground.data }, { on := 13, ground := Ground.gcOnly Departure.lateStores }], guard := none },
{ dst := some 26, op := Op.fieldAddr 76 (Operand.tmp 25) 0, type := 0, pos := "index.go:126", after := #[{ on := 8, ground := Ground.data }, { on := 13, ground := Ground.gcOnly Departure.lateStores }], guard := none },
{ dst := some 27, op := Op.fieldAddr 37 (Operand.tmp 26) 1, type := 0, pos := "index.go:126", after := #[{ on := 9, ground := Ground.data }, { on := 13, ground := Ground.gcOnly Departure.lateStores }], guard := none },
{ dst := some 28, op := Op.load 3 (Operand.tmp 27), type := 3, pos := "index.go:126", after := #[{ on := 10, ground := Ground.data }, { on := 13, ground := Ground.gcOnly Departure.lateStores }], guard := none },
{ dst := some 5, op := Op.alloc 45, type := 0, pos := "index.go:126", after := #[], guard := none },
{ dst := none, op := Op.store 45 (Operand.tmp 5) (Operand.tmp 23), type := 0, pos := "index.go:126", after := #[{ on := 12, ground := Ground.data }, { on := 6, ground := Ground.data }, { on := 0, ground := Ground.phase }, { on := 1, ground := Ground.phase }, { on := 2, ground := Ground.phase }, { on := 3, ground := Ground.phase }, { on := 4, ground := Ground.phase }, { on := 5, ground := Ground.phase }, { on := 6, ground := Ground.phase }, { on := 7, ground := Ground.textOnly Departure.lateStores }, { on := 8, ground := Ground.textOnly Departure.lateStores }, { on := 9, ground := Ground.textOnly Departure.lateStores }, { on := 10, ground := Ground.textOnly Departure.lateStores }, { on := 11, ground := Ground.textOnly Departure.lateStores }, { on := 12, ground := Ground.phase }], guard := none },
{ dst := some 6, op := Op.assign (Operand.tmp 28), type := 3, pos := "index.go:126", after := #[{ on := 11, ground := Ground.data }, { on := 13, ground := Ground.chain }, { on := 0, ground := Ground.phase }, { on := 1, ground := Ground.phase }, { on := 2, ground := Ground.phase }, { on := 3, ground := Ground.phase }, { on := 4, ground := Ground.phase }, { on := 5, ground := Ground.phase }, { on := 6, ground := Ground.phase }, { on := 7, ground := Ground.phase }, { on := 8, ground := Ground.phase }, { on := 9, ground := Ground.phase }, { on := 10, ground := Ground.phase }, { on := 11, ground := Ground.phase }, { on := 12, ground := Ground.phase }, { on := 13, ground := Ground.phase }], guard := none }] true) Q { tmps := List.toArray (.pointer (some ⟨p, 0, none⟩) :: .int .i64 (j : Int) :: t2 :: t3 :: t4 :: t5 :: t6 :: t7 :: t8 :: t9 :: t10 :: t11 :: t12 :: t13 :: t14 :: t15 :: t16 :: t17 :: t18 :: t19 :: t20 :: t21 :: t22 :: t23 :: t24 :: t25 :: t26 :: t27 :: t28 :: t29 :: t30 :: t31 :: t32 :: t33 :: t34 :: t35 :: t36 :: t37 :: t38 :: t39 :: t40 :: t41 :: t42 :: t43 :: t44 :: t45 :: t46 :: t47 :: t48 :: t49 :: t50 :: t51 :: t52 :: t53 :: t54 :: t55 :: t56 :: t57 :: t58 :: t59 :: t60 :: t61 :: t62 :: t63 :: t64 :: t65 :: t66 :: t67 :: t68 :: t69 :: t70 :: t71 :: t72 :: t73 :: t74 :: t75 :: t76 :: t77 :: t78 :: t79 :: t80 :: t81 :: t82 :: t83 :: t84 :: t85 :: t86 :: t87 :: t88 :: t89 :: t90 :: []), defers := [] } V := by
  refine wp_region_noPanic ?_
  refine wp_region_held_drew (S := (fun w' => Below V.heap.size V w')) (by kernel_rfl) ((Below.refl _ _).drew) (fun hHeld => ?_)
  have hB : Below V.heap.size V V.drew := ((Below.refl _ _).drew)
  show wpAnyH _ _ _ _ _ 15 _ _ _
  refine wpAnyH_take (i := 0) (oi := { dst := some 17, op := Op.move (Operand.tmp 0), type := 24, pos := "index.go:126", after := #[], guard := none }) (v := .pointer (some ⟨p, 0, none⟩)) rfl (by kernel_rfl) (by kernel_rfl) (by kernel_rfl) (fun _ _ _ h => h) ?_ hB ?_
  · (refine Or.inl ⟨by kernel_rfl, ?_⟩; intro w hSw; go_simp)
  simp only [Act.put, List.setIfInBounds_toArray, List.set_cons_zero, List.set_cons_succ]
  refine wpAnyH_take (i := 1) (oi := { dst := some 18, op := Op.nilCheck (Operand.tmp 17), type := 0, pos := "index.go:126", after := #[{ on := 0, ground := Ground.data }], guard := none }) (v := .pointer (some ⟨p, 0, none⟩)) rfl (by kernel_rfl) (by kernel_rfl) (by kernel_rfl) (fun _ _ _ h => h) ?_ hB ?_
  · (refine Or.inl ⟨by kernel_rfl, ?_⟩; intro w hSw; have hzp := Nat.lt_of_lt_of_le zp hSw.size; have hzb := Nat.lt_of_lt_of_le zb hSw.size; go_simp)
  simp only [Act.put, List.setIfInBounds_toArray, List.set_cons_zero, List.set_cons_succ]
  refine wpAnyH_take (i := 2) (oi := { dst := some 19, op := Op.fieldAddr 76 (Operand.tmp 18) 1, type := 0, pos := "index.go:126", after := #[{ on := 1, ground := Ground.data }], guard := none }) (v := .pointer (some ⟨p, 74, none⟩)) rfl (by kernel_rfl) (by kernel_rfl) (by kernel_rfl) (fun _ _ _ h => h) ?_ hB ?_
  · (refine Or.inl ⟨by kernel_rfl, ?_⟩; intro w hSw; have hzp := Nat.lt_of_lt_of_le zp hSw.size; have hzb := Nat.lt_of_lt_of_le zb hSw.size; go_simp)
  simp only [Act.put, List.setIfInBounds_toArray, List.set_cons_zero, List.set_cons_succ]
  refine wpAnyH_take (i := 3) (oi := { dst := some 20, op := Op.load 74 (Operand.tmp 19), type := 74, pos := "index.go:126", after := #[{ on := 2, ground := Ground.data }], guard := none }) (v := .slice (some ⟨b, 0, none⟩) n c) rfl (by kernel_rfl) (by kernel_rfl) (by kernel_rfl) (fun _ _ _ h => h) ?_ hB ?_
  · (refine Or.inl ⟨by kernel_rfl, ?_⟩; intro w hSw; have hzp := Nat.lt_of_lt_of_le zp hSw.size; have hzb := Nat.lt_of_lt_of_le zb hSw.size; have c74 := (hSw.cell (p := ⟨p, 74, none⟩) zp).trans HC74.out; go_simp)
  simp only [Act.put, List.setIfInBounds_toArray, List.set_cons_zero, List.set_cons_succ]
  refine wpAnyH_take (i := 4) (oi := { dst := some 21, op := Op.move (Operand.tmp 1), type := 3, pos := "index.go:126", after := #[], guard := none }) (v := .int .i64 (j : Int)) rfl (by kernel_rfl) (by kernel_rfl) (by kernel_rfl) (fun _ _ _ h => h) ?_ hB ?_
  · (refine Or.inl ⟨by kernel_rfl, ?_⟩; intro w hSw; go_simp)
  simp only [Act.put, List.setIfInBounds_toArray, List.set_cons_zero, List.set_cons_succ]
  refine wpAnyH_take (i := 5) (oi := { dst := some 22, op := Op.indexAddr 74 (Operand.tmp 20) (Operand.tmp 21), type := 0, pos := "index.go:126", after := #[{ on := 3, ground := Ground.data }, { on := 4, ground := Ground.data }], guard := none }) (v := .pointer (some ⟨b, j * 108, none⟩)) rfl (by kernel_rfl) (by kernel_rfl) (by kernel_rfl) (fun _ _ _ h => h) ?_ hB ?_
  · (refine Or.inl ⟨by kernel_rfl, ?_⟩; intro w hSw; have h1 := hj; have h0 := hj0; have hzp := Nat.lt_of_lt_of_le zp hSw.size; have hzb := Nat.lt_of_lt_of_le zb hSw.size; go_simp)
  simp only [Act.put, List.setIfInBounds_toArray, List.set_cons_zero, List.set_cons_succ]
  refine wpAnyH_take (i := 6) (oi := { dst := some 23, op := Op.load 45 (Operand.tmp 22), type := 45, pos := "index.go:126", after := #[{ on := 5, ground := Ground.data }], guard := none }) (v := .agg (ndL x).toArray) rfl (by kernel_rfl) (by kernel_rfl) (by kernel_rfl) (fun _ _ _ h => h) ?_ hB ?_
  · (exact yieldsIf_load_mid (by kernel_rfl) 45 (.tmp 22) rfl b (j * 108) rfl (ndL x) _ (fun w hSw => rowr_below hrg hSw zb) Tryd.underlying45 rfl (nd_sizeL hx))
  simp only [Act.put, List.setIfInBounds_toArray, List.set_cons_zero, List.set_cons_succ]
  refine wpAnyH_take (i := 7) (oi := { dst := some 24, op := Op.move (Operand.tmp 0), type := 24, pos := "index.go:126", after := #[{ on := 13, ground := Ground.gcOnly Departure.lateStores }], guard := none }) (v := .pointer (some ⟨p, 0, none⟩)) rfl (by kernel_rfl) (by kernel_rfl) (by kernel_rfl) (fun _ _ _ h => h) ?_ hB ?_
  · (refine Or.inl ⟨by kernel_rfl, ?_⟩; intro w hSw; go_simp)
  simp only [Act.put, List.setIfInBounds_toArray, List.set_cons_zero, List.set_cons_succ]
  refine wpAnyH_take (i := 8) (oi := { dst := some 25, op := Op.nilCheck (Operand.tmp 24), type := 0, pos := "index.go:126", after := #[{ on := 7, ground := Ground.data }, { on := 13, ground := Ground.gcOnly Departure.lateStores }], guard := none }) (v := .pointer (some ⟨p, 0, none⟩)) rfl (by kernel_rfl) (by kernel_rfl) (by kernel_rfl) (fun _ _ _ h => h) ?_ hB ?_
  · (refine Or.inl ⟨by kernel_rfl, ?_⟩; intro w hSw; have hzp := Nat.lt_of_lt_of_le zp hSw.size; have hzb := Nat.lt_of_lt_of_le zb hSw.size; go_simp)
  simp only [Act.put, List.setIfInBounds_toArray, List.set_cons_zero, List.set_cons_succ]
  refine wpAnyH_take (i := 9) (oi := { dst := some 26, op := Op.fieldAddr 76 (Operand.tmp 25) 0, type := 0, pos := "index.go:126", after := #[{ on := 8, ground := Ground.data }, { on := 13, ground := Ground.gcOnly Departure.lateStores }], guard := none }) (v := .pointer (some ⟨p, 0, none⟩)) rfl (by kernel_rfl) (by kernel_rfl) (by kernel_rfl) (fun _ _ _ h => h) ?_ hB ?_
  · (refine Or.inl ⟨by kernel_rfl, ?_⟩; intro w hSw; have hzp := Nat.lt_of_lt_of_le zp hSw.size; have hzb := Nat.lt_of_lt_of_le zb hSw.size; go_simp)
  simp only [Act.put, List.setIfInBounds_toArray, List.set_cons_zero, List.set_cons_succ]
  refine wpAnyH_take (i := 10) (oi := { dst := some 27, op := Op.fieldAddr 37 (Operand.tmp 26) 1, type := 0, pos := "index.go:126", after := #[{ on := 9, ground := Ground.data }, { on := 13, ground := Ground.gcOnly Departure.lateStores }], guard := none }) (v := .pointer (some ⟨p, 1, none⟩)) rfl (by kernel_rfl) (by kernel_rfl) (by kernel_rfl) (fun _ _ _ h => h) ?_ hB ?_
  · (refine Or.inl ⟨by kernel_rfl, ?_⟩; intro w hSw; have hzp := Nat.lt_of_lt_of_le zp hSw.size; have hzb := Nat.lt_of_lt_of_le zb hSw.size; go_simp)
  simp only [Act.put, List.setIfInBounds_toArray, List.set_cons_zero, List.set_cons_succ]
  refine wpAnyH_take (i := 11) (oi := { dst := some 28, op := Op.load 3 (Operand.tmp 27), type := 3, pos := "index.go:126", after := #[{ on := 10, ground := Ground.data }, { on := 13, ground := Ground.gcOnly Departure.lateStores }], guard := none }) (v := .int .i64 ev) rfl (by kernel_rfl) (by kernel_rfl) (by kernel_rfl) (fun _ _ _ h => h) ?_ hB ?_
  · (refine Or.inl ⟨by kernel_rfl, ?_⟩; intro w hSw; have hzp := Nat.lt_of_lt_of_le zp hSw.size; have hzb := Nat.lt_of_lt_of_le zb hSw.size; have c1 := (hSw.cell (p := ⟨p, 1, none⟩) zp).trans HC1.out; go_simp)
  simp only [Act.put, List.setIfInBounds_toArray, List.set_cons_zero, List.set_cons_succ]
  refine wpAnyH_ready (rs := [12]) (by kernel_rfl) (by simp) ?_
  refine AllReadyH.cons rfl (fun K hK => ?_) AllReadyH.nil
  refine sx_alloc 45 nz.toArray nz_zero nz_ne rfl rfl ?_
  simp only [Act.put, List.setIfInBounds_toArray, List.set_cons_zero, List.set_cons_succ]
  have hB2 := (hB.alloc (Nat.le_refl _) (.cells nz.toArray 45))
  refine hK.out _ _ hB2 (fun _ => ?_)
  have hk := (Bk.new V.drew 45 nz.toArray)
  show wpAnyH _ _ _ _ _ 2 #[true, true, true, true, true, true, true, true, true, true, true, true, true, false, false] { tmps := List.toArray (.pointer (some ⟨p, 0, none⟩) :: .int .i64 (j : Int) :: t2 :: t3 :: t4 :: .pointer (some ⟨V.heap.size, 0, none⟩) :: t6 :: t7 :: t8 :: t9 :: t10 :: t11 :: t12 :: t13 :: t14 :: t15 :: t16 :: .pointer (some ⟨p, 0, none⟩) :: .pointer (some ⟨p, 0, none⟩) :: .pointer (some ⟨p, 74, none⟩) :: .slice (some ⟨b, 0, none⟩) n c :: .int .i64 (j : Int) :: .pointer (some ⟨b, j * 108, none⟩) :: .agg (ndL x).toArray :: .pointer (some ⟨p, 0, none⟩) :: .pointer (some ⟨p, 0, none⟩) :: .pointer (some ⟨p, 0, none⟩) :: .pointer (some ⟨p, 1, none⟩) :: .int .i64 ev :: t29 :: t30 :: t31 :: t32 :: t33 :: t34 :: t35 :: t36 :: t37 :: t38 :: t39 :: t40 :: t41 :: t42 :: t43 :: t44 :: t45 :: t46 :: t47 :: t48 :: t49 :: t50 :: t51 :: t52 :: t53 :: t54 :: t55 :: t56 :: t57 :: t58 :: t59 :: t60 :: t61 :: t62 :: t63 :: t64 :: t65 :: t66 :: t67 :: t68 :: t69 :: t70 :: t71 :: t72 :: t73 :: t74 :: t75 :: t76 :: t77 :: t78 :: t79 :: t80 :: t81 :: t82 :: t83 :: t84 :: t85 :: t86 :: t87 :: t88 :: t89 :: t90 :: []), defers := [] } _
  clear hB hK K
  have hB := hB2
  clear hB2
  refine wpAnyH_ready (rs := [13]) (by kernel_rfl) (by simp) ?_
  refine AllReadyH.cons rfl (fun K hK => ?_) AllReadyH.nil
  refine sx_store rfl 45 (.tmp 5) (.tmp 23) rfl V.heap.size 0 (ndL x).toArray rfl rfl (hk.there _ (by rw [List.size_toArray, ndL_len hx, nz_size]; exact Nat.le_refl _)) (nd_sizeA hx) (nd_onesA x) ?_
  simp only [Act.put, List.setIfInBounds_toArray, List.set_cons_zero, List.set_cons_succ]
  have hB2 := (show Below V.heap.size V ((V.drew.alloc (.cells nz.toArray 45)).setCells V.heap.size 0 (ndL x)) from Below.setCells (Nat.le_refl _) _ _ _ hB)
  refine hK.out _ _ hB2 (fun _ => ?_)
  have hend := (Bk.setAll (xs := (ndL x).toArray) hk (by rw [List.size_toArray, ndL_len hx, nz_size]))
  show wpAnyH _ _ _ _ _ 1 #[true, true, true, true, true, true, true, true, true, true, true, true, true, true, false] { tmps := List.toArray (.pointer (some ⟨p, 0, none⟩) :: .int .i64 (j : Int) :: t2 :: t3 :: t4 :: .pointer (some ⟨V.heap.size, 0, none⟩) :: t6 :: t7 :: t8 :: t9 :: t10 :: t11 :: t12 :: t13 :: t14 :: t15 :: t16 :: .pointer (some ⟨p, 0, none⟩) :: .pointer (some ⟨p, 0, none⟩) :: .pointer (some ⟨p, 74, none⟩) :: .slice (some ⟨b, 0, none⟩) n c :: .int .i64 (j : Int) :: .pointer (some ⟨b, j * 108, none⟩) :: .agg (ndL x).toArray :: .pointer (some ⟨p, 0, none⟩) :: .pointer (some ⟨p, 0, none⟩) :: .pointer (some ⟨p, 0, none⟩) :: .pointer (some ⟨p, 1, none⟩) :: .int .i64 ev :: t29 :: t30 :: t31 :: t32 :: t33 :: t34 :: t35 :: t36 :: t37 :: t38 :: t39 :: t40 :: t41 :: t42 :: t43 :: t44 :: t45 :: t46 :: t47 :: t48 :: t49 :: t50 :: t51 :: t52 :: t53 :: t54 :: t55 :: t56 :: t57 :: t58 :: t59 :: t60 :: t61 :: t62 :: t63 :: t64 :: t65 :: t66 :: t67 :: t68 :: t69 :: t70 :: t71 :: t72 :: t73 :: t74 :: t75 :: t76 :: t77 :: t78 :: t79 :: t80 :: t81 :: t82 :: t83 :: t84 :: t85 :: t86 :: t87 :: t88 :: t89 :: t90 :: []), defers := [] } _
  refine wpAnyH_take (i := 14) (oi := { dst := some 6, op := Op.assign (Operand.tmp 28), type := 3, pos := "index.go:126", after := #[{ on := 11, ground := Ground.data }, { on := 13, ground := Ground.chain }, { on := 0, ground := Ground.phase }, { on := 1, ground := Ground.phase }, { on := 2, ground := Ground.phase }, { on := 3, ground := Ground.phase }, { on := 4, ground := Ground.phase }, { on := 5, ground := Ground.phase }, { on := 6, ground := Ground.phase }, { on := 7, ground := Ground.phase }, { on := 8, ground := Ground.phase }, { on := 9, ground := Ground.phase }, { on := 10, ground := Ground.phase }, { on := 11, ground := Ground.phase }, { on := 12, ground := Ground.phase }, { on := 13, ground := Ground.phase }], guard := none }) (v := .int .i64 ev) rfl (by kernel_rfl) (by kernel_rfl) (by kernel_rfl) (fun _ _ _ h => h) ?_ hB2 ?_
  · (refine Or.inl ⟨by kernel_rfl, ?_⟩; intro w hSw; go_simp)
  simp only [Act.put, List.setIfInBounds_toArray, List.set_cons_zero, List.set_cons_succ]
  clear hB hK K
  have hB := hB2
  clear hB2
  refine wpAnyH_done (by kernel_rfl) ?_ _
  refine NoPanic.normal ?_
  have hEnd := HQ.out (.pointer (some ⟨p, 0, none⟩)) (.pointer (some ⟨p, 0, none⟩)) (.pointer (some ⟨p, 74, none⟩)) (.slice (some ⟨b, 0, none⟩) n c) (.int .i64 (j : Int)) (.pointer (some ⟨b, j * 108, none⟩)) (.agg (ndL x).toArray) (.pointer (some ⟨p, 0, none⟩)) (.pointer (some ⟨p, 0, none⟩)) (.pointer (some ⟨p, 0, none⟩)) (.pointer (some ⟨p, 1, none⟩)) (.int .i64 ev) _ hB hend
  exact hEnd

end Go.Proofs.YtljfhabhenaapaaDoor
