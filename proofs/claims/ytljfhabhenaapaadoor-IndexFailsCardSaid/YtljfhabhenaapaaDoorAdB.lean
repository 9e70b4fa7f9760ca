/-
  The last region of the tree's Add.
-/
import Derived.Test.YtljfhabhenaapaaDoorAdA
import Derived.Deep.RegionHeld3
namespace Go.Proofs.YtljfhabhenaapaaDoor
open Go.RowKit
set_option linter.unusedVariables false
set_option linter.unusedSimpArgs false
set_option maxRecDepth 100000
theorem nd_range102 {w : World} {b o : Nat} {x : Nd} (h : NdAt w b o x) : w.cell? ⟨b, o + 102, none⟩ = some (.int .i64 x.ht) := h.ht
set_option maxRecDepth 100000 in
set_option maxHeartbeats 16000000 in
theorem tadd15 (p k4 k8 k14 k15 j sk ht hh sm N : Nat) (h : Hd) (FS : Nat → Prop) (G : World → Prop) (V : World) (t1 t2 t3 t5 t6 t7 t9 t10 t12 t13 t16 t17 t18 t19 t20 t21 t22 t23 t24 t25 t26 t27 t28 t29 t30 t31 t32 t33 t34 t35 t36 t37 t38 t39 t40 t41 t42 t43 t44 t45 t46 t47 t48 t49 t50 t51 t52 t53 t54 t55 t56 t57 t58 t59 t60 t61 t62 t63 t64 t65 t66 t67 t68 t69 t70 t71 t72 t73 t74 t75 t76 t77 t78 t79 t80 t81 t82 t83 t84 : Value) (Q : Exit → Act → World → Prop) (hx : IsHd h) (z4 : k4 < V.heap.size) (n4 : ¬ FS k4) (hr4 : V.rangeAt k4 0 (hdL h)) (z8 : k8 < V.heap.size) (n8 : ¬ FS k8) (hr8 : V.rangeAt k8 0 (idL (nameI h))) (z14 : k14 < V.heap.size) (n14 : ¬ FS k14) (HC14 : Hid (V.cell? ⟨k14, 102, none⟩ = some (.int .i64 (ht : Int)))) (hwr : IntKind.i64.wrap ((ht : Int) + 1) = (hh : Int)) (z15 : k15 < V.heap.size) (n15 : ¬ FS k15) (hr15 : V.rangeAt k15 0 (numR.c sm)) (HSK : Hid (∀ W, Below V.heap.size V W → Calls Tryd.prog 35 #[.pointer (some ⟨p, 0, none⟩), .int .i64 (j : Int)] W fun e w' => e = .returned (.int .i64 (sk : Int)) ∧ Below W.heap.size W w')) (HPUT : Hid (∀ W, Below V.heap.size V W → Calls Tryd.prog 28 #[.pointer (some ⟨p, 0, none⟩), .agg (ndL ⟨h, (j : Int), sk, hh, sm, false⟩).toArray] W fun e w' => e = .returned (.int .i64 (N : Int)) ∧ But FS V w' ∧ G w')) (HQ : Hid (∀ (x72 x73 x74 x75 x76 x77 x78 x79 x80 x81 x82 x83 x84 : Value)  (w' : World), G w' → Q .normal { tmps := List.toArray (.pointer (some ⟨p, 0, none⟩) :: t1 :: t2 :: t3 :: .pointer (some ⟨k4, 0, none⟩) :: t5 :: .int .i64 (N : Int) :: .int .i64 0 :: .pointer (some ⟨k8, 0, none⟩) :: t9 :: t10 :: .int .i64 (j : Int) :: t12 :: t13 :: .pointer (some ⟨k14, 0, none⟩) :: .pointer (some ⟨k15, 0, none⟩) :: t16 :: t17 :: t18 :: t19 :: t20 :: t21 :: t22 :: t23 :: t24 :: t25 :: t26 :: t27 :: t28 :: t29 :: t30 :: t31 :: t32 :: t33 :: t34 :: t35 :: t36 :: t37 :: t38 :: t39 :: t40 :: t41 :: t42 :: t43 :: t44 :: t45 :: t46 :: t47 :: t48 :: t49 :: t50 :: t51 :: t52 :: t53 :: t54 :: t55 :: t56 :: t57 :: t58 :: t59 :: t60 :: t61 :: t62 :: t63 :: t64 :: t65 :: t66 :: t67 :: t68 :: t69 :: t70 :: t71 :: x72 :: x73 :: x74 :: x75 :: x76 :: x77 :: x78 :: x79 :: x80 :: x81 :: x82 :: x83 :: x84 :: []), defers := [] } w')) :
    Code.wp Tryd.prog (Code.region 15 #[{ dst := some 72, op := Op.move (Operand.tmp 0), type := 24, pos := "index.go:176", after := #[], guard := none },
{ dst := some 73, op := Op.load 32 (Operand.tmp 4), type := 32, pos := "index.go:176", after := #[], guard := none },
{ dst := some 74, op := Op.load 30 (Operand.tmp 8), type := 30, pos := "index.go:176", after := #[], guard := none },
{ dst := some 75, op := Op.move (Operand.tmp 11), type := 3, pos := "index.go:176", after := #[], guard := none },
{ dst := some 76, op := Op.move (Operand.tmp 0), type := 24, pos := "index.go:176", after := #[], guard := none },
{ dst := some 77, op := Op.move (Operand.tmp 11), type := 3, pos := "index.go:176", after := #[], guard := none },
{ dst := some 78, op := Op.call { callee := Callee.value (Operand.func 35), args := #[Operand.tmp 76, Operand.tmp 77], argTypes := #[24, 3] }, type := 3, pos := "index.go:176", after := #[{ on := 4, ground := Ground.data }, { on := 5, ground := Ground.data }], guard := none },
{ dst := some 79, op := Op.fieldAddr 45 (Operand.tmp 14) 4, type := 0, pos := "index.go:176", after := #[], guard := none },
{ dst := some 80, op := Op.load 3 (Operand.tmp 79), type := 3, pos := "index.go:176", after := #[{ on := 7, ground := Ground.data }], guard := none },
{ dst := some 81, op := Op.binOp BinOp.add 3 (Operand.tmp 80) (Operand.const (Value.int IntKind.i64 1)) 3, type := 3, pos := "index.go:176", after := #[{ on := 8, ground := Ground.data }], guard := none },
{ dst := some 82, op := Op.load 43 (Operand.tmp 15), type := 43, pos := "index.go:176", after := #[], guard := none },
{ dst := some 83, op := Op.build 45 #[(0, Operand.tmp 73), (1, Operand.tmp 74), (2, Operand.tmp 75), (3, Operand.tmp 78), (4, Operand.tmp 81), (5, Operand.tmp 82)], type := 45, pos := "index.go:176", after := #[{ on := 1, ground := Ground.data }, { on := 2, ground := Ground.data }, { on := 3, ground := Ground.data }, { on := 6, ground := Ground.data }, { on := 9, ground := Ground.data }, { on := 10, ground := Ground.data }], guard := none },
{ dst := some 84, op := Op.call { callee := Callee.value (Operand.func 28), args := #[Operand.tmp 72, Operand.tmp 83], argTypes := #[24, 45] }, type := 3, pos := "index.go:176", after := #[{ on := 0, ground := Ground.data }, { on := 11, ground := Ground.data }, { on := 6, ground := Ground.chain }], guard := none },
{ dst := some 6, op := Op.assign (Operand.tmp 84), type := 3, pos := "index.go:176", after := #[{ on := 12, ground := Ground.data }, { on := 12, ground := Ground.chain }, { on := 0, ground := Ground.phase }, { on := 1, ground := Ground.phase }, { on := 2, ground := Ground.phase }, { on := 3, ground := Ground.phase }, { on := 4, ground := Ground.phase }, { on := 5, ground := Ground.phase }, { on := 6, ground := Ground.phase }, { on := 7, ground := Ground.phase }, { on := 8, ground := Ground.phase }, { on := 9, ground := Ground.phase }, { on := 10, ground := Ground.phase }, { on := 11, ground := Ground.phase }, { on := 12, ground := Ground.phase }], guard := none },
{ dst := some 7, op := Op.assign (Operand.const (Value.int IntKind.i64 0)), type := 25, pos := "index.go:176", after := #[{ on := 13, ground := Ground.chain }, { on := 0, ground := Ground.phase }, { on := 1, ground := Ground.phase }, { on := 2, ground := Ground.phase }, { on := 3, ground := Ground.phase }, { on := 4, ground := Ground.phase }, { on := 5, ground := Ground.phase }, { on := 6, ground := Ground.phase }, { on := 7, ground := Ground.phase }, { on := 8, ground := Ground.phase }, { on := 9, ground := Ground.phase }, { on := 10, ground := Ground.phase }, { on := 11, ground := Ground.phase }, { on := 12, ground := Ground.phase }, { on := 13, ground := Ground.phase }], guard := none }] true) Q { tmps := List.toArray (.pointer (some ⟨p, 0, none⟩) :: t1 :: t2 :: t3 :: .pointer (some ⟨k4, 0, none⟩) :: t5 :: t6 :: t7 :: .pointer (some ⟨k8, 0, none⟩) :: t9 :: t10 :: .int .i64 (j : Int) :: t12 :: t13 :: .pointer (some ⟨k14, 0, none⟩) :: .pointer (some ⟨k15, 0, none⟩) :: t16 :: t17 :: t18 :: t19 :: t20 :: t21 :: t22 :: t23 :: t24 :: t25 :: t26 :: t27 :: t28 :: t29 :: t30 :: t31 :: t32 :: t33 :: t34 :: t35 :: t36 :: t37 :: t38 :: t39 :: t40 :: t41 :: t42 :: t43 :: t44 :: t45 :: t46 :: t47 :: t48 :: t49 :: t50 :: t51 :: t52 :: t53 :: t54 :: t55 :: t56 :: t57 :: t58 :: t59 :: t60 :: t61 :: t62 :: t63 :: t64 :: t65 :: t66 :: t67 :: t68 :: t69 :: t70 :: t71 :: t72 :: t73 :: t74 :: t75 :: t76 :: t77 :: t78 :: t79 :: t80 :: t81 :: t82 :: t83 :: t84 :: []), defers := [] } V := by
  refine wp_region_noPanic ?_
  refine wp_region_held_drew (S := (fun w' => But FS V w')) (by kernel_rfl) ((But.refl _ V).drew) (fun hHeld => ?_)
  have hB : But FS V V.drew := ((But.refl _ V).drew)
  show wpAnyH _ _ _ _ _ 15 _ _ _
  refine wpAnyH_take (i := 0) (oi := { dst := some 72, op := Op.move (Operand.tmp 0), type := 24, pos := "index.go:176", after := #[], guard := none }) (v := .pointer (some ⟨p, 0, none⟩)) rfl (by kernel_rfl) (by kernel_rfl) (by kernel_rfl) (fun _ _ _ h => h) ?_ hB ?_
  · (refine Or.inl ⟨by kernel_rfl, ?_⟩; intro w hSw; go_simp)
  simp only [Act.put, List.setIfInBounds_toArray, List.set_cons_zero, List.set_cons_succ]
  refine wpAnyH_take (i := 1) (oi := { dst := some 73, op := Op.load 32 (Operand.tmp 4), type := 32, pos := "index.go:176", after := #[], guard := none }) (v := .agg (hdL h).toArray) rfl (by kernel_rfl) (by kernel_rfl) (by kernel_rfl) (fun _ _ _ h => h) ?_ hB ?_
  · (exact yieldsIf_load_mid (by kernel_rfl) 32 (.tmp 4) rfl k4 0 rfl (hdL h) _ (fun w hSw => fun a u hu => (hSw.cell (p := ⟨k4, _, none⟩) z4 n4).trans (hr4 a u hu)) Tryd.underlying32 rfl (hd_sizeL hx))
  simp only [Act.put, List.setIfInBounds_toArray, List.set_cons_zero, List.set_cons_succ]
  refine wpAnyH_take (i := 2) (oi := { dst := some 74, op := Op.load 30 (Operand.tmp 8), type := 30, pos := "index.go:176", after := #[], guard := none }) (v := .agg (idL (nameI h)).toArray) rfl (by kernel_rfl) (by kernel_rfl) (by kernel_rfl) (fun _ _ _ h => h) ?_ hB ?_
  · (exact yieldsIf_load_mid (by kernel_rfl) 30 (.tmp 8) rfl k8 0 rfl (idL (nameI h)) _ (fun w hSw => fun a u hu => (hSw.cell (p := ⟨k8, _, none⟩) z8 n8).trans (hr8 a u hu)) Tryd.underlying30 rfl (id_sizeX _))
  simp only [Act.put, List.setIfInBounds_toArray, List.set_cons_zero, List.set_cons_succ]
  refine wpAnyH_take (i := 3) (oi := { dst := some 75, op := Op.move (Operand.tmp 11), type := 3, pos := "index.go:176", after := #[], guard := none }) (v := .int .i64 (j : Int)) rfl (by kernel_rfl) (by kernel_rfl) (by kernel_rfl) (fun _ _ _ h => h) ?_ hB ?_
  · (refine Or.inl ⟨by kernel_rfl, ?_⟩; intro w hSw; go_simp)
  simp only [Act.put, List.setIfInBounds_toArray, List.set_cons_zero, List.set_cons_succ]
  refine wpAnyH_take (i := 4) (oi := { dst := some 76, op := Op.move (Operand.tmp 0), type := 24, pos := "index.go:176", after := #[], guard := none }) (v := .pointer (some ⟨p, 0, none⟩)) rfl (by kernel_rfl) (by kernel_rfl) (by kernel_rfl) (fun _ _ _ h => h) ?_ hB ?_
  · (refine Or.inl ⟨by kernel_rfl, ?_⟩; intro w hSw; go_simp)
  simp only [Act.put, List.setIfInBounds_toArray, List.set_cons_zero, List.set_cons_succ]
  refine wpAnyH_take (i := 5) (oi := { dst := some 77, op := Op.move (Operand.tmp 11), type := 3, pos := "index.go:176", after := #[], guard := none }) (v := .int .i64 (j : Int)) rfl (by kernel_rfl) (by kernel_rfl) (by kernel_rfl) (fun _ _ _ h => h) ?_ hB ?_
  · (refine Or.inl ⟨by kernel_rfl, ?_⟩; intro w hSw; go_simp)
  simp only [Act.put, List.setIfInBounds_toArray, List.set_cons_zero, List.set_cons_succ]
  refine wpAnyH_take (i := 7) (oi := { dst := some 79, op := Op.fieldAddr 45 (Operand.tmp 14) 4, type := 0, pos := "index.go:176", after := #[], guard := none }) (v := .pointer (some ⟨k14, 102, none⟩)) rfl (by kernel_rfl) (by kernel_rfl) (by kernel_rfl) (fun _ _ _ h => h) ?_ hB ?_
  · (refine Or.inl ⟨by kernel_rfl, ?_⟩; intro w hSw; have hz4 := Nat.lt_of_lt_of_le z14 hSw.size; go_simp)
  simp only [Act.put, List.setIfInBounds_toArray, List.set_cons_zero, List.set_cons_succ]
  refine wpAnyH_take (i := 8) (oi := { dst := some 80, op := Op.load 3 (Operand.tmp 79), type := 3, pos := "index.go:176", after := #[{ on := 7, ground := Ground.data }], guard := none }) (v := .int .i64 (ht : Int)) rfl (by kernel_rfl) (by kernel_rfl) (by kernel_rfl) (fun _ _ _ h => h) ?_ hB ?_
  · (refine Or.inl ⟨by kernel_rfl, ?_⟩; intro w hSw; have hz4 := Nat.lt_of_lt_of_le z14 hSw.size; have c1 := (hSw.cell (p := ⟨k14, 102, none⟩) z14 n14).trans HC14.out; go_simp)
  simp only [Act.put, List.setIfInBounds_toArray, List.set_cons_zero, List.set_cons_succ]
  refine wpAnyH_take (i := 9) (oi := { dst := some 81, op := Op.binOp BinOp.add 3 (Operand.tmp 80) (Operand.const (Value.int IntKind.i64 1)) 3, type := 3, pos := "index.go:176", after := #[{ on := 8, ground := Ground.data }], guard := none }) (v := .int .i64 (hh : Int)) rfl (by kernel_rfl) (by kernel_rfl) (by kernel_rfl) (fun _ _ _ h => h) ?_ hB ?_
  · (refine Or.inl ⟨by kernel_rfl, ?_⟩; intro w hSw; have h1 := hwr; go_simp)
  simp only [Act.put, List.setIfInBounds_toArray, List.set_cons_zero, List.set_cons_succ]
  refine wpAnyH_take (i := 10) (oi := { dst := some 82, op := Op.load 43 (Operand.tmp 15), type := 43, pos := "index.go:176", after := #[], guard := none }) (v := nv sm) rfl (by kernel_rfl) (by kernel_rfl) (by kernel_rfl) (fun _ _ _ h => h) ?_ hB ?_
  · (exact yieldsIf_load_mid (by kernel_rfl) 43 (.tmp 15) rfl k15 0 rfl (numR.c sm) _ (fun w hSw => fun a u hu => (hSw.cell (p := ⟨k15, _, none⟩) z15 n15).trans (hr15 a u hu)) Tryd.underlying43 rfl (row_size numR_ok sm))
  simp only [Act.put, List.setIfInBounds_toArray, List.set_cons_zero, List.set_cons_succ]
  refine wpAnyH_ready (rs := [6]) (by kernel_rfl) (by simp) ?_
  refine AllReadyH.cons rfl (fun K hK => ?_) AllReadyH.nil
  refine sx_call (by kernel_rfl) _ _ (HSK.out _ (Below.refl _ _).drew) (by kernel_rfl) (fun e6 w6 h6 => ⟨_, h6.1, ?_⟩)
  have hb6 : Below V.heap.size V w6 := ((Below.refl _ V).drew).trans h6.2
  simp only [Act.put, List.setIfInBounds_toArray, List.set_cons_zero, List.set_cons_succ]
  have hB2 := (hB.trans (But.of (S := FS) h6.2) (fun _ _ h => h))
  refine hK.out _ _ hB2 (fun _ => ?_)
  have hbl := hb6
  show wpAnyH _ _ _ _ _ 4 #[true, true, true, true, true, true, true, true, true, true, true, false, false, false, false] { tmps := List.toArray (.pointer (some ⟨p, 0, none⟩) :: t1 :: t2 :: t3 :: .pointer (some ⟨k4, 0, none⟩) :: t5 :: t6 :: t7 :: .pointer (some ⟨k8, 0, none⟩) :: t9 :: t10 :: .int .i64 (j : Int) :: t12 :: t13 :: .pointer (some ⟨k14, 0, none⟩) :: .pointer (some ⟨k15, 0, none⟩) :: t16 :: t17 :: t18 :: t19 :: t20 :: t21 :: t22 :: t23 :: t24 :: t25 :: t26 :: t27 :: t28 :: t29 :: t30 :: t31 :: t32 :: t33 :: t34 :: t35 :: t36 :: t37 :: t38 :: t39 :: t40 :: t41 :: t42 :: t43 :: t44 :: t45 :: t46 :: t47 :: t48 :: t49 :: t50 :: t51 :: t52 :: t53 :: t54 :: t55 :: t56 :: t57 :: t58 :: t59 :: t60 :: t61 :: t62 :: t63 :: t64 :: t65 :: t66 :: t67 :: t68 :: t69 :: t70 :: t71 :: .pointer (some ⟨p, 0, none⟩) :: .agg (hdL h).toArray :: .agg (idL (nameI h)).toArray :: .int .i64 (j : Int) :: .pointer (some ⟨p, 0, none⟩) :: .int .i64 (j : Int) :: .int .i64 (sk : Int) :: .pointer (some ⟨k14, 102, none⟩) :: .int .i64 (ht : Int) :: .int .i64 (hh : Int) :: nv sm :: t83 :: t84 :: []), defers := [] } _
  refine wpAnyH_take (i := 11) (oi := { dst := some 83, op := Op.build 45 #[(0, Operand.tmp 73), (1, Operand.tmp 74), (2, Operand.tmp 75), (3, Operand.tmp 78), (4, Operand.tmp 81), (5, Operand.tmp 82)], type := 45, pos := "index.go:176", after := #[{ on := 1, ground := Ground.data }, { on := 2, ground := Ground.data }, { on := 3, ground := Ground.data }, { on := 6, ground := Ground.data }, { on := 9, ground := Ground.data }, { on := 10, ground := Ground.data }], guard := none }) (v := .agg (ndL ⟨h, (j : Int), sk, hh, sm, false⟩).toArray) rfl (by kernel_rfl) (by kernel_rfl) (by kernel_rfl) (fun _ _ _ h => h) ?_ hB2 ?_
  · (refine Or.inl ⟨by kernel_rfl, ?_⟩; intro w hSw; have e1 := bld_1 hx; have e2 := bld_2 hx; have e3 := bldA_size hx; have e4 := bldB_size hx; have e5 := bld_3 hx (j : Int) sk hh sm; have e6 := nz_zero; have e7 := nz_ne; have e8 := nz_size; have e9 := hdL_length hx; have e10 := idL_len (nameI h); go_simp)
  simp only [Act.put, List.setIfInBounds_toArray, List.set_cons_zero, List.set_cons_succ]
  clear hB hK K
  have hB := hB2
  clear hB2
  refine wpAnyH_ready (rs := [12]) (by kernel_rfl) (by simp) ?_
  refine AllReadyH.cons rfl (fun K hK => ?_) AllReadyH.nil
  refine sx_call (by kernel_rfl) _ _ (HPUT.out _ hbl) (by kernel_rfl) (fun e7 w7 h7 => ⟨_, h7.1, ?_⟩)
  simp only [Act.put, List.setIfInBounds_toArray, List.set_cons_zero, List.set_cons_succ]
  have hB2 := h7.2.1
  refine hK.out _ _ hB2 (fun _ => ?_)
  have hend := h7.2.2
  show wpAnyH _ _ _ _ _ 2 #[true, true, true, true, true, true, true, true, true, true, true, true, true, false, false] { tmps := List.toArray (.pointer (some ⟨p, 0, none⟩) :: t1 :: t2 :: t3 :: .pointer (some ⟨k4, 0, none⟩) :: t5 :: t6 :: t7 :: .pointer (some ⟨k8, 0, none⟩) :: t9 :: t10 :: .int .i64 (j : Int) :: t12 :: t13 :: .pointer (some ⟨k14, 0, none⟩) :: .pointer (some ⟨k15, 0, none⟩) :: t16 :: t17 :: t18 :: t19 :: t20 :: t21 :: t22 :: t23 :: t24 :: t25 :: t26 :: t27 :: t28 :: t29 :: t30 :: t31 :: t32 :: t33 :: t34 :: t35 :: t36 :: t37 :: t38 :: t39 :: t40 :: t41 :: t42 :: t43 :: t44 :: t45 :: t46 :: t47 :: t48 :: t49 :: t50 :: t51 :: t52 :: t53 :: t54 :: t55 :: t56 :: t57 :: t58 :: t59 :: t60 :: t61 :: t62 :: t63 :: t64 :: t65 :: t66 :: t67 :: t68 :: t69 :: t70 :: t71 :: .pointer (some ⟨p, 0, none⟩) :: .agg (hdL h).toArray :: .agg (idL (nameI h)).toArray :: .int .i64 (j : Int) :: .pointer (some ⟨p, 0, none⟩) :: .int .i64 (j : Int) :: .int .i64 (sk : Int) :: .pointer (some ⟨k14, 102, none⟩) :: .int .i64 (ht : Int) :: .int .i64 (hh : Int) :: nv sm :: .agg (ndL ⟨h, (j : Int), sk, hh, sm, false⟩).toArray :: .int .i64 (N : Int) :: []), defers := [] } _
  refine wpAnyH_take (i := 13) (oi := { dst := some 6, op := Op.assign (Operand.tmp 84), type := 3, pos := "index.go:176", after := #[{ on := 12, ground := Ground.data }, { on := 12, ground := Ground.chain }, { on := 0, ground := Ground.phase }, { on := 1, ground := Ground.phase }, { on := 2, ground := Ground.phase }, { on := 3, ground := Ground.phase }, { on := 4, ground := Ground.phase }, { on := 5, ground := Ground.phase }, { on := 6, ground := Ground.phase }, { on := 7, ground := Ground.phase }, { on := 8, ground := Ground.phase }, { on := 9, ground := Ground.phase }, { on := 10, ground := Ground.phase }, { on := 11, ground := Ground.phase }, { on := 12, ground := Ground.phase }], guard := none }) (v := .int .i64 (N : Int)) rfl (by kernel_rfl) (by kernel_rfl) (by kernel_rfl) (fun _ _ _ h => h) ?_ hB2 ?_
  · (refine Or.inl ⟨by kernel_rfl, ?_⟩; intro w hSw; go_simp)
  simp only [Act.put, List.setIfInBounds_toArray, List.set_cons_zero, List.set_cons_succ]
  refine wpAnyH_take (i := 14) (oi := { dst := some 7, op := Op.assign (Operand.const (Value.int IntKind.i64 0)), type := 25, pos := "index.go:176", after := #[{ on := 13, ground := Ground.chain }, { on := 0, ground := Ground.phase }, { on := 1, ground := Ground.phase }, { on := 2, ground := Ground.phase }, { on := 3, ground := Ground.phase }, { on := 4, ground := Ground.phase }, { on := 5, ground := Ground.phase }, { on := 6, ground := Ground.phase }, { on := 7, ground := Ground.phase }, { on := 8, ground := Ground.phase }, { on := 9, ground := Ground.phase }, { on := 10, ground := Ground.phase }, { on := 11, ground := Ground.phase }, { on := 12, ground := Ground.phase }, { on := 13, ground := Ground.phase }], guard := none }) (v := .int .i64 0) rfl (by kernel_rfl) (by kernel_rfl) (by kernel_rfl) (fun _ _ _ h => h) ?_ hB2 ?_
  · (refine Or.inl ⟨by kernel_rfl, ?_⟩; intro w hSw; go_simp)
  simp only [Act.put, List.setIfInBounds_toArray, List.set_cons_zero, List.set_cons_succ]
  clear hB hK K
  have hB := hB2
  clear hB2
  refine wpAnyH_done (by kernel_rfl) ?_ _
  refine NoPanic.normal ?_
  have hEnd := HQ.out (.pointer (some ⟨p, 0, none⟩)) (.agg (hdL h).toArray) (.agg (idL (nameI h)).toArray) (.int .i64 (j : Int)) (.pointer (some ⟨p, 0, none⟩)) (.int .i64 (j : Int)) (.int .i64 (sk : Int)) (.pointer (some ⟨k14, 102, none⟩)) (.int .i64 (ht : Int)) (.int .i64 (hh : Int)) (nv sm) (.agg (ndL ⟨h, (j : Int), sk, hh, sm, false⟩).toArray) (.int .i64 (N : Int)) _ hend
  exact hEnd

end Go.Proofs.YtljfhabhenaapaaDoor
