/-
  A region of the law TxBlocks.
-/
import Derived.Test.YtokiinpegclffaaDoorTbl
import Derived.Test.YtokiinpegclffaaDoorMroM
namespace Go.Proofs.YtokiinpegclffaaDoor.txBlocks
open Go.ChangeShapes Go.WideShapes Go.ChangeAt Go.RowKit
set_option linter.unusedVariables false
set_option linter.unusedSimpArgs false
set_option maxRecDepth 100000
theorem step_callE {ops : Array Oper} {o : Oper} {a : Act} {w : World} {K : Act → World → Prop} {Q : Exit → Act → World → Prop} {E : Prop} (hw : Region.wanted o (yielded ops a.tmps) = true) (f : FuncId) (args : Array Value) {u : ByteArray}
    (hc : Calls Tryd.prog f args w fun e w' => ∃ s m c, e = .returned (.slice s m c) ∧ (∀ w2, Below w'.heap.size w' w2 → (convert 33 9 (.slice s m c)).run Tryd.prog w2 = .ok (.string u) w2) ∧ Below w.heap.size w w') (hrun : (execOp a.eval o).run Tryd.prog w = .ok (.enter f args) w)
    (hK : ∀ (w' : World) (s : Option Addr) (m c : Nat), (∀ w2, Below w'.heap.size w' w2 → (convert 33 9 (.slice s m c)).run Tryd.prog w2 = .ok (.string u) w2) → Below w.heap.size w w' → K (a.put o.dst (.slice s m c)) w') :
    if Region.wanted o (yielded ops a.tmps) = true then Oper.wp Tryd.prog o a w K Q else E := by
  rw [if_pos hw]
  unfold Oper.wp
  rw [hrun, Oper.upon_enter]
  refine hc.mono ?_
  rintro e w' ⟨s, m, c, rfl, h1, h2⟩
  exact hK _ _ _ _ h1 h2
set_option maxHeartbeats 8000000 in
theorem region18N {t0 t1 t2 t3 t4 t5 t6 t7 t8 t12 t13 t14 t15 t16 t17 t18 t19 t20 t21 t22 t23 t24 t25 t26 t27 t28 t29 t30 t31 t32 t33 t34 t35 t36 t37 t38 t39 t40 t41 t42 t43 t44 t45 t46 t47 t48 t49 t50 t51 t52 t53 t54 t55 t56 t57 t58 t59 t60 t61 t62 t63 t64 t65 t66 t67 t68 t69 t70 t71 t72 t73 t74 t75 t76 t77 t78 t79 t80 t81 t82 t83 t84 t85 : Value} {Q : Exit → Act → World → Prop} (V : World) (g10 ly cy e0 : Nat) (sy : Option Addr) (u : ByteArray)
    (HCV : Hid (∀ w', Below V.heap.size V w' → (convert 33 9 (.slice sy ly cy)).run Tryd.prog w' = .ok (.string u) w'))
    (HRB : Hid (∀ W, Below V.heap.size V W → Calls Tryd.prog 30 #[.string u] W fun e w' => e = .returned (.int .i64 (e0 : Int)) ∧ Below W.heap.size W w')) (hg : g10 < V.heap.size) (he0 : ((e0 : Int) == 0) = false) (hn0 : ((e0 : Int) != 0) = true) (HZ : List Value) (HZE : Hid (HZ = hdL hd0)) (hrg : V.rangeAt g10 0 HZ) (hps : (Tryd.prog.info? 54).map (·.size) = some HZ.length)
    (HC : Hid (∀ w', Below V.heap.size V w' → w'.cell? ⟨g10, 68, none⟩ = some (.slice none 0 0)))
    (hgd : ∀ (a b : Operand) W, (eqGuard .neq 54 a b (.agg HZ.toArray) (.agg HZ.toArray)).run Tryd.prog W = .ok () W) (hbn : ∀ W, (binOp .neq 54 (.agg HZ.toArray) (.agg HZ.toArray)).run Tryd.prog W = .ok (.bool false) W)
    (hQ : ∀ (x52 x53 x54 x55 x56 x57 x58 x59 x60 x61 x62 x63 x64 x65 x66 x67 x68 x69 x70 x71 x72 x73 x74 x75 x76 x77 x78 x79 x80 x81 x82 x83 : Value) (w' : World), Below V.heap.size V w' → Q .normal { tmps := List.toArray (t0 :: t1 :: t2 :: t3 :: t4 :: t5 :: t6 :: t7 :: t8 :: .slice sy ly cy :: .pointer (some ⟨g10, 0, none⟩) :: .int .i64 (e0 : Int) :: t12 :: t13 :: t14 :: t15 :: t16 :: t17 :: t18 :: t19 :: t20 :: t21 :: t22 :: t23 :: t24 :: t25 :: t26 :: t27 :: t28 :: t29 :: t30 :: t31 :: t32 :: t33 :: t34 :: t35 :: t36 :: t37 :: t38 :: t39 :: t40 :: t41 :: t42 :: t43 :: t44 :: t45 :: t46 :: t47 :: t48 :: t49 :: t50 :: t51 :: x52 :: x53 :: x54 :: x55 :: x56 :: x57 :: x58 :: x59 :: x60 :: x61 :: x62 :: x63 :: x64 :: x65 :: x66 :: x67 :: x68 :: x69 :: x70 :: x71 :: x72 :: x73 :: x74 :: x75 :: x76 :: x77 :: x78 :: x79 :: x80 :: x81 :: x82 :: x83 :: .bool false :: t85 :: []), defers := [] } w') :
    Code.wp Tryd.prog (Code.region 18 #[{ dst := some 52, op := Op.move (Operand.tmp 11), type := 41, pos := "law.go:102", after := #[], guard := none },
{ dst := some 53, op := Op.move (Operand.tmp 9), type := 33, pos := "law.go:102", after := #[], guard := none },
{ dst := some 54, op := Op.convert 33 9 (Operand.tmp 53), type := 9, pos := "law.go:102", after := #[{ on := 1, ground := Ground.data }], guard := none },
{ dst := some 55, op := Op.call { callee := Callee.value (Operand.func 30), args := #[Operand.tmp 54], argTypes := #[9] }, type := 3, pos := "law.go:102", after := #[{ on := 2, ground := Ground.data }], guard := none },
{ dst := some 56, op := Op.binOp BinOp.neq 3 (Operand.tmp 52) (Operand.tmp 55) 3, type := 4, pos := "law.go:102", after := #[{ on := 0, ground := Ground.data }, { on := 3, ground := Ground.data }], guard := none },
{ dst := some 57, op := Op.move (Operand.tmp 56), type := 4, pos := "law.go:102", after := #[{ on := 4, ground := Ground.data }, { on := 3, ground := Ground.chain }], guard := none },
{ dst := some 58, op := Op.move (Operand.tmp 11), type := 41, pos := "law.go:102", after := #[{ on := 5, ground := Ground.guard }], guard := some (5, false) },
{ dst := some 59, op := Op.binOp BinOp.eql 41 (Operand.tmp 58) (Operand.const (Value.int IntKind.i64 0)) 41, type := 4, pos := "law.go:102", after := #[{ on := 6, ground := Ground.data }, { on := 5, ground := Ground.guard }], guard := some (5, false) },
{ dst := some 60, op := Op.move (Operand.tmp 59), type := 4, pos := "law.go:102", after := #[{ on := 7, ground := Ground.data }, { on := 5, ground := Ground.chain }, { on := 5, ground := Ground.guard }], guard := some (5, false) },
{ dst := some 61, op := Op.load 56 (Operand.tmp 10), type := 56, pos := "law.go:102", after := #[{ on := 8, ground := Ground.guard }], guard := some (8, true) },
{ dst := some 62, op := Op.call { callee := Callee.value (Operand.func 27), args := #[Operand.tmp 61], argTypes := #[56] }, type := 33, pos := "law.go:102", after := #[{ on := 9, ground := Ground.data }, { on := 8, ground := Ground.chain }, { on := 8, ground := Ground.guard }], guard := some (8, true) },
{ dst := some 63, op := Op.convert 33 9 (Operand.tmp 62), type := 9, pos := "law.go:102", after := #[{ on := 10, ground := Ground.data }, { on := 8, ground := Ground.guard }], guard := some (8, true) },
{ dst := some 64, op := Op.move (Operand.tmp 9), type := 33, pos := "law.go:102", after := #[{ on := 8, ground := Ground.guard }], guard := some (8, true) },
{ dst := some 65, op := Op.convert 33 9 (Operand.tmp 64), type := 9, pos := "law.go:102", after := #[{ on := 12, ground := Ground.data }, { on := 8, ground := Ground.guard }], guard := some (8, true) },
{ dst := some 66, op := Op.binOp BinOp.neq 9 (Operand.tmp 63) (Operand.tmp 65) 9, type := 4, pos := "law.go:102", after := #[{ on := 11, ground := Ground.data }, { on := 13, ground := Ground.data }, { on := 8, ground := Ground.guard }], guard := some (8, true) },
{ dst := some 67, op := Op.pick (Operand.tmp 60) (Operand.tmp 66) (Operand.const (Value.bool false)), type := 4, pos := "law.go:102", after := #[{ on := 8, ground := Ground.data }, { on := 14, ground := Ground.data }, { on := 5, ground := Ground.guard }], guard := some (5, false) },
{ dst := some 68, op := Op.pick (Operand.tmp 57) (Operand.const (Value.bool true)) (Operand.tmp 67), type := 4, pos := "law.go:102", after := #[{ on := 5, ground := Ground.data }, { on := 15, ground := Ground.data }], guard := none },
{ dst := some 69, op := Op.move (Operand.tmp 68), type := 4, pos := "law.go:102", after := #[{ on := 16, ground := Ground.data }, { on := 10, ground := Ground.chain }], guard := none },
{ dst := some 70, op := Op.move (Operand.tmp 11), type := 41, pos := "law.go:102", after := #[{ on := 17, ground := Ground.guard }], guard := some (17, false) },
{ dst := some 71, op := Op.binOp BinOp.neq 41 (Operand.tmp 70) (Operand.const (Value.int IntKind.i64 0)) 41, type := 4, pos := "law.go:102", after := #[{ on := 18, ground := Ground.data }, { on := 17, ground := Ground.guard }], guard := some (17, false) },
{ dst := some 72, op := Op.move (Operand.tmp 71), type := 4, pos := "law.go:102", after := #[{ on := 19, ground := Ground.data }, { on := 17, ground := Ground.chain }, { on := 17, ground := Ground.guard }], guard := some (17, false) },
{ dst := some 73, op := Op.fieldAddr 56 (Operand.tmp 10) 1, type := 0, pos := "law.go:102", after := #[{ on := 20, ground := Ground.guard }], guard := some (20, true) },
{ dst := some 74, op := Op.load 47 (Operand.tmp 73), type := 47, pos := "law.go:102", after := #[{ on := 21, ground := Ground.data }, { on := 20, ground := Ground.guard }], guard := some (20, true) },
{ dst := some 75, op := Op.call { callee := Callee.builtin Builtin.len, args := #[Operand.tmp 74], argTypes := #[47] }, type := 3, pos := "law.go:102", after := #[{ on := 22, ground := Ground.data }, { on := 20, ground := Ground.guard }], guard := some (20, true) },
{ dst := some 76, op := Op.binOp BinOp.neq 3 (Operand.tmp 75) (Operand.const (Value.int IntKind.i64 0)) 3, type := 4, pos := "law.go:102", after := #[{ on := 23, ground := Ground.data }, { on := 20, ground := Ground.guard }], guard := some (20, true) },
{ dst := some 77, op := Op.move (Operand.tmp 76), type := 4, pos := "law.go:102", after := #[{ on := 24, ground := Ground.data }, { on := 20, ground := Ground.chain }, { on := 20, ground := Ground.guard }], guard := some (20, true) },
{ dst := some 78, op := Op.fieldAddr 56 (Operand.tmp 10) 0, type := 0, pos := "law.go:102", after := #[{ on := 25, ground := Ground.guard }], guard := some (25, false) },
{ dst := some 79, op := Op.load 54 (Operand.tmp 78), type := 54, pos := "law.go:102", after := #[{ on := 26, ground := Ground.data }, { on := 25, ground := Ground.guard }], guard := some (25, false) },
{ dst := some 80, op := Op.build 54 #[], type := 54, pos := "law.go:102", after := #[{ on := 25, ground := Ground.guard }], guard := some (25, false) },
{ dst := some 81, op := Op.binOp BinOp.neq 54 (Operand.tmp 79) (Operand.tmp 80) 54, type := 4, pos := "law.go:102", after := #[{ on := 27, ground := Ground.data }, { on := 28, ground := Ground.data }, { on := 25, ground := Ground.guard }], guard := some (25, false) },
{ dst := some 82, op := Op.pick (Operand.tmp 77) (Operand.const (Value.bool true)) (Operand.tmp 81), type := 4, pos := "law.go:102", after := #[{ on := 25, ground := Ground.data }, { on := 29, ground := Ground.data }, { on := 20, ground := Ground.guard }], guard := some (20, true) },
{ dst := some 83, op := Op.pick (Operand.tmp 72) (Operand.tmp 82) (Operand.const (Value.bool false)), type := 4, pos := "law.go:102", after := #[{ on := 20, ground := Ground.data }, { on := 30, ground := Ground.data }, { on := 17, ground := Ground.guard }], guard := some (17, false) },
{ dst := some 84, op := Op.pick (Operand.tmp 69) (Operand.const (Value.bool true)) (Operand.tmp 83), type := 4, pos := "law.go:102", after := #[{ on := 17, ground := Ground.data }, { on := 31, ground := Ground.data }], guard := none }] true) Q { tmps := List.toArray (t0 :: t1 :: t2 :: t3 :: t4 :: t5 :: t6 :: t7 :: t8 :: .slice sy ly cy :: .pointer (some ⟨g10, 0, none⟩) :: .int .i64 (e0 : Int) :: t12 :: t13 :: t14 :: t15 :: t16 :: t17 :: t18 :: t19 :: t20 :: t21 :: t22 :: t23 :: t24 :: t25 :: t26 :: t27 :: t28 :: t29 :: t30 :: t31 :: t32 :: t33 :: t34 :: t35 :: t36 :: t37 :: t38 :: t39 :: t40 :: t41 :: t42 :: t43 :: t44 :: t45 :: t46 :: t47 :: t48 :: t49 :: t50 :: t51 :: t52 :: t53 :: t54 :: t55 :: t56 :: t57 :: t58 :: t59 :: t60 :: t61 :: t62 :: t63 :: t64 :: t65 :: t66 :: t67 :: t68 :: t69 :: t70 :: t71 :: t72 :: t73 :: t74 :: t75 :: t76 :: t77 :: t78 :: t79 :: t80 :: t81 :: t82 :: t83 :: t84 :: t85 :: []), defers := [] } V := by
  have HQ := Lib.hid hQ
  clear hQ
  refine wp_region_noPanic ?_
  refine wp_region_held_drew (S := fun w' => Below V.heap.size V w') (by kernel_rfl) ((Below.refl _ _).drew) (fun hHeld => ?_)
  have hB : Below V.heap.size V V.drew := (Below.refl _ _).drew
  show wpAnyH _ _ _ _ _ 33 _ _ _
  refine wpAnyH_take (i := 0) (oi := { dst := some 52, op := Op.move (Operand.tmp 11), type := 41, pos := "law.go:102", after := #[], guard := none }) (v := .int .i64 (e0 : Int)) rfl (by kernel_rfl) (by kernel_rfl) (by kernel_rfl) (fun _ _ _ h => h) ?_ hB ?_
  · (refine Or.inl ⟨by kernel_rfl, ?_⟩; intro w hSw; go_simp)
  simp only [Act.put, List.setIfInBounds_toArray, List.set_cons_zero, List.set_cons_succ]
  refine wpAnyH_take (i := 1) (oi := { dst := some 53, op := Op.move (Operand.tmp 9), type := 33, pos := "law.go:102", after := #[], guard := none }) (v := .slice sy ly cy) rfl (by kernel_rfl) (by kernel_rfl) (by kernel_rfl) (fun _ _ _ h => h) ?_ hB ?_
  · (refine Or.inl ⟨by kernel_rfl, ?_⟩; intro w hSw; go_simp)
  simp only [Act.put, List.setIfInBounds_toArray, List.set_cons_zero, List.set_cons_succ]
  refine wpAnyH_take (i := 2) (oi := { dst := some 54, op := Op.convert 33 9 (Operand.tmp 53), type := 9, pos := "law.go:102", after := #[{ on := 1, ground := Ground.data }], guard := none }) (v := .string u) rfl (by kernel_rfl) (by kernel_rfl) (by kernel_rfl) (fun _ _ _ h => h) ?_ hB ?_
  · (refine Or.inl ⟨by kernel_rfl, ?_⟩; intro w hSw; have h1 := HCV.out w hSw; go_simp)
  simp only [Act.put, List.setIfInBounds_toArray, List.set_cons_zero, List.set_cons_succ]
  refine wpAnyH_ready (rs := [3]) (by kernel_rfl) (by simp) ?_
  refine AllReadyH.cons rfl (fun K hK => ?_) AllReadyH.nil
  refine merkleRoots.step_callS (by kernel_rfl) _ _ (.int .i64 (e0 : Int)) (HRB.out _ hB) (by kernel_rfl) (fun w1 hb1 => ?_)
  simp only [Act.put, List.setIfInBounds_toArray, List.set_cons_zero, List.set_cons_succ]
  have hB1 : Below V.heap.size V w1 := below_step hB (Nat.le_refl _) hb1
  refine hK.out _ _ hB1 (fun _ => ?_)
  show wpAnyH _ _ _ _ _ 29 #[true, true, true, true, false, false, false, false, false, false, false, false, false, false, false, false, false, false, false, false, false, false, false, false, false, false, false, false, false, false, false, false, false] { tmps := List.toArray (t0 :: t1 :: t2 :: t3 :: t4 :: t5 :: t6 :: t7 :: t8 :: .slice sy ly cy :: .pointer (some ⟨g10, 0, none⟩) :: .int .i64 (e0 : Int) :: t12 :: t13 :: t14 :: t15 :: t16 :: t17 :: t18 :: t19 :: t20 :: t21 :: t22 :: t23 :: t24 :: t25 :: t26 :: t27 :: t28 :: t29 :: t30 :: t31 :: t32 :: t33 :: t34 :: t35 :: t36 :: t37 :: t38 :: t39 :: t40 :: t41 :: t42 :: t43 :: t44 :: t45 :: t46 :: t47 :: t48 :: t49 :: t50 :: t51 :: .int .i64 (e0 : Int) :: .slice sy ly cy :: .string u :: .int .i64 (e0 : Int) :: t56 :: t57 :: t58 :: t59 :: t60 :: t61 :: t62 :: t63 :: t64 :: t65 :: t66 :: t67 :: t68 :: t69 :: t70 :: t71 :: t72 :: t73 :: t74 :: t75 :: t76 :: t77 :: t78 :: t79 :: t80 :: t81 :: t82 :: t83 :: t84 :: t85 :: []), defers := [] } w1
  refine wpAnyH_take (i := 4) (oi := { dst := some 56, op := Op.binOp BinOp.neq 3 (Operand.tmp 52) (Operand.tmp 55) 3, type := 4, pos := "law.go:102", after := #[{ on := 0, ground := Ground.data }, { on := 3, ground := Ground.data }], guard := none }) (v := .bool false) rfl (by kernel_rfl) (by kernel_rfl) (by kernel_rfl) (fun _ _ _ h => h) ?_ hB1 ?_
  · (refine Or.inl ⟨by kernel_rfl, ?_⟩; intro w hSw; go_simp)
  simp only [Act.put, List.setIfInBounds_toArray, List.set_cons_zero, List.set_cons_succ]
  refine wpAnyH_take (i := 5) (oi := { dst := some 57, op := Op.move (Operand.tmp 56), type := 4, pos := "law.go:102", after := #[{ on := 4, ground := Ground.data }, { on := 3, ground := Ground.chain }], guard := none }) (v := .bool false) rfl (by kernel_rfl) (by kernel_rfl) (by kernel_rfl) (fun _ _ _ h => h) ?_ hB1 ?_
  · (refine Or.inl ⟨by kernel_rfl, ?_⟩; intro w hSw; go_simp)
  simp only [Act.put, List.setIfInBounds_toArray, List.set_cons_zero, List.set_cons_succ]
  refine wpAnyH_take (i := 6) (oi := { dst := some 58, op := Op.move (Operand.tmp 11), type := 41, pos := "law.go:102", after := #[{ on := 5, ground := Ground.guard }], guard := some (5, false) }) (v := .int .i64 (e0 : Int)) rfl (by kernel_rfl) (by kernel_rfl) (by kernel_rfl) (fun _ _ _ h => h) ?_ hB1 ?_
  · (refine Or.inl ⟨by kernel_rfl, ?_⟩; intro w hSw; go_simp)
  simp only [Act.put, List.setIfInBounds_toArray, List.set_cons_zero, List.set_cons_succ]
  refine wpAnyH_take (i := 7) (oi := { dst := some 59, op := Op.binOp BinOp.eql 41 (Operand.tmp 58) (Operand.const (Value.int IntKind.i64 0)) 41, type := 4, pos := "law.go:102", after := #[{ on := 6, ground := Ground.data }, { on := 5, ground := Ground.guard }], guard := some (5, false) }) (v := .bool false) rfl (by kernel_rfl) (by kernel_rfl) (by kernel_rfl) (fun _ _ _ h => h) ?_ hB1 ?_
  · (refine Or.inl ⟨by kernel_rfl, ?_⟩; intro w hSw; have h0 := he0; go_simp)
  simp only [Act.put, List.setIfInBounds_toArray, List.set_cons_zero, List.set_cons_succ]
  refine wpAnyH_take (i := 8) (oi := { dst := some 60, op := Op.move (Operand.tmp 59), type := 4, pos := "law.go:102", after := #[{ on := 7, ground := Ground.data }, { on := 5, ground := Ground.chain }, { on := 5, ground := Ground.guard }], guard := some (5, false) }) (v := .bool false) rfl (by kernel_rfl) (by kernel_rfl) (by kernel_rfl) (fun _ _ _ h => h) ?_ hB1 ?_
  · (refine Or.inl ⟨by kernel_rfl, ?_⟩; intro w hSw; go_simp)
  simp only [Act.put, List.setIfInBounds_toArray, List.set_cons_zero, List.set_cons_succ]
  refine wpAnyH_take (i := 9) (oi := { dst := some 61, op := Op.load 56 (Operand.tmp 10), type := 56, pos := "law.go:102", after := #[{ on := 8, ground := Ground.guard }], guard := some (8, true) }) (v := undef) rfl (by kernel_rfl) (by kernel_rfl) (by kernel_rfl) (fun _ _ _ h => h) ?_ hB1 ?_
  · (exact Or.inr ⟨by kernel_rfl, rfl⟩)
  simp only [Act.put, List.setIfInBounds_toArray, List.set_cons_zero, List.set_cons_succ]
  refine wpAnyH_take (i := 10) (oi := { dst := some 62, op := Op.call { callee := Callee.value (Operand.func 27), args := #[Operand.tmp 61], argTypes := #[56] }, type := 33, pos := "law.go:102", after := #[{ on := 9, ground := Ground.data }, { on := 8, ground := Ground.chain }, { on := 8, ground := Ground.guard }], guard := some (8, true) }) (v := undef) rfl (by kernel_rfl) (by kernel_rfl) (by kernel_rfl) (fun _ _ _ h => h) ?_ hB1 ?_
  · (exact Or.inr ⟨by kernel_rfl, rfl⟩)
  simp only [Act.put, List.setIfInBounds_toArray, List.set_cons_zero, List.set_cons_succ]
  refine wpAnyH_take (i := 11) (oi := { dst := some 63, op := Op.convert 33 9 (Operand.tmp 62), type := 9, pos := "law.go:102", after := #[{ on := 10, ground := Ground.data }, { on := 8, ground := Ground.guard }], guard := some (8, true) }) (v := undef) rfl (by kernel_rfl) (by kernel_rfl) (by kernel_rfl) (fun _ _ _ h => h) ?_ hB1 ?_
  · (exact Or.inr ⟨by kernel_rfl, rfl⟩)
  simp only [Act.put, List.setIfInBounds_toArray, List.set_cons_zero, List.set_cons_succ]
  refine wpAnyH_take (i := 12) (oi := { dst := some 64, op := Op.move (Operand.tmp 9), type := 33, pos := "law.go:102", after := #[{ on := 8, ground := Ground.guard }], guard := some (8, true) }) (v := undef) rfl (by kernel_rfl) (by kernel_rfl) (by kernel_rfl) (fun _ _ _ h => h) ?_ hB1 ?_
  · (exact Or.inr ⟨by kernel_rfl, rfl⟩)
  simp only [Act.put, List.setIfInBounds_toArray, List.set_cons_zero, List.set_cons_succ]
  refine wpAnyH_take (i := 13) (oi := { dst := some 65, op := Op.convert 33 9 (Operand.tmp 64), type := 9, pos := "law.go:102", after := #[{ on := 12, ground := Ground.data }, { on := 8, ground := Ground.guard }], guard := some (8, true) }) (v := undef) rfl (by kernel_rfl) (by kernel_rfl) (by kernel_rfl) (fun _ _ _ h => h) ?_ hB1 ?_
  · (exact Or.inr ⟨by kernel_rfl, rfl⟩)
  simp only [Act.put, List.setIfInBounds_toArray, List.set_cons_zero, List.set_cons_succ]
  refine wpAnyH_take (i := 14) (oi := { dst := some 66, op := Op.binOp BinOp.neq 9 (Operand.tmp 63) (Operand.tmp 65) 9, type := 4, pos := "law.go:102", after := #[{ on := 11, ground := Ground.data }, { on := 13, ground := Ground.data }, { on := 8, ground := Ground.guard }], guard := some (8, true) }) (v := undef) rfl (by kernel_rfl) (by kernel_rfl) (by kernel_rfl) (fun _ _ _ h => h) ?_ hB1 ?_
  · (exact Or.inr ⟨by kernel_rfl, rfl⟩)
  simp only [Act.put, List.setIfInBounds_toArray, List.set_cons_zero, List.set_cons_succ]
  refine wpAnyH_take (i := 15) (oi := { dst := some 67, op := Op.pick (Operand.tmp 60) (Operand.tmp 66) (Operand.const (Value.bool false)), type := 4, pos := "law.go:102", after := #[{ on := 8, ground := Ground.data }, { on := 14, ground := Ground.data }, { on := 5, ground := Ground.guard }], guard := some (5, false) }) (v := .bool false) rfl (by kernel_rfl) (by kernel_rfl) (by kernel_rfl) (fun _ _ _ h => h) ?_ hB1 ?_
  · (refine Or.inl ⟨by kernel_rfl, ?_⟩; intro w hSw; go_simp)
  simp only [Act.put, List.setIfInBounds_toArray, List.set_cons_zero, List.set_cons_succ]
  refine wpAnyH_take (i := 16) (oi := { dst := some 68, op := Op.pick (Operand.tmp 57) (Operand.const (Value.bool true)) (Operand.tmp 67), type := 4, pos := "law.go:102", after := #[{ on := 5, ground := Ground.data }, { on := 15, ground := Ground.data }], guard := none }) (v := .bool false) rfl (by kernel_rfl) (by kernel_rfl) (by kernel_rfl) (fun _ _ _ h => h) ?_ hB1 ?_
  · (refine Or.inl ⟨by kernel_rfl, ?_⟩; intro w hSw; go_simp)
  simp only [Act.put, List.setIfInBounds_toArray, List.set_cons_zero, List.set_cons_succ]
  refine wpAnyH_take (i := 17) (oi := { dst := some 69, op := Op.move (Operand.tmp 68), type := 4, pos := "law.go:102", after := #[{ on := 16, ground := Ground.data }, { on := 10, ground := Ground.chain }], guard := none }) (v := .bool false) rfl (by kernel_rfl) (by kernel_rfl) (by kernel_rfl) (fun _ _ _ h => h) ?_ hB1 ?_
  · (refine Or.inl ⟨by kernel_rfl, ?_⟩; intro w hSw; go_simp)
  simp only [Act.put, List.setIfInBounds_toArray, List.set_cons_zero, List.set_cons_succ]
  refine wpAnyH_take (i := 18) (oi := { dst := some 70, op := Op.move (Operand.tmp 11), type := 41, pos := "law.go:102", after := #[{ on := 17, ground := Ground.guard }], guard := some (17, false) }) (v := .int .i64 (e0 : Int)) rfl (by kernel_rfl) (by kernel_rfl) (by kernel_rfl) (fun _ _ _ h => h) ?_ hB1 ?_
  · (refine Or.inl ⟨by kernel_rfl, ?_⟩; intro w hSw; go_simp)
  simp only [Act.put, List.setIfInBounds_toArray, List.set_cons_zero, List.set_cons_succ]
  refine wpAnyH_take (i := 19) (oi := { dst := some 71, op := Op.binOp BinOp.neq 41 (Operand.tmp 70) (Operand.const (Value.int IntKind.i64 0)) 41, type := 4, pos := "law.go:102", after := #[{ on := 18, ground := Ground.data }, { on := 17, ground := Ground.guard }], guard := some (17, false) }) (v := .bool true) rfl (by kernel_rfl) (by kernel_rfl) (by kernel_rfl) (fun _ _ _ h => h) ?_ hB1 ?_
  · (refine Or.inl ⟨by kernel_rfl, ?_⟩; intro w hSw; have h0 := hn0; go_simp)
  simp only [Act.put, List.setIfInBounds_toArray, List.set_cons_zero, List.set_cons_succ]
  refine wpAnyH_take (i := 20) (oi := { dst := some 72, op := Op.move (Operand.tmp 71), type := 4, pos := "law.go:102", after := #[{ on := 19, ground := Ground.data }, { on := 17, ground := Ground.chain }, { on := 17, ground := Ground.guard }], guard := some (17, false) }) (v := .bool true) rfl (by kernel_rfl) (by kernel_rfl) (by kernel_rfl) (fun _ _ _ h => h) ?_ hB1 ?_
  · (refine Or.inl ⟨by kernel_rfl, ?_⟩; intro w hSw; go_simp)
  simp only [Act.put, List.setIfInBounds_toArray, List.set_cons_zero, List.set_cons_succ]
  refine wpAnyH_take (i := 21) (oi := { dst := some 73, op := Op.fieldAddr 56 (Operand.tmp 10) 1, type := 0, pos := "law.go:102", after := #[{ on := 20, ground := Ground.guard }], guard := some (20, true) }) (v := .pointer (some ⟨g10, 68, none⟩)) rfl (by kernel_rfl) (by kernel_rfl) (by kernel_rfl) (fun _ _ _ h => h) ?_ hB1 ?_
  · (refine Or.inl ⟨by kernel_rfl, ?_⟩; intro w hSw; go_simp)
  simp only [Act.put, List.setIfInBounds_toArray, List.set_cons_zero, List.set_cons_succ]
  refine wpAnyH_take (i := 22) (oi := { dst := some 74, op := Op.load 47 (Operand.tmp 73), type := 47, pos := "law.go:102", after := #[{ on := 21, ground := Ground.data }, { on := 20, ground := Ground.guard }], guard := some (20, true) }) (v := .slice none 0 0) rfl (by kernel_rfl) (by kernel_rfl) (by kernel_rfl) (fun _ _ _ h => h) ?_ hB1 ?_
  · (refine Or.inl ⟨by kernel_rfl, ?_⟩; intro w hSw; have h1 := HC.out w hSw; go_simp)
  simp only [Act.put, List.setIfInBounds_toArray, List.set_cons_zero, List.set_cons_succ]
  refine wpAnyH_take (i := 23) (oi := { dst := some 75, op := Op.call { callee := Callee.builtin Builtin.len, args := #[Operand.tmp 74], argTypes := #[47] }, type := 3, pos := "law.go:102", after := #[{ on := 22, ground := Ground.data }, { on := 20, ground := Ground.guard }], guard := some (20, true) }) (v := .int .i64 0) rfl (by kernel_rfl) (by kernel_rfl) (by kernel_rfl) (fun _ _ _ h => h) ?_ hB1 ?_
  · (refine Or.inl ⟨by kernel_rfl, ?_⟩; intro w hSw; go_simp)
  simp only [Act.put, List.setIfInBounds_toArray, List.set_cons_zero, List.set_cons_succ]
  refine wpAnyH_take (i := 24) (oi := { dst := some 76, op := Op.binOp BinOp.neq 3 (Operand.tmp 75) (Operand.const (Value.int IntKind.i64 0)) 3, type := 4, pos := "law.go:102", after := #[{ on := 23, ground := Ground.data }, { on := 20, ground := Ground.guard }], guard := some (20, true) }) (v := .bool false) rfl (by kernel_rfl) (by kernel_rfl) (by kernel_rfl) (fun _ _ _ h => h) ?_ hB1 ?_
  · (refine Or.inl ⟨by kernel_rfl, ?_⟩; intro w hSw; go_simp)
  simp only [Act.put, List.setIfInBounds_toArray, List.set_cons_zero, List.set_cons_succ]
  refine wpAnyH_take (i := 25) (oi := { dst := some 77, op := Op.move (Operand.tmp 76), type := 4, pos := "law.go:102", after := #[{ on := 24, ground := Ground.data }, { on := 20, ground := Ground.chain }, { on := 20, ground := Ground.guard }], guard := some (20, true) }) (v := .bool false) rfl (by kernel_rfl) (by kernel_rfl) (by kernel_rfl) (fun _ _ _ h => h) ?_ hB1 ?_
  · (refine Or.inl ⟨by kernel_rfl, ?_⟩; intro w hSw; go_simp)
  simp only [Act.put, List.setIfInBounds_toArray, List.set_cons_zero, List.set_cons_succ]
  refine wpAnyH_take (i := 26) (oi := { dst := some 78, op := Op.fieldAddr 56 (Operand.tmp 10) 0, type := 0, pos := "law.go:102", after := #[{ on := 25, ground := Ground.guard }], guard := some (25, false) }) (v := .pointer (some ⟨g10, 0, none⟩)) rfl (by kernel_rfl) (by kernel_rfl) (by kernel_rfl) (fun _ _ _ h => h) ?_ hB1 ?_
  · (refine Or.inl ⟨by kernel_rfl, ?_⟩; intro w hSw; go_simp)
  simp only [Act.put, List.setIfInBounds_toArray, List.set_cons_zero, List.set_cons_succ]
  refine wpAnyH_take (i := 27) (oi := { dst := some 79, op := Op.load 54 (Operand.tmp 78), type := 54, pos := "law.go:102", after := #[{ on := 26, ground := Ground.data }, { on := 25, ground := Ground.guard }], guard := some (25, false) }) (v := .agg HZ.toArray) rfl (by kernel_rfl) (by kernel_rfl) (by kernel_rfl) (fun _ _ _ h => h) ?_ hB1 ?_
  · (exact yieldsIf_load_mid (by kernel_rfl) 54 (.tmp 78) (by kernel_rfl) g10 0 (by kernel_rfl) HZ _ (fun w h => rr_below hrg h hg) Tryd.underlying54 rfl hps)
  simp only [Act.put, List.setIfInBounds_toArray, List.set_cons_zero, List.set_cons_succ]
  refine wpAnyH_take (i := 28) (oi := { dst := some 80, op := Op.build 54 #[], type := 54, pos := "law.go:102", after := #[{ on := 25, ground := Ground.guard }], guard := some (25, false) }) (v := .agg HZ.toArray) rfl (by kernel_rfl) (by kernel_rfl) (by kernel_rfl) (fun _ _ _ h => h) ?_ hB1 ?_
  · (refine Or.inl ⟨by kernel_rfl, ?_⟩; intro w hSw; rw [HZE.out]; kernel_rfl)
  simp only [Act.put, List.setIfInBounds_toArray, List.set_cons_zero, List.set_cons_succ]
  refine wpAnyH_take (i := 29) (oi := { dst := some 81, op := Op.binOp BinOp.neq 54 (Operand.tmp 79) (Operand.tmp 80) 54, type := 4, pos := "law.go:102", after := #[{ on := 27, ground := Ground.data }, { on := 28, ground := Ground.data }, { on := 25, ground := Ground.guard }], guard := some (25, false) }) (v := .bool false) rfl (by kernel_rfl) (by kernel_rfl) (by kernel_rfl) (fun _ _ _ h => h) ?_ hB1 ?_
  · (refine Or.inl ⟨by kernel_rfl, ?_⟩; intro w hSw; have h1 := hgd; have h2 := hbn; go_simp)
  simp only [Act.put, List.setIfInBounds_toArray, List.set_cons_zero, List.set_cons_succ]
  refine wpAnyH_take (i := 30) (oi := { dst := some 82, op := Op.pick (Operand.tmp 77) (Operand.const (Value.bool true)) (Operand.tmp 81), type := 4, pos := "law.go:102", after := #[{ on := 25, ground := Ground.data }, { on := 29, ground := Ground.data }, { on := 20, ground := Ground.guard }], guard := some (20, true) }) (v := .bool false) rfl (by kernel_rfl) (by kernel_rfl) (by kernel_rfl) (fun _ _ _ h => h) ?_ hB1 ?_
  · (refine Or.inl ⟨by kernel_rfl, ?_⟩; intro w hSw; go_simp)
  simp only [Act.put, List.setIfInBounds_toArray, List.set_cons_zero, List.set_cons_succ]
  refine wpAnyH_take (i := 31) (oi := { dst := some 83, op := Op.pick (Operand.tmp 72) (Operand.tmp 82) (Operand.const (Value.bool false)), type := 4, pos := "law.go:102", after := #[{ on := 20, ground := Ground.data }, { on := 30, ground := Ground.data }, { on := 17, ground := Ground.guard }], guard := some (17, false) }) (v := .bool false) rfl (by kernel_rfl) (by kernel_rfl) (by kernel_rfl) (fun _ _ _ h => h) ?_ hB1 ?_
  · (refine Or.inl ⟨by kernel_rfl, ?_⟩; intro w hSw; go_simp)
  simp only [Act.put, List.setIfInBounds_toArray, List.set_cons_zero, List.set_cons_succ]
  refine wpAnyH_take (i := 32) (oi := { dst := some 84, op := Op.pick (Operand.tmp 69) (Operand.const (Value.bool true)) (Operand.tmp 83), type := 4, pos := "law.go:102", after := #[{ on := 17, ground := Ground.data }, { on := 31, ground := Ground.data }], guard := none }) (v := .bool false) rfl (by kernel_rfl) (by kernel_rfl) (by kernel_rfl) (fun _ _ _ h => h) ?_ hB1 ?_
  · (refine Or.inl ⟨by kernel_rfl, ?_⟩; intro w hSw; go_simp)
  simp only [Act.put, List.setIfInBounds_toArray, List.set_cons_zero, List.set_cons_succ]
  refine wpAnyH_done (by kernel_rfl) ?_ _
  refine NoPanic.normal ?_
  have hEnd := HQ.out (.int .i64 (e0 : Int)) (.slice sy ly cy) (.string u) (.int .i64 (e0 : Int)) (.bool false) (.bool false) (.int .i64 (e0 : Int)) (.bool false) (.bool false) (undef) (undef) (undef) (undef) (undef) (undef) (.bool false) (.bool false) (.bool false) (.int .i64 (e0 : Int)) (.bool true) (.bool true) (.pointer (some ⟨g10, 68, none⟩)) (.slice none 0 0) (.int .i64 0) (.bool false) (.bool false) (.pointer (some ⟨g10, 0, none⟩)) (.agg HZ.toArray) (.agg HZ.toArray) (.bool false) (.bool false) (.bool false) w1 hB1
  exact hEnd
set_option maxHeartbeats 8000000 in
theorem region18Z {t0 t1 t2 t3 t4 t5 t6 t7 t8 t12 t13 t14 t15 t16 t17 t18 t19 t20 t21 t22 t23 t24 t25 t26 t27 t28 t29 t30 t31 t32 t33 t34 t35 t36 t37 t38 t39 t40 t41 t42 t43 t44 t45 t46 t47 t48 t49 t50 t51 t52 t53 t54 t55 t56 t57 t58 t59 t60 t61 t62 t63 t64 t65 t66 t67 t68 t69 t70 t71 t72 t73 t74 t75 t76 t77 t78 t79 t80 t81 t82 t83 t84 t85 : Value} {Q : Exit → Act → World → Prop} (V : World) (g10 ly cy e0 : Nat) (sy : Option Addr) (u : ByteArray)
    (HCV : Hid (∀ w', Below V.heap.size V w' → (convert 33 9 (.slice sy ly cy)).run Tryd.prog w' = .ok (.string u) w'))
    (HRB : Hid (∀ W, Below V.heap.size V W → Calls Tryd.prog 30 #[.string u] W fun e w' => e = .returned (.int .i64 (e0 : Int)) ∧ Below W.heap.size W w')) (hg : g10 < V.heap.size) (he0 : ((e0 : Int) == 0) = true) (hn0 : ((e0 : Int) != 0) = false) (L : List Value) (hrg : V.rangeAt g10 0 L) (hps : (Tryd.prog.info? 56).map (·.size) = some L.length)
    (HBK : Hid (∀ W, Below V.heap.size V W → Calls Tryd.prog 27 #[.agg L.toArray] W fun e w' => ∃ s m c, e = .returned (.slice s m c) ∧ (∀ w2, Below w'.heap.size w' w2 → (convert 33 9 (.slice s m c)).run Tryd.prog w2 = .ok (.string u) w2) ∧ Below W.heap.size W w'))
    (hQ : ∀ (x52 x53 x54 x55 x56 x57 x58 x59 x60 x61 x62 x63 x64 x65 x66 x67 x68 x69 x70 x71 x72 x73 x74 x75 x76 x77 x78 x79 x80 x81 x82 x83 : Value) (w' : World), Below V.heap.size V w' → Q .normal { tmps := List.toArray (t0 :: t1 :: t2 :: t3 :: t4 :: t5 :: t6 :: t7 :: t8 :: .slice sy ly cy :: .pointer (some ⟨g10, 0, none⟩) :: .int .i64 (e0 : Int) :: t12 :: t13 :: t14 :: t15 :: t16 :: t17 :: t18 :: t19 :: t20 :: t21 :: t22 :: t23 :: t24 :: t25 :: t26 :: t27 :: t28 :: t29 :: t30 :: t31 :: t32 :: t33 :: t34 :: t35 :: t36 :: t37 :: t38 :: t39 :: t40 :: t41 :: t42 :: t43 :: t44 :: t45 :: t46 :: t47 :: t48 :: t49 :: t50 :: t51 :: x52 :: x53 :: x54 :: x55 :: x56 :: x57 :: x58 :: x59 :: x60 :: x61 :: x62 :: x63 :: x64 :: x65 :: x66 :: x67 :: x68 :: x69 :: x70 :: x71 :: x72 :: x73 :: x74 :: x75 :: x76 :: x77 :: x78 :: x79 :: x80 :: x81 :: x82 :: x83 :: .bool false :: t85 :: []), defers := [] } w') :
    Code.wp Tryd.prog (Code.region 18 #[{ dst := some 52, op := Op.move (Operand.tmp 11), type := 41, pos := "law.go:102", after := #[], guard := none },
{ dst := some 53, op := Op.move (Operand.tmp 9), type := 33, pos := "law.go:102", after := #[], guard := none },
{ dst := some 54, op := Op.convert 33 9 (Operand.tmp 53), type := 9, pos := "law.go:102", after := #[{ on := 1, ground := Ground.data }], guard := none },
{ dst := some 55, op := Op.call { callee := Callee.value (Operand.func 30), args := #[Operand.tmp 54], argTypes := #[9] }, type := 3, pos := "law.go:102", after := #[{ on := 2, ground := Ground.data }], guard := none },
{ dst := some 56, op := Op.binOp BinOp.neq 3 (Operand.tmp 52) (Operand.tmp 55) 3, type := 4, pos := "law.go:102", after := #[{ on := 0, ground := Ground.data }, { on := 3, ground := Ground.data }], guard := none },
{ dst := some 57, op := Op.move (Operand.tmp 56), type := 4, pos := "law.go:102", after := #[{ on := 4, ground := Ground.data }, { on := 3, ground := Ground.chain }], guard := none },
{ dst := some 58, op := Op.move (Operand.tmp 11), type := 41, pos := "law.go:102", after := #[{ on := 5, ground := Ground.guard }], guard := some (5, false) },
{ dst := some 59, op := Op.binOp BinOp.eql 41 (Operand.tmp 58) (Operand.const (Value.int IntKind.i64 0)) 41, type := 4, pos := "law.go:102", after := #[{ on := 6, ground := Ground.data }, { on := 5, ground := Ground.guard }], guard := some (5, false) },
{ dst := some 60, op := Op.move (Operand.tmp 59), type := 4, pos := "law.go:102", after := #[{ on := 7, ground := Ground.data }, { on := 5, ground := Ground.chain }, { on := 5, ground := Ground.guard }], guard := some (5, false) },
{ dst := some 61, op := Op.load 56 (Operand.tmp 10), type := 56, pos := "law.go:102", after := #[{ on := 8, ground := Ground.guard }], guard := some (8, true) },
{ dst := some 62, op := Op.call { callee := Callee.value (Operand.func 27), args := #[Operand.tmp 61], argTypes := #[56] }, type := 33, pos := "law.go:102", after := #[{ on := 9, ground := Ground.data }, { on := 8, ground := Ground.chain }, { on := 8, ground := Ground.guard }], guard := some (8, true) },
{ dst := some 63, op := Op.convert 33 9 (Operand.tmp 62), type := 9, pos := "law.go:102", after := #[{ on := 10, ground := Ground.data }, { on := 8, ground := Ground.guard }], guard := some (8, true) },
{ dst := some 64, op := Op.move (Operand.tmp 9), type := 33, pos := "law.go:102", after := #[{ on := 8, ground := Ground.guard }], guard := some (8, true) },
{ dst := some 65, op := Op.convert 33 9 (Operand.tmp 64), type := 9, pos := "law.go:102", after := #[{ on := 12, ground := Ground.data }, { on := 8, ground := Ground.guard }], guard := some (8, true) },
{ dst := some 66, op := Op.binOp BinOp.neq 9 (Operand.tmp 63) (Operand.tmp 65) 9, type := 4, pos := "law.go:102", after := #[{ on := 11, ground := Ground.data }, { on := 13, ground := Ground.data }, { on := 8, ground := Ground.guard }], guard := some (8, true) },
{ dst := some 67, op := Op.pick (Operand.tmp 60) (Operand.tmp 66) (Operand.const (Value.bool false)), type := 4, pos := "law.go:102", after := #[{ on := 8, ground := Ground.data }, { on := 14, ground := Ground.data }, { on := 5, ground := Ground.guard }], guard := some (5, false) },
{ dst := some 68, op := Op.pick (Operand.tmp 57) (Operand.const (Value.bool true)) (Operand.tmp 67), type := 4, pos := "law.go:102", after := #[{ on := 5, ground := Ground.data }, { on := 15, ground := Ground.data }], guard := none },
{ dst := some 69, op := Op.move (Operand.tmp 68), type := 4, pos := "law.go:102", after := #[{ on := 16, ground := Ground.data }, { on := 10, ground := Ground.chain }], guard := none },
{ dst := some 70, op := Op.move (Operand.tmp 11), type := 41, pos := "law.go:102", after := #[{ on := 17, ground := Ground.guard }], guard := some (17, false) },
{ dst := some 71, op := Op.binOp BinOp.neq 41 (Operand.tmp 70) (Operand.const (Value.int IntKind.i64 0)) 41, type := 4, pos := "law.go:102", after := #[{ on := 18, ground := Ground.data }, { on := 17, ground := Ground.guard }], guard := some (17, false) },
{ dst := some 72, op := Op.move (Operand.tmp 71), type := 4, pos := "law.go:102", after := #[{ on := 19, ground := Ground.data }, { on := 17, ground := Ground.chain }, { on := 17, ground := Ground.guard }], guard := some (17, false) },
{ dst := some 73, op := Op.fieldAddr 56 (Operand.tmp 10) 1, type := 0, pos := "law.go:102", after := #[{ on := 20, ground := Ground.guard }], guard := some (20, true) },
{ dst := some 74, op := Op.load 47 (Operand.tmp 73), type := 47, pos := "law.go:102", after := #[{ on := 21, ground := Ground.data }, { on := 20, ground := Ground.guard }], guard := some (20, true) },
{ dst := some 75, op := Op.call { callee := Callee.builtin Builtin.len, args := #[Operand.tmp 74], argTypes := #[47] }, type := 3, pos := "law.go:102", after := #[{ on := 22, ground := Ground.data }, { on := 20, ground := Ground.guard }], guard := some (20, true) },
{ dst := some 76, op := Op.binOp BinOp.neq 3 (Operand.tmp 75) (Operand.const (Value.int IntKind.i64 0)) 3, type := 4, pos := "law.go:102", after := #[{ on := 23, ground := Ground.data }, { on := 20, ground := Ground.guard }], guard := some (20, true) },
{ dst := some 77, op := Op.move (Operand.tmp 76), type := 4, pos := "law.go:102", after := #[{ on := 24, ground := Ground.data }, { on := 20, ground := Ground.chain }, { on := 20, ground := Ground.guard }], guard := some (20, true) },
{ dst := some 78, op := Op.fieldAddr 56 (Operand.tmp 10) 0, type := 0, pos := "law.go:102", after := #[{ on := 25, ground := Ground.guard }], guard := some (25, false) },
{ dst := some 79, op := Op.load 54 (Operand.tmp 78), type := 54, pos := "law.go:102", after := #[{ on := 26, ground := Ground.data }, { on := 25, ground := Ground.guard }], guard := some (25, false) },
{ dst := some 80, op := Op.build 54 #[], type := 54, pos := "law.go:102", after := #[{ on := 25, ground := Ground.guard }], guard := some (25, false) },
{ dst := some 81, op := Op.binOp BinOp.neq 54 (Operand.tmp 79) (Operand.tmp 80) 54, type := 4, pos := "law.go:102", after := #[{ on := 27, ground := Ground.data }, { on := 28, ground := Ground.data }, { on := 25, ground := Ground.guard }], guard := some (25, false) },
{ dst := some 82, op := Op.pick (Operand.tmp 77) (Operand.const (Value.bool true)) (Operand.tmp 81), type := 4, pos := "law.go:102", after := #[{ on := 25, ground := Ground.data }, { on := 29, ground := Ground.data }, { on := 20, ground := Ground.guard }], guard := some (20, true) },
{ dst := some 83, op := Op.pick (Operand.tmp 72) (Operand.tmp 82) (Operand.const (Value.bool false)), type := 4, pos := "law.go:102", after := #[{ on := 20, ground := Ground.data }, { on := 30, ground := Ground.data }, { on := 17, ground := Ground.guard }], guard := some (17, false) },
{ dst := some 84, op := Op.pick (Operand.tmp 69) (Operand.const (Value.bool true)) (Operand.tmp 83), type := 4, pos := "law.go:102", after := #[{ on := 17, ground := Ground.data }, { on := 31, ground := Ground.data }], guard := none }] true) Q { tmps := List.toArray (t0 :: t1 :: t2 :: t3 :: t4 :: t5 :: t6 :: t7 :: t8 :: .slice sy ly cy :: .pointer (some ⟨g10, 0, none⟩) :: .int .i64 (e0 : Int) :: t12 :: t13 :: t14 :: t15 :: t16 :: t17 :: t18 :: t19 :: t20 :: t21 :: t22 :: t23 :: t24 :: t25 :: t26 :: t27 :: t28 :: t29 :: t30 :: t31 :: t32 :: t33 :: t34 :: t35 :: t36 :: t37 :: t38 :: t39 :: t40 :: t41 :: t42 :: t43 :: t44 :: t45 :: t46 :: t47 :: t48 :: t49 :: t50 :: t51 :: t52 :: t53 :: t54 :: t55 :: t56 :: t57 :: t58 :: t59 :: t60 :: t61 :: t62 :: t63 :: t64 :: t65 :: t66 :: t67 :: t68 :: t69 :: t70 :: t71 :: t72 :: t73 :: t74 :: t75 :: t76 :: t77 :: t78 :: t79 :: t80 :: t81 :: t82 :: t83 :: t84 :: t85 :: []), defers := [] } V := by
  have HQ := Lib.hid hQ
  clear hQ
  refine wp_region_noPanic ?_
  refine wp_region_held_drew (S := fun w' => Below V.heap.size V w') (by kernel_rfl) ((Below.refl _ _).drew) (fun hHeld => ?_)
  have hB : Below V.heap.size V V.drew := (Below.refl _ _).drew
  show wpAnyH _ _ _ _ _ 33 _ _ _
  refine wpAnyH_take (i := 0) (oi := { dst := some 52, op := Op.move (Operand.tmp 11), type := 41, pos := "law.go:102", after := #[], guard := none }) (v := .int .i64 (e0 : Int)) rfl (by kernel_rfl) (by kernel_rfl) (by kernel_rfl) (fun _ _ _ h => h) ?_ hB ?_
  · (refine Or.inl ⟨by kernel_rfl, ?_⟩; intro w hSw; go_simp)
  simp only [Act.put, List.setIfInBounds_toArray, List.set_cons_zero, List.set_cons_succ]
  refine wpAnyH_take (i := 1) (oi := { dst := some 53, op := Op.move (Operand.tmp 9), type := 33, pos := "law.go:102", after := #[], guard := none }) (v := .slice sy ly cy) rfl (by kernel_rfl) (by kernel_rfl) (by kernel_rfl) (fun _ _ _ h => h) ?_ hB ?_
  · (refine Or.inl ⟨by kernel_rfl, ?_⟩; intro w hSw; go_simp)
  simp only [Act.put, List.setIfInBounds_toArray, List.set_cons_zero, List.set_cons_succ]
  refine wpAnyH_take (i := 2) (oi := { dst := some 54, op := Op.convert 33 9 (Operand.tmp 53), type := 9, pos := "law.go:102", after := #[{ on := 1, ground := Ground.data }], guard := none }) (v := .string u) rfl (by kernel_rfl) (by kernel_rfl) (by kernel_rfl) (fun _ _ _ h => h) ?_ hB ?_
  · (refine Or.inl ⟨by kernel_rfl, ?_⟩; intro w hSw; have h1 := HCV.out w hSw; go_simp)
  simp only [Act.put, List.setIfInBounds_toArray, List.set_cons_zero, List.set_cons_succ]
  refine wpAnyH_ready (rs := [3]) (by kernel_rfl) (by simp) ?_
  refine AllReadyH.cons rfl (fun K hK => ?_) AllReadyH.nil
  refine merkleRoots.step_callS (by kernel_rfl) _ _ (.int .i64 (e0 : Int)) (HRB.out _ hB) (by kernel_rfl) (fun w1 hb1 => ?_)
  simp only [Act.put, List.setIfInBounds_toArray, List.set_cons_zero, List.set_cons_succ]
  have hB1 : Below V.heap.size V w1 := below_step hB (Nat.le_refl _) hb1
  refine hK.out _ _ hB1 (fun _ => ?_)
  show wpAnyH _ _ _ _ _ 29 #[true, true, true, true, false, false, false, false, false, false, false, false, false, false, false, false, false, false, false, false, false, false, false, false, false, false, false, false, false, false, false, false, false] { tmps := List.toArray (t0 :: t1 :: t2 :: t3 :: t4 :: t5 :: t6 :: t7 :: t8 :: .slice sy ly cy :: .pointer (some ⟨g10, 0, none⟩) :: .int .i64 (e0 : Int) :: t12 :: t13 :: t14 :: t15 :: t16 :: t17 :: t18 :: t19 :: t20 :: t21 :: t22 :: t23 :: t24 :: t25 :: t26 :: t27 :: t28 :: t29 :: t30 :: t31 :: t32 :: t33 :: t34 :: t35 :: t36 :: t37 :: t38 :: t39 :: t40 :: t41 :: t42 :: t43 :: t44 :: t45 :: t46 :: t47 :: t48 :: t49 :: t50 :: t51 :: .int .i64 (e0 : Int) :: .slice sy ly cy :: .string u :: .int .i64 (e0 : Int) :: t56 :: t57 :: t58 :: t59 :: t60 :: t61 :: t62 :: t63 :: t64 :: t65 :: t66 :: t67 :: t68 :: t69 :: t70 :: t71 :: t72 :: t73 :: t74 :: t75 :: t76 :: t77 :: t78 :: t79 :: t80 :: t81 :: t82 :: t83 :: t84 :: t85 :: []), defers := [] } w1
  refine wpAnyH_take (i := 4) (oi := { dst := some 56, op := Op.binOp BinOp.neq 3 (Operand.tmp 52) (Operand.tmp 55) 3, type := 4, pos := "law.go:102", after := #[{ on := 0, ground := Ground.data }, { on := 3, ground := Ground.data }], guard := none }) (v := .bool false) rfl (by kernel_rfl) (by kernel_rfl) (by kernel_rfl) (fun _ _ _ h => h) ?_ hB1 ?_
  · (refine Or.inl ⟨by kernel_rfl, ?_⟩; intro w hSw; go_simp)
  simp only [Act.put, List.setIfInBounds_toArray, List.set_cons_zero, List.set_cons_succ]
  refine wpAnyH_take (i := 5) (oi := { dst := some 57, op := Op.move (Operand.tmp 56), type := 4, pos := "law.go:102", after := #[{ on := 4, ground := Ground.data }, { on := 3, ground := Ground.chain }], guard := none }) (v := .bool false) rfl (by kernel_rfl) (by kernel_rfl) (by kernel_rfl) (fun _ _ _ h => h) ?_ hB1 ?_
  · (refine Or.inl ⟨by kernel_rfl, ?_⟩; intro w hSw; go_simp)
  simp only [Act.put, List.setIfInBounds_toArray, List.set_cons_zero, List.set_cons_succ]
  refine wpAnyH_take (i := 6) (oi := { dst := some 58, op := Op.move (Operand.tmp 11), type := 41, pos := "law.go:102", after := #[{ on := 5, ground := Ground.guard }], guard := some (5, false) }) (v := .int .i64 (e0 : Int)) rfl (by kernel_rfl) (by kernel_rfl) (by kernel_rfl) (fun _ _ _ h => h) ?_ hB1 ?_
  · (refine Or.inl ⟨by kernel_rfl, ?_⟩; intro w hSw; go_simp)
  simp only [Act.put, List.setIfInBounds_toArray, List.set_cons_zero, List.set_cons_succ]
  refine wpAnyH_take (i := 7) (oi := { dst := some 59, op := Op.binOp BinOp.eql 41 (Operand.tmp 58) (Operand.const (Value.int IntKind.i64 0)) 41, type := 4, pos := "law.go:102", after := #[{ on := 6, ground := Ground.data }, { on := 5, ground := Ground.guard }], guard := some (5, false) }) (v := .bool true) rfl (by kernel_rfl) (by kernel_rfl) (by kernel_rfl) (fun _ _ _ h => h) ?_ hB1 ?_
  · (refine Or.inl ⟨by kernel_rfl, ?_⟩; intro w hSw; have h0 := he0; go_simp)
  simp only [Act.put, List.setIfInBounds_toArray, List.set_cons_zero, List.set_cons_succ]
  refine wpAnyH_take (i := 8) (oi := { dst := some 60, op := Op.move (Operand.tmp 59), type := 4, pos := "law.go:102", after := #[{ on := 7, ground := Ground.data }, { on := 5, ground := Ground.chain }, { on := 5, ground := Ground.guard }], guard := some (5, false) }) (v := .bool true) rfl (by kernel_rfl) (by kernel_rfl) (by kernel_rfl) (fun _ _ _ h => h) ?_ hB1 ?_
  · (refine Or.inl ⟨by kernel_rfl, ?_⟩; intro w hSw; go_simp)
  simp only [Act.put, List.setIfInBounds_toArray, List.set_cons_zero, List.set_cons_succ]
  refine wpAnyH_take (i := 9) (oi := { dst := some 61, op := Op.load 56 (Operand.tmp 10), type := 56, pos := "law.go:102", after := #[{ on := 8, ground := Ground.guard }], guard := some (8, true) }) (v := .agg L.toArray) rfl (by kernel_rfl) (by kernel_rfl) (by kernel_rfl) (fun _ _ _ h => h) ?_ hB1 ?_
  · (exact yieldsIf_load_mid (by kernel_rfl) 56 (.tmp 10) (by kernel_rfl) g10 0 (by kernel_rfl) L _ (fun w h => rr_below hrg h hg) Tryd.underlying56 rfl hps)
  simp only [Act.put, List.setIfInBounds_toArray, List.set_cons_zero, List.set_cons_succ]
  refine wpAnyH_take (i := 12) (oi := { dst := some 64, op := Op.move (Operand.tmp 9), type := 33, pos := "law.go:102", after := #[{ on := 8, ground := Ground.guard }], guard := some (8, true) }) (v := .slice sy ly cy) rfl (by kernel_rfl) (by kernel_rfl) (by kernel_rfl) (fun _ _ _ h => h) ?_ hB1 ?_
  · (refine Or.inl ⟨by kernel_rfl, ?_⟩; intro w hSw; go_simp)
  simp only [Act.put, List.setIfInBounds_toArray, List.set_cons_zero, List.set_cons_succ]
  refine wpAnyH_take (i := 13) (oi := { dst := some 65, op := Op.convert 33 9 (Operand.tmp 64), type := 9, pos := "law.go:102", after := #[{ on := 12, ground := Ground.data }, { on := 8, ground := Ground.guard }], guard := some (8, true) }) (v := .string u) rfl (by kernel_rfl) (by kernel_rfl) (by kernel_rfl) (fun _ _ _ h => h) ?_ hB1 ?_
  · (refine Or.inl ⟨by kernel_rfl, ?_⟩; intro w hSw; have h1 := HCV.out w hSw; go_simp)
  simp only [Act.put, List.setIfInBounds_toArray, List.set_cons_zero, List.set_cons_succ]
  refine wpAnyH_ready (rs := [10]) (by kernel_rfl) (by simp) ?_
  refine AllReadyH.cons rfl (fun K2 hK2 => ?_) AllReadyH.nil
  refine step_callE (by rfl) _ _ (HBK.out _ hB1) (by kernel_rfl) (fun w2 s7 m7 c7 hc7 hb2 => ?_)
  simp only [Act.put, List.setIfInBounds_toArray, List.set_cons_zero, List.set_cons_succ]
  have hB2 : Below V.heap.size V w2 := below_step hB1 hB1.size hb2
  refine hK2.out _ _ hB2 (fun _ => ?_)
  show wpAnyH _ _ _ _ _ 20 #[true, true, true, true, true, true, true, true, true, true, true, false, true, true, false, false, false, false, false, false, false, false, false, false, false, false, false, false, false, false, false, false, false] { tmps := List.toArray (t0 :: t1 :: t2 :: t3 :: t4 :: t5 :: t6 :: t7 :: t8 :: .slice sy ly cy :: .pointer (some ⟨g10, 0, none⟩) :: .int .i64 (e0 : Int) :: t12 :: t13 :: t14 :: t15 :: t16 :: t17 :: t18 :: t19 :: t20 :: t21 :: t22 :: t23 :: t24 :: t25 :: t26 :: t27 :: t28 :: t29 :: t30 :: t31 :: t32 :: t33 :: t34 :: t35 :: t36 :: t37 :: t38 :: t39 :: t40 :: t41 :: t42 :: t43 :: t44 :: t45 :: t46 :: t47 :: t48 :: t49 :: t50 :: t51 :: .int .i64 (e0 : Int) :: .slice sy ly cy :: .string u :: .int .i64 (e0 : Int) :: .bool false :: .bool false :: .int .i64 (e0 : Int) :: .bool true :: .bool true :: .agg L.toArray :: .slice s7 m7 c7 :: t63 :: .slice sy ly cy :: .string u :: t66 :: t67 :: t68 :: t69 :: t70 :: t71 :: t72 :: t73 :: t74 :: t75 :: t76 :: t77 :: t78 :: t79 :: t80 :: t81 :: t82 :: t83 :: t84 :: t85 :: []), defers := [] } w2
  refine wpAnyH_ready (rs := [11]) (by kernel_rfl) (by simp) ?_
  refine AllReadyH.cons rfl (fun K3 hK3 => ?_) AllReadyH.nil
  have h11 := hc7 w2 (Below.refl _ _)
  refine step_run (by kernel_rfl) (.string u) w2 (by simp [execOp, Act.eval, h11, Result.andThen]) ?_
  simp only [Act.put, List.setIfInBounds_toArray, List.set_cons_zero, List.set_cons_succ]
  refine hK3.out _ _ hB2 (fun _ => ?_)
  show wpAnyH _ _ _ _ _ 19 #[true, true, true, true, true, true, true, true, true, true, true, true, true, true, false, false, false, false, false, false, false, false, false, false, false, false, false, false, false, false, false, false, false] { tmps := List.toArray (t0 :: t1 :: t2 :: t3 :: t4 :: t5 :: t6 :: t7 :: t8 :: .slice sy ly cy :: .pointer (some ⟨g10, 0, none⟩) :: .int .i64 (e0 : Int) :: t12 :: t13 :: t14 :: t15 :: t16 :: t17 :: t18 :: t19 :: t20 :: t21 :: t22 :: t23 :: t24 :: t25 :: t26 :: t27 :: t28 :: t29 :: t30 :: t31 :: t32 :: t33 :: t34 :: t35 :: t36 :: t37 :: t38 :: t39 :: t40 :: t41 :: t42 :: t43 :: t44 :: t45 :: t46 :: t47 :: t48 :: t49 :: t50 :: t51 :: .int .i64 (e0 : Int) :: .slice sy ly cy :: .string u :: .int .i64 (e0 : Int) :: .bool false :: .bool false :: .int .i64 (e0 : Int) :: .bool true :: .bool true :: .agg L.toArray :: .slice s7 m7 c7 :: .string u :: .slice sy ly cy :: .string u :: t66 :: t67 :: t68 :: t69 :: t70 :: t71 :: t72 :: t73 :: t74 :: t75 :: t76 :: t77 :: t78 :: t79 :: t80 :: t81 :: t82 :: t83 :: t84 :: t85 :: []), defers := [] } w2
  refine wpAnyH_take (i := 14) (oi := { dst := some 66, op := Op.binOp BinOp.neq 9 (Operand.tmp 63) (Operand.tmp 65) 9, type := 4, pos := "law.go:102", after := #[{ on := 11, ground := Ground.data }, { on := 13, ground := Ground.data }, { on := 8, ground := Ground.guard }], guard := some (8, true) }) (v := .bool false) rfl (by kernel_rfl) (by kernel_rfl) (by kernel_rfl) (fun _ _ _ h => h) ?_ hB2 ?_
  · (refine Or.inl ⟨by kernel_rfl, ?_⟩; intro w hSw; have h1 : (u.toList == u.toList) = true := (by simp); go_simp)
  simp only [Act.put, List.setIfInBounds_toArray, List.set_cons_zero, List.set_cons_succ]
  refine wpAnyH_take (i := 15) (oi := { dst := some 67, op := Op.pick (Operand.tmp 60) (Operand.tmp 66) (Operand.const (Value.bool false)), type := 4, pos := "law.go:102", after := #[{ on := 8, ground := Ground.data }, { on := 14, ground := Ground.data }, { on := 5, ground := Ground.guard }], guard := some (5, false) }) (v := .bool false) rfl (by kernel_rfl) (by kernel_rfl) (by kernel_rfl) (fun _ _ _ h => h) ?_ hB2 ?_
  · (refine Or.inl ⟨by kernel_rfl, ?_⟩; intro w hSw; go_simp)
  simp only [Act.put, List.setIfInBounds_toArray, List.set_cons_zero, List.set_cons_succ]
  refine wpAnyH_take (i := 16) (oi := { dst := some 68, op := Op.pick (Operand.tmp 57) (Operand.const (Value.bool true)) (Operand.tmp 67), type := 4, pos := "law.go:102", after := #[{ on := 5, ground := Ground.data }, { on := 15, ground := Ground.data }], guard := none }) (v := .bool false) rfl (by kernel_rfl) (by kernel_rfl) (by kernel_rfl) (fun _ _ _ h => h) ?_ hB2 ?_
  · (refine Or.inl ⟨by kernel_rfl, ?_⟩; intro w hSw; go_simp)
  simp only [Act.put, List.setIfInBounds_toArray, List.set_cons_zero, List.set_cons_succ]
  refine wpAnyH_take (i := 17) (oi := { dst := some 69, op := Op.move (Operand.tmp 68), type := 4, pos := "law.go:102", after := #[{ on := 16, ground := Ground.data }, { on := 10, ground := Ground.chain }], guard := none }) (v := .bool false) rfl (by kernel_rfl) (by kernel_rfl) (by kernel_rfl) (fun _ _ _ h => h) ?_ hB2 ?_
  · (refine Or.inl ⟨by kernel_rfl, ?_⟩; intro w hSw; go_simp)
  simp only [Act.put, List.setIfInBounds_toArray, List.set_cons_zero, List.set_cons_succ]
  refine wpAnyH_take (i := 18) (oi := { dst := some 70, op := Op.move (Operand.tmp 11), type := 41, pos := "law.go:102", after := #[{ on := 17, ground := Ground.guard }], guard := some (17, false) }) (v := .int .i64 (e0 : Int)) rfl (by kernel_rfl) (by kernel_rfl) (by kernel_rfl) (fun _ _ _ h => h) ?_ hB2 ?_
  · (refine Or.inl ⟨by kernel_rfl, ?_⟩; intro w hSw; go_simp)
  simp only [Act.put, List.setIfInBounds_toArray, List.set_cons_zero, List.set_cons_succ]
  refine wpAnyH_take (i := 19) (oi := { dst := some 71, op := Op.binOp BinOp.neq 41 (Operand.tmp 70) (Operand.const (Value.int IntKind.i64 0)) 41, type := 4, pos := "law.go:102", after := #[{ on := 18, ground := Ground.data }, { on := 17, ground := Ground.guard }], guard := some (17, false) }) (v := .bool false) rfl (by kernel_rfl) (by kernel_rfl) (by kernel_rfl) (fun _ _ _ h => h) ?_ hB2 ?_
  · (refine Or.inl ⟨by kernel_rfl, ?_⟩; intro w hSw; have h0 := hn0; go_simp)
  simp only [Act.put, List.setIfInBounds_toArray, List.set_cons_zero, List.set_cons_succ]
  refine wpAnyH_take (i := 20) (oi := { dst := some 72, op := Op.move (Operand.tmp 71), type := 4, pos := "law.go:102", after := #[{ on := 19, ground := Ground.data }, { on := 17, ground := Ground.chain }, { on := 17, ground := Ground.guard }], guard := some (17, false) }) (v := .bool false) rfl (by kernel_rfl) (by kernel_rfl) (by kernel_rfl) (fun _ _ _ h => h) ?_ hB2 ?_
  · (refine Or.inl ⟨by kernel_rfl, ?_⟩; intro w hSw; go_simp)
  simp only [Act.put, List.setIfInBounds_toArray, List.set_cons_zero, List.set_cons_succ]
  refine wpAnyH_take (i := 21) (oi := { dst := some 73, op := Op.fieldAddr 56 (Operand.tmp 10) 1, type := 0, pos := "law.go:102", after := #[{ on := 20, ground := Ground.guard }], guard := some (20, true) }) (v := undef) rfl (by kernel_rfl) (by kernel_rfl) (by kernel_rfl) (fun _ _ _ h => h) ?_ hB2 ?_
  · (exact Or.inr ⟨by kernel_rfl, rfl⟩)
  simp only [Act.put, List.setIfInBounds_toArray, List.set_cons_zero, List.set_cons_succ]
  refine wpAnyH_take (i := 22) (oi := { dst := some 74, op := Op.load 47 (Operand.tmp 73), type := 47, pos := "law.go:102", after := #[{ on := 21, ground := Ground.data }, { on := 20, ground := Ground.guard }], guard := some (20, true) }) (v := undef) rfl (by kernel_rfl) (by kernel_rfl) (by kernel_rfl) (fun _ _ _ h => h) ?_ hB2 ?_
  · (exact Or.inr ⟨by kernel_rfl, rfl⟩)
  simp only [Act.put, List.setIfInBounds_toArray, List.set_cons_zero, List.set_cons_succ]
  refine wpAnyH_take (i := 23) (oi := { dst := some 75, op := Op.call { callee := Callee.builtin Builtin.len, args := #[Operand.tmp 74], argTypes := #[47] }, type := 3, pos := "law.go:102", after := #[{ on := 22, ground := Ground.data }, { on := 20, ground := Ground.guard }], guard := some (20, true) }) (v := undef) rfl (by kernel_rfl) (by kernel_rfl) (by kernel_rfl) (fun _ _ _ h => h) ?_ hB2 ?_
  · (exact Or.inr ⟨by kernel_rfl, rfl⟩)
  simp only [Act.put, List.setIfInBounds_toArray, List.set_cons_zero, List.set_cons_succ]
  refine wpAnyH_take (i := 24) (oi := { dst := some 76, op := Op.binOp BinOp.neq 3 (Operand.tmp 75) (Operand.const (Value.int IntKind.i64 0)) 3, type := 4, pos := "law.go:102", after := #[{ on := 23, ground := Ground.data }, { on := 20, ground := Ground.guard }], guard := some (20, true) }) (v := undef) rfl (by kernel_rfl) (by kernel_rfl) (by kernel_rfl) (fun _ _ _ h => h) ?_ hB2 ?_
  · (exact Or.inr ⟨by kernel_rfl, rfl⟩)
  simp only [Act.put, List.setIfInBounds_toArray, List.set_cons_zero, List.set_cons_succ]
  refine wpAnyH_take (i := 25) (oi := { dst := some 77, op := Op.move (Operand.tmp 76), type := 4, pos := "law.go:102", after := #[{ on := 24, ground := Ground.data }, { on := 20, ground := Ground.chain }, { on := 20, ground := Ground.guard }], guard := some (20, true) }) (v := undef) rfl (by kernel_rfl) (by kernel_rfl) (by kernel_rfl) (fun _ _ _ h => h) ?_ hB2 ?_
  · (exact Or.inr ⟨by kernel_rfl, rfl⟩)
  simp only [Act.put, List.setIfInBounds_toArray, List.set_cons_zero, List.set_cons_succ]
  refine wpAnyH_take (i := 26) (oi := { dst := some 78, op := Op.fieldAddr 56 (Operand.tmp 10) 0, type := 0, pos := "law.go:102", after := #[{ on := 25, ground := Ground.guard }], guard := some (25, false) }) (v := undef) rfl (by kernel_rfl) (by kernel_rfl) (by kernel_rfl) (fun _ _ _ h => h) ?_ hB2 ?_
  · (exact Or.inr ⟨by kernel_rfl, rfl⟩)
  simp only [Act.put, List.setIfInBounds_toArray, List.set_cons_zero, List.set_cons_succ]
  refine wpAnyH_take (i := 27) (oi := { dst := some 79, op := Op.load 54 (Operand.tmp 78), type := 54, pos := "law.go:102", after := #[{ on := 26, ground := Ground.data }, { on := 25, ground := Ground.guard }], guard := some (25, false) }) (v := undef) rfl (by kernel_rfl) (by kernel_rfl) (by kernel_rfl) (fun _ _ _ h => h) ?_ hB2 ?_
  · (exact Or.inr ⟨by kernel_rfl, rfl⟩)
  simp only [Act.put, List.setIfInBounds_toArray, List.set_cons_zero, List.set_cons_succ]
  refine wpAnyH_take (i := 28) (oi := { dst := some 80, op := Op.build 54 #[], type := 54, pos := "law.go:102", after := #[{ on := 25, ground := Ground.guard }], guard := some (25, false) }) (v := undef) rfl (by kernel_rfl) (by kernel_rfl) (by kernel_rfl) (fun _ _ _ h => h) ?_ hB2 ?_
  · (exact Or.inr ⟨by kernel_rfl, rfl⟩)
  simp only [Act.put, List.setIfInBounds_toArray, List.set_cons_zero, List.set_cons_succ]
  refine wpAnyH_take (i := 29) (oi := { dst := some 81, op := Op.binOp BinOp.neq 54 (Operand.tmp 79) (Operand.tmp 80) 54, type := 4, pos := "law.go:102", after := #[{ on := 27, ground := Ground.data }, { on := 28, ground := Ground.data }, { on := 25, ground := Ground.guard }], guard := some (25, false) }) (v := undef) rfl (by kernel_rfl) (by kernel_rfl) (by kernel_rfl) (fun _ _ _ h => h) ?_ hB2 ?_
  · (exact Or.inr ⟨by kernel_rfl, rfl⟩)
  simp only [Act.put, List.setIfInBounds_toArray, List.set_cons_zero, List.set_cons_succ]
  refine wpAnyH_take (i := 30) (oi := { dst := some 82, op := Op.pick (Operand.tmp 77) (Operand.const (Value.bool true)) (Operand.tmp 81), type := 4, pos := "law.go:102", after := #[{ on := 25, ground := Ground.data }, { on := 29, ground := Ground.data }, { on := 20, ground := Ground.guard }], guard := some (20, true) }) (v := undef) rfl (by kernel_rfl) (by kernel_rfl) (by kernel_rfl) (fun _ _ _ h => h) ?_ hB2 ?_
  · (exact Or.inr ⟨by kernel_rfl, rfl⟩)
  simp only [Act.put, List.setIfInBounds_toArray, List.set_cons_zero, List.set_cons_succ]
  refine wpAnyH_take (i := 31) (oi := { dst := some 83, op := Op.pick (Operand.tmp 72) (Operand.tmp 82) (Operand.const (Value.bool false)), type := 4, pos := "law.go:102", after := #[{ on := 20, ground := Ground.data }, { on := 30, ground := Ground.data }, { on := 17, ground := Ground.guard }], guard := some (17, false) }) (v := .bool false) rfl (by kernel_rfl) (by kernel_rfl) (by kernel_rfl) (fun _ _ _ h => h) ?_ hB2 ?_
  · (refine Or.inl ⟨by kernel_rfl, ?_⟩; intro w hSw; go_simp)
  simp only [Act.put, List.setIfInBounds_toArray, List.set_cons_zero, List.set_cons_succ]
  refine wpAnyH_take (i := 32) (oi := { dst := some 84, op := Op.pick (Operand.tmp 69) (Operand.const (Value.bool true)) (Operand.tmp 83), type := 4, pos := "law.go:102", after := #[{ on := 17, ground := Ground.data }, { on := 31, ground := Ground.data }], guard := none }) (v := .bool false) rfl (by kernel_rfl) (by kernel_rfl) (by kernel_rfl) (fun _ _ _ h => h) ?_ hB2 ?_
  · (refine Or.inl ⟨by kernel_rfl, ?_⟩; intro w hSw; go_simp)
  simp only [Act.put, List.setIfInBounds_toArray, List.set_cons_zero, List.set_cons_succ]
  refine wpAnyH_done (by kernel_rfl) ?_ _
  refine NoPanic.normal ?_
  have hEnd := HQ.out (.int .i64 (e0 : Int)) (.slice sy ly cy) (.string u) (.int .i64 (e0 : Int)) (.bool false) (.bool false) (.int .i64 (e0 : Int)) (.bool true) (.bool true) (.agg L.toArray) (.slice s7 m7 c7) (.string u) (.slice sy ly cy) (.string u) (.bool false) (.bool false) (.bool false) (.bool false) (.int .i64 (e0 : Int)) (.bool false) (.bool false) (undef) (undef) (undef) (undef) (undef) (undef) (undef) (undef) (undef) (undef) (.bool false) w2 hB2
  exact hEnd
end Go.Proofs.YtokiinpegclffaaDoor.txBlocks
