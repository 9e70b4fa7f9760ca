/-
  A region of the law MerkleOther: the two names go on.
-/
import Derived.Test.YtecmgojecjenmaaDoorMotB
import Derived.Deep.RegionHeld
namespace Go.Proofs.YtecmgojecjenmaaDoor.merkleOther
open Go.ChangeShapes Go.WideShapes Go.ChangeAt Go.RowKit
set_option linter.unusedVariables false
set_option linter.unusedSimpArgs false

def ops18 : Array Oper := #[{ dst := some 93, op := Op.load 27 (Operand.tmp 15), type := 27, pos := "law.go:161", after := #[], guard := none },
{ dst := some 94, op := Op.load 27 (Operand.tmp 16), type := 27, pos := "law.go:161", after := #[{ on := 2, ground := Ground.gcOnly Departure.lateStores }], guard := none },
{ dst := none, op := Op.store 27 (Operand.tmp 11) (Operand.tmp 93), type := 0, pos := "law.go:161", after := #[{ on := 0, ground := Ground.data }, { on := 0, ground := Ground.phase }, { on := 1, ground := Ground.textOnly Departure.lateStores }], guard := none },
{ dst := none, op := Op.store 27 (Operand.tmp 12) (Operand.tmp 94), type := 0, pos := "law.go:161", after := #[{ on := 1, ground := Ground.data }, { on := 2, ground := Ground.chain }, { on := 0, ground := Ground.phase }, { on := 1, ground := Ground.phase }, { on := 2, ground := Ground.phase }], guard := none }]
set_option maxRecDepth 100000 in
set_option maxHeartbeats 4000000 in
theorem region18 (gA gB gC gD N0 : Nat) (V : World) (a b c d : List Nat) (t0 t1 t2 t3 t4 t5 t6 t7 t8 t9 t10 t13 t14 t17 t18 t19 t20 t21 t22 t23 t24 t25 t26 t27 t28 t29 t30 t31 t32 t33 t34 t35 t36 t37 t38 t39 t40 t41 t42 t43 t44 t45 t46 t47 t48 t49 t50 t51 t52 t53 t54 t55 t56 t57 t58 t59 t60 t61 t62 t63 t64 t65 t66 t67 t68 t69 t70 t71 t72 t73 t74 t75 t76 t77 t78 t79 t80 t81 t82 t83 t84 t85 t86 t87 t88 t89 t90 t91 t92 t93 t94 t95 : Value) (Q : Exit → Act → World → Prop) (HC : Hid (IsId c)) (HD : Hid (IsId d)) (HI : Hid (IsId a ∧ IsId b)) (KA : Hid (Bk V gA 27 (idA a))) (KB : Hid (Bk V gB 27 (idA b))) (KC : Hid (Bk V gC 27 (idA c))) (KD : Hid (Bk V gD 27 (idA d))) (HNE : Hid (gC ≠ gA ∧ gD ≠ gA ∧ gC ≠ gB ∧ gD ≠ gB)) (HN : Hid (gA ≠ gB ∧ N0 ≤ gA ∧ N0 ≤ gB))
    (HQ : Hid (∀ x93 x94 w', (∀ W0, Below N0 W0 V → Below N0 W0 w') → Bk w' gA 27 (idA c) → Bk w' gB 27 (idA d) → Q .normal { tmps := List.toArray (t0 :: t1 :: t2 :: t3 :: t4 :: t5 :: t6 :: t7 :: t8 :: t9 :: t10 :: Value.pointer (some { block := gA, off := 0 }) :: Value.pointer (some { block := gB, off := 0 }) :: t13 :: t14 :: Value.pointer (some { block := gC, off := 0 }) :: Value.pointer (some { block := gD, off := 0 }) :: t17 :: t18 :: t19 :: t20 :: t21 :: t22 :: t23 :: t24 :: t25 :: t26 :: t27 :: t28 :: t29 :: t30 :: t31 :: t32 :: t33 :: t34 :: t35 :: t36 :: t37 :: t38 :: t39 :: t40 :: t41 :: t42 :: t43 :: t44 :: t45 :: t46 :: t47 :: t48 :: t49 :: t50 :: t51 :: t52 :: t53 :: t54 :: t55 :: t56 :: t57 :: t58 :: t59 :: t60 :: t61 :: t62 :: t63 :: t64 :: t65 :: t66 :: t67 :: t68 :: t69 :: t70 :: t71 :: t72 :: t73 :: t74 :: t75 :: t76 :: t77 :: t78 :: t79 :: t80 :: t81 :: t82 :: t83 :: t84 :: t85 :: t86 :: t87 :: t88 :: t89 :: t90 :: t91 :: t92 :: x93 :: x94 :: t95 :: []), defers := [] } w')) :
    Code.wp Tryd.prog (Code.region 18 (ops18) true) Q { tmps := List.toArray (t0 :: t1 :: t2 :: t3 :: t4 :: t5 :: t6 :: t7 :: t8 :: t9 :: t10 :: Value.pointer (some { block := gA, off := 0 }) :: Value.pointer (some { block := gB, off := 0 }) :: t13 :: t14 :: Value.pointer (some { block := gC, off := 0 }) :: Value.pointer (some { block := gD, off := 0 }) :: t17 :: t18 :: t19 :: t20 :: t21 :: t22 :: t23 :: t24 :: t25 :: t26 :: t27 :: t28 :: t29 :: t30 :: t31 :: t32 :: t33 :: t34 :: t35 :: t36 :: t37 :: t38 :: t39 :: t40 :: t41 :: t42 :: t43 :: t44 :: t45 :: t46 :: t47 :: t48 :: t49 :: t50 :: t51 :: t52 :: t53 :: t54 :: t55 :: t56 :: t57 :: t58 :: t59 :: t60 :: t61 :: t62 :: t63 :: t64 :: t65 :: t66 :: t67 :: t68 :: t69 :: t70 :: t71 :: t72 :: t73 :: t74 :: t75 :: t76 :: t77 :: t78 :: t79 :: t80 :: t81 :: t82 :: t83 :: t84 :: t85 :: t86 :: t87 :: t88 :: t89 :: t90 :: t91 :: t92 :: t93 :: t94 :: t95 :: []), defers := [] } V := by
  refine wp_region_noPanic ?_
  refine wp_region_held_drew (S := (fun w' => Bk w' gC 27 (idA c) ∧ Bk w' gD 27 (idA d))) (by kernel_rfl) ⟨KC.out.drew, KD.out.drew⟩ (fun hHeld => ?_)
  have hB : Below V.heap.size V V.drew := (Below.refl _ _).drew
  show wpAnyH _ _ _ _ _ 4 _ _ _
  refine wpAnyH_take (i := 0) (oi := { dst := some 93, op := Op.load 27 (Operand.tmp 15), type := 27, pos := "law.go:161", after := #[], guard := none }) (v := Value.agg (idA c)) rfl (by kernel_rfl) (by kernel_rfl) (by kernel_rfl) (fun _ _ _ h => h) ?_ hHeld ?_
  · (exact yieldsIf_load_mid (by rfl) 27 (.tmp 15) rfl gC 0 rfl (c.map byteV) _ (fun w h => h.1.range0) Tryd.underlying27 rfl (by rw [List.length_map, HC.out.1]; exact id_info'))
  simp only [Act.put, List.setIfInBounds_toArray, List.set_cons_zero, List.set_cons_succ]
  refine wpAnyH_take (i := 1) (oi := { dst := some 94, op := Op.load 27 (Operand.tmp 16), type := 27, pos := "law.go:161", after := #[{ on := 2, ground := Ground.gcOnly Departure.lateStores }], guard := none }) (v := Value.agg (idA d)) rfl (by kernel_rfl) (by kernel_rfl) (by kernel_rfl) (fun _ _ _ h => h) ?_ hHeld ?_
  · (exact yieldsIf_load_mid (by rfl) 27 (.tmp 16) rfl gD 0 rfl (d.map byteV) _ (fun w h => h.2.range0) Tryd.underlying27 rfl (by rw [List.length_map, HD.out.1]; exact id_info'))
  simp only [Act.put, List.setIfInBounds_toArray, List.set_cons_zero, List.set_cons_succ]
  have hc0 : (idA c).size = (idA a).size := by rw [idA_size, idA_size, HC.out.1, HI.out.1.1]
  have hd0 : (idA d).size = (idA b).size := by rw [idA_size, idA_size, HD.out.1, HI.out.2.1]
  refine wpAnyH_ready (rs := [2]) (by kernel_rfl) (by simp) ?_
  refine AllReadyH.cons rfl (fun K hK => ?_) ?_
  · refine step_store rfl 27 (.tmp 11) (.tmp 93) rfl gA 0 (idA c) rfl rfl (by rw [hc0]; exact KA.out.drew.there _ (Nat.le_refl _)) (by rw [idA_size, HC.out.1]; exact id_info') (id_ones c) ?_
    refine hK.out _ _ (⟨Bk.farCells hHeld.1 HNE.out.1 _ 0, Bk.farCells hHeld.2 HNE.out.2.1 _ 0⟩) (fun hHeld => ?_)
    have KB1 : Bk (V.drew.setCells gA 0 (idA c).toList) gB 27 (idA b) := Bk.farCells KB.out.drew (Ne.symm HN.out.1) _ 0
    refine wpAnyH_ready (rs := [3]) (by kernel_rfl) (by simp) ?_
    refine AllReadyH.cons rfl (fun K hK => ?_) ?_
    · refine step_store rfl 27 (.tmp 12) (.tmp 94) rfl gB 0 (idA d) rfl rfl (by rw [hd0]; exact KB1.there _ (Nat.le_refl _)) (by rw [idA_size, HD.out.1]; exact id_info') (id_ones d) ?_
      refine hK.out _ _ (⟨Bk.farCells hHeld.1 HNE.out.2.2.1 _ 0, Bk.farCells hHeld.2 HNE.out.2.2.2 _ 0⟩) (fun _ => ?_)
      refine wpAnyH_done (by kernel_rfl) ?_ _
      exact NoPanic.normal (HQ.out _ _ _ (fun W0 h => Below.setCells HN.out.2.2 _ _ _ (Below.setCells HN.out.2.1 _ _ _ h.drew)) (Bk.farCells (Bk.setAll KA.out.drew hc0) HN.out.1 _ 0) (Bk.setAll KB1 hd0))
    exact AllReadyH.nil
  exact AllReadyH.nil
end Go.Proofs.YtecmgojecjenmaaDoor.merkleOther
