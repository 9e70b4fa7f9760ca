/-
  A region of the law WholeTargets: the names and their root in one slice.
-/
import Derived.Test.YtkhiicnahijnoaaDoorTwin
import Derived.Test.YtkhiicnahijnoaaDoorMerW
import Derived.Test.YtkhiicnahijnoaaDoorHeaD
namespace Go.Proofs.YtkhiicnahijnoaaDoor.wholeTargets
open Go.ChangeShapes Go.WideShapes Go.ChangeAt Go.RowKit
set_option linter.unusedVariables false

theorem step_appB {ops : Array Oper} {o : Oper} {a : Act} {w : World} {K : Act → World → Prop} {Q : Exit → Act → World → Prop} {E : Prop} {v1 v2 : Value} (xs ys : List (List Nat)) (lo : Nat)
    (hg : o.guard = none) (s y : Operand) (hop : o.op = Op.call { callee := Callee.builtin Builtin.append, args := #[s, y], argTypes := #[54, 54] }) (hty : o.type = 54)
    (hs : a.eval s = v1) (hy : a.eval y = v2) (hm : MineI w lo v1 xs) (hxs : IsIds xs) (hlo : lo ≤ w.heap.size) (hu : IdsV w w.heap.size v2 ys) (hlt : xs.length + ys.length ≤ 1048576)
    (hK : ∀ v W, MineI W lo v (xs ++ ys) → Below lo w W → ButI v1 w W → K (a.put o.dst v) W) :
    if Region.wanted o (yielded ops a.tmps) = true then Oper.wp Tryd.prog o a w K Q else E := by
  obtain ⟨v, W, hrun, hM, hb, hbut⟩ := appI2 xs ys v1 v2 lo w hm hxs hlo hu hlt
  exact step_appI hg s y hop hty hs hy hrun (hK v W hM hb hbut)
theorem keepf {p q : Prop} (h : p) (k : p → q) : q := k h
theorem row_but {w W : World} {g h : Nat} {q : List Nat} (hq : IsId q) (hb : ButI (.slice (some ⟨h, 0, none⟩) 0 0) w W) (K : Bk w g 24 (idA q)) (hne : g ≠ h) (hs : w.heap.size ≤ W.heap.size) : IdsV W W.heap.size (.slice (some ⟨g, 0, none⟩) 1 1) [q] :=
  IdsV.but (one_row K hq) hb hs (fun b o n c e o' n' c' e' => by
    simp only [Value.slice.injEq, Option.some.injEq, Addr.mk.injEq] at e e'
    exact hne (e.1.1.trans e'.1.1.symm))

set_option maxRecDepth 100000 in
set_option maxHeartbeats 8000000 in
theorem region14 (g11 n c : Nat) (s : Option Addr) (V : World) (L : List (List Nat)) (r : List Nat) (hn : n = L.length) (hn30 : n ≤ 30) (hr : IsId r) (K11 : Bk V g11 24 (idA r)) (BL : IdsV V V.heap.size (.slice s n c) L)
    (t1 t2 t3 t4 t5 t6 t7 t8 t9 t10 t12 t13 t14 t15 t16 t17 t18 t19 t20 t21 t22 t23 t24 t25 t26 t27 t28 t29 t30 t31 t32 t33 t34 t35 t36 t37 t38 t39 t40 t41 t42 t43 t44 t45 t46 t47 t48 t49 t50 t51 t52 t53 t54 t55 t56 t57 t58 t59 t60 t61 t62 t63 t64 t65 t66 t67 t68 t69 t70 t71 t72 t73 t74 t75 t76 t77 t78 t79 t80 t81 t82 t83 t84 t85 t86 t87 t88 t89 t90 t91 t92 t93 t94 t95 t96 t97 t98 t99 t100 t101 t102 t103 t104 t105 : Value) (Q : Exit → Act → World → Prop)
    (hQ : ∀ x62 x63 x64 x65 x66 s7 c7 w', Below V.heap.size V w' → IdsV w' w'.heap.size (.slice s7 (n + 1) c7) (L ++ [r]) → Q .normal { tmps := List.toArray (Value.slice s n c :: t1 :: t2 :: t3 :: t4 :: t5 :: t6 :: t7 :: t8 :: t9 :: t10 :: Value.pointer (some { block := g11, off := 0 }) :: t12 :: t13 :: t14 :: t15 :: t16 :: t17 :: t18 :: t19 :: t20 :: t21 :: t22 :: t23 :: t24 :: t25 :: t26 :: t27 :: t28 :: t29 :: t30 :: t31 :: t32 :: t33 :: t34 :: t35 :: t36 :: t37 :: t38 :: t39 :: t40 :: t41 :: t42 :: t43 :: t44 :: t45 :: t46 :: t47 :: t48 :: t49 :: t50 :: t51 :: t52 :: t53 :: t54 :: t55 :: t56 :: t57 :: t58 :: t59 :: t60 :: t61 :: x62 :: x63 :: x64 :: x65 :: x66 :: Value.slice s7 (n + 1) c7 :: Value.int IntKind.i64 ((n : Int) + 1) :: Value.int IntKind.i64 0 :: t70 :: t71 :: t72 :: t73 :: t74 :: t75 :: t76 :: t77 :: t78 :: t79 :: t80 :: t81 :: t82 :: t83 :: t84 :: t85 :: t86 :: t87 :: t88 :: t89 :: t90 :: t91 :: t92 :: t93 :: t94 :: t95 :: t96 :: t97 :: t98 :: t99 :: t100 :: t101 :: t102 :: t103 :: t104 :: t105 :: []), defers := [] } w') :
    Code.wp Tryd.prog (Code.region 14 #[{ dst := some 62, op := Op.buildSlice 54 0 #[], type := 54, pos := "top02.go:28", after := #[], guard := none },
{ dst := some 63, op := Op.move (Operand.tmp 0), type := 54, pos := "top02.go:28", after := #[], guard := none },
{ dst := some 64, op := Op.call { callee := Callee.builtin Builtin.append, args := #[Operand.tmp 62, Operand.tmp 63], argTypes := #[54, 54] }, type := 54, pos := "top02.go:28", after := #[{ on := 0, ground := Ground.data }, { on := 1, ground := Ground.data }], guard := none },
{ dst := some 65, op := Op.load 24 (Operand.tmp 11), type := 24, pos := "top02.go:28", after := #[], guard := none },
{ dst := some 66, op := Op.buildSlice 54 1 #[(0, Operand.tmp 65)], type := 54, pos := "top02.go:28", after := #[{ on := 3, ground := Ground.data }], guard := none },
{ dst := some 67, op := Op.call { callee := Callee.builtin Builtin.append, args := #[Operand.tmp 64, Operand.tmp 66], argTypes := #[54, 54] }, type := 54, pos := "top02.go:28", after := #[{ on := 2, ground := Ground.data }, { on := 4, ground := Ground.data }, { on := 2, ground := Ground.chain }], guard := none },
{ dst := some 68, op := Op.call { callee := Callee.builtin Builtin.len, args := #[Operand.tmp 67], argTypes := #[54] }, type := 3, pos := "top02.go:28", after := #[{ on := 5, ground := Ground.data }], guard := none },
{ dst := some 69, op := Op.move (Operand.const (Value.int IntKind.i64 0)), type := 3, pos := "top02.go:28", after := #[], guard := none }] true) Q { tmps := List.toArray (Value.slice s n c :: t1 :: t2 :: t3 :: t4 :: t5 :: t6 :: t7 :: t8 :: t9 :: t10 :: Value.pointer (some { block := g11, off := 0 }) :: t12 :: t13 :: t14 :: t15 :: t16 :: t17 :: t18 :: t19 :: t20 :: t21 :: t22 :: t23 :: t24 :: t25 :: t26 :: t27 :: t28 :: t29 :: t30 :: t31 :: t32 :: t33 :: t34 :: t35 :: t36 :: t37 :: t38 :: t39 :: t40 :: t41 :: t42 :: t43 :: t44 :: t45 :: t46 :: t47 :: t48 :: t49 :: t50 :: t51 :: t52 :: t53 :: t54 :: t55 :: t56 :: t57 :: t58 :: t59 :: t60 :: t61 :: t62 :: t63 :: t64 :: t65 :: t66 :: t67 :: t68 :: t69 :: t70 :: t71 :: t72 :: t73 :: t74 :: t75 :: t76 :: t77 :: t78 :: t79 :: t80 :: t81 :: t82 :: t83 :: t84 :: t85 :: t86 :: t87 :: t88 :: t89 :: t90 :: t91 :: t92 :: t93 :: t94 :: t95 :: t96 :: t97 :: t98 :: t99 :: t100 :: t101 :: t102 :: t103 :: t104 :: t105 :: []), defers := [] } V := by
  have HQ := Lib.hid hQ
  have HN := Lib.hid hn
  have hids := Lib.hid BL.ids
  have HR := Lib.hid hr
  have hz := K11.lt
  obtain ⟨tl, htl⟩ : ∃ tl : TypeId, tl = 24 := ⟨_, rfl⟩
  obtain ⟨sz, hsz0⟩ : ∃ sz : Nat, sz = 32 := ⟨_, rfl⟩
  have hag : ∀ w, (isAgg tl).run Tryd.prog w = .ok true w := by rw [htl]; exact id_agg
  have hsz : ∀ w, (sizeOf tl).run Tryd.prog w = .ok sz w := by rw [htl, hsz0]; exact id_size
  have HLD := Lib.hid (show ∀ w', Bk w' g11 24 (idA r) → (loadCellsFrom ⟨g11, 0, none⟩ 0 sz #[]).run Tryd.prog w' = .ok (idA r) w' by rw [hsz0]; exact fun w' h => id_load _ _ _ _ hr.1 h.range0)
  have l0 := HLD.out _ K11.drew
  have l1 : (loadCellsFrom ⟨g11, 0, none⟩ 0 sz #[]).run Tryd.prog (V.alloc (.cells #[] 24)).drew = .ok (idA r) (V.alloc (.cells #[] 24)).drew := HLD.out _ (K11.alloc _)
  have hr32 : (idA r).size = 32 := by rw [idA_size]; exact hr.1
  have hfold := id_fold r hr.1
  have BLV := Lib.hid BL
  simp only [show ∀ z, Op.load 24 z = Op.load tl z from fun z => by rw [htl]]
  clear htl hsz0 hQ hn BL hr
  refine wp_region_noPanic ?_
  go_region_law (first
    | (refine step_appB [] L V.heap.size rfl (.tmp 62) (.tmp 63) rfl rfl rfl rfl ?_ IsIds.nil ?_ ?_ ?_ ?_
       · refine mine_none ?_ ?_
         rotate_left
         · repeat' (first | with_reducible assumption | with_reducible exact Bk.new _ _ _ | with_reducible refine Bk.new' _ _ _ ?_ | with_reducible refine Bk.alloc ?_ _ | with_reducible refine Bk.drew ?_ | (with_reducible refine Bk.keep ?_ (by with_reducible assumption)) | (simp; done) | (simp; omega) | (simp [World.drew]; done) | (simp [World.drew]; omega))
         · first | omega | (simp; done) | (simp; omega) | (simp [World.drew]; done) | (simp [World.drew]; omega)
       · first | omega | (simp; done) | (simp; omega) | (simp [World.drew]; done) | (simp [World.drew]; omega)
       · refine (BLV.out.keep (C := V.heap.size) ?_ (Nat.le_refl _)).mono ?_
         · repeat' (first | with_reducible exact Below.refl _ _ | with_reducible assumption | with_reducible exact From.out (by with_reducible assumption) | with_reducible refine Below.drew ?_ | with_reducible refine Below.setCell ?_ ?_ _ | with_reducible refine Below.alloc ?_ ?_ _ | with_reducible exact Nat.le_refl _ | omega | (simp; done) | (simp; omega) | (simp [World.drew]; done) | (simp [World.drew]; omega))
         · first | omega | (simp; done) | (simp; omega) | (simp [World.drew]; done) | (simp [World.drew]; omega)
       · rw [← HN.out]; simp; omega
       rintro v5 W5 hM5 hb5 hbut5
       have hE5 : From V W5 := by
         refine Below.trans ?_ hb5
         repeat' (first | with_reducible exact Below.refl _ _ | with_reducible assumption | with_reducible exact From.out (by with_reducible assumption) | with_reducible refine Below.drew ?_ | with_reducible refine Below.setCell ?_ ?_ _ | with_reducible refine Below.alloc ?_ ?_ _ | with_reducible exact Nat.le_refl _ | omega | (simp; done) | (simp; omega) | (simp [World.drew]; done) | (simp [World.drew]; omega))
       have z5 := hE5.out.size
       have l5 := HLD.out _ (K11.keep hE5.out)
       try (refine keepf (Lib.hid (row_but (g := V.heap.size) HR.out hbut5 ?_ ?_ ?_)) ?_
            · repeat' (first | with_reducible assumption | with_reducible exact Bk.new _ _ _ | with_reducible refine Bk.new' _ _ _ ?_ | with_reducible refine Bk.alloc ?_ _ | with_reducible refine Bk.drew ?_ | (with_reducible refine Bk.keep ?_ (by with_reducible assumption)) | (simp; done) | (simp; omega))
            · omega
            · (have := hb5.size; omega)
            intro q5)
       try (refine keepf (Lib.hid (row_but (g := V.heap.size + 1) HR.out hbut5 ?_ ?_ ?_)) ?_
            · repeat' (first | with_reducible assumption | with_reducible exact Bk.new _ _ _ | with_reducible refine Bk.new' _ _ _ ?_ | with_reducible refine Bk.alloc ?_ _ | with_reducible refine Bk.drew ?_ | (with_reducible refine Bk.keep ?_ (by with_reducible assumption)) | (simp; done) | (simp; omega))
            · omega
            · (have := hb5.size; omega)
            intro q6)
       rw [List.nil_append] at hM5
       obtain ⟨s5, c5, e5⟩ := hM5.slice
       rw [← HN.out] at e5
       subst e5)
    | (refine step_appB L [r] V.heap.size rfl (.tmp 64) (.tmp 66) rfl rfl rfl rfl ?_ hids.out ?_ ?_ ?_ ?_
       · first | exact hM5 | exact hM5.keep ((Below.refl _ _).alloc (Nat.le_refl _) _)
       · first | omega | (simp; done) | (simp; omega) | (simp [World.drew]; done) | (simp [World.drew]; omega)
       · first | exact q5.out | exact q6.out | exact one_row (Bk.new _ _ _) HR.out
       · rw [← HN.out]; simp; omega
       rintro v7 W7 hM7 hb7 _
       have hE7 : From V W7 := by
         refine Below.trans ?_ hb7
         repeat' (first | with_reducible exact Below.refl _ _ | with_reducible assumption | with_reducible exact From.out (by with_reducible assumption) | with_reducible refine Below.drew ?_ | with_reducible refine Below.setCell ?_ ?_ _ | with_reducible refine Below.alloc ?_ ?_ _ | with_reducible exact Nat.le_refl _ | omega | (simp; done) | (simp; omega) | (simp [World.drew]; done) | (simp [World.drew]; omega))
       have hI7 := Lib.hid (hM7.ids (hids.out.app (IsIds.one HR.out)))
       obtain ⟨s7, c7, e7⟩ := hM7.slice
       have hl7 : (L ++ [r]).length = n + 1 := by rw [List.length_append, ← HN.out]; rfl
       rw [hl7] at e7
       subst e7))
  all_goals
    exact NoPanic.normal (HQ.out _ _ _ _ _ _ _ _ hE7.out hI7.out)
end Go.Proofs.YtkhiicnahijnoaaDoor.wholeTargets
