/-
  More regions of the law TxApart.
-/
import Derived.Test.YtokiinpegclffaaDoorTapR
namespace Go.Proofs.YtokiinpegclffaaDoor.txApart
open Go.ChangeShapes Go.WideShapes Go.ChangeAt Go.RowKit
set_option linter.unusedVariables false
set_option maxRecDepth 100000
set_option maxHeartbeats 8000000 in
theorem region14 {t0 t1 t4 t5 t6 t7 t8 t9 t10 t11 t12 t13 t14 t15 t16 t17 t18 t19 t20 t21 t22 t23 t24 t25 t26 t27 t28 t29 t30 t31 t32 t33 t34 t35 t36 t37 t38 t39 t40 t41 t42 t43 t44 t45 t46 t47 t48 t49 t50 t51 t52 t53 t54 t55 t56 t57 t58 t59 t60 t61 t62 t63 t64 t65 t66 t67 t68 t69 t70 t71 t72 t73 t74 t75 t76 t77 t78 t79 t80 t81 t82 t83 t84 t85 t86 t87 t88 t89 t90 t91 t92 t93 t94 t95 t96 t97 t98 t99 t100 t101 t102 t103 t104 t105 t106 t107 t108 t109 t110 t111 t112 t113 t114 t115 t116 t117 t118 : Value} {Q : Exit → Act → World → Prop} (V : World) (g1 g2 : Nat) (sa sb sc sd : Option Addr) (na ca nb cb nc cc nd cd : Nat) (st su : ByteArray) (J1 : Bk V g1 25 #[.slice sa na ca, .slice sb nb cb]) (J2 : Bk V g2 25 #[.slice sc nc cc, .slice sd nd cd]) (HB12 : Hid (∀ W, Below V.heap.size V W → Calls Tryd.prog 18 #[.agg #[.slice sa na ca, .slice sb nb cb]] W fun e w' => ∃ s m c, e = .returned (.slice s m c) ∧ (∀ w2, Below w'.heap.size w' w2 → (convert 33 9 (.slice s m c)).run Tryd.prog w2 = .ok (.string st) w2) ∧ Below W.heap.size W w')) (HB13 : Hid (∀ W, Below V.heap.size V W → Calls Tryd.prog 18 #[.agg #[.slice sc nc cc, .slice sd nd cd]] W fun e w' => ∃ s m c, e = .returned (.slice s m c) ∧ (∀ w2, Below w'.heap.size w' w2 → (convert 33 9 (.slice s m c)).run Tryd.prog w2 = .ok (.string su) w2) ∧ Below W.heap.size W w'))
    (hQ : ∀ (x97 x98 x99 x100 : Value) (s6 : Option Addr) (m6 c6 : Nat) (s7 : Option Addr) (m7 c7 : Nat) (w' : World), Below V.heap.size V w' → (∀ w2, Below w'.heap.size w' w2 → (convert 33 9 (.slice s6 m6 c6)).run Tryd.prog w2 = .ok (.string st) w2) → (∀ w2, Below w'.heap.size w' w2 → (convert 33 9 (.slice s7 m7 c7)).run Tryd.prog w2 = .ok (.string su) w2) → Q .normal { tmps := List.toArray (t0 :: t1 :: .pointer (some ⟨g1, 0, none⟩) :: .pointer (some ⟨g2, 0, none⟩) :: t4 :: t5 :: t6 :: t7 :: .slice s6 m6 c6 :: .slice s7 m7 c7 :: t10 :: t11 :: t12 :: t13 :: t14 :: t15 :: t16 :: t17 :: t18 :: t19 :: t20 :: t21 :: t22 :: t23 :: t24 :: t25 :: t26 :: t27 :: t28 :: t29 :: t30 :: t31 :: t32 :: t33 :: t34 :: t35 :: t36 :: t37 :: t38 :: t39 :: t40 :: t41 :: t42 :: t43 :: t44 :: t45 :: t46 :: t47 :: t48 :: t49 :: t50 :: t51 :: t52 :: t53 :: t54 :: t55 :: t56 :: t57 :: t58 :: t59 :: t60 :: t61 :: t62 :: t63 :: t64 :: t65 :: t66 :: t67 :: t68 :: t69 :: t70 :: t71 :: t72 :: t73 :: t74 :: t75 :: t76 :: t77 :: t78 :: t79 :: t80 :: t81 :: t82 :: t83 :: t84 :: t85 :: t86 :: t87 :: t88 :: t89 :: t90 :: t91 :: t92 :: t93 :: t94 :: t95 :: t96 :: x97 :: x98 :: x99 :: x100 :: t101 :: t102 :: t103 :: t104 :: t105 :: t106 :: t107 :: t108 :: t109 :: t110 :: t111 :: t112 :: t113 :: t114 :: t115 :: t116 :: t117 :: t118 :: []), defers := [] } w') :
    Code.wp Tryd.prog (Code.region 14 #[{ dst := some 97, op := Op.load 25 (Operand.tmp 2), type := 25, pos := "law.go:142", after := #[], guard := none },
{ dst := some 98, op := Op.call { callee := Callee.value (Operand.func 18), args := #[Operand.tmp 97], argTypes := #[25] }, type := 33, pos := "law.go:142", after := #[{ on := 0, ground := Ground.data }], guard := none },
{ dst := some 99, op := Op.load 25 (Operand.tmp 3), type := 25, pos := "law.go:142", after := #[], guard := none },
{ dst := some 100, op := Op.call { callee := Callee.value (Operand.func 18), args := #[Operand.tmp 99], argTypes := #[25] }, type := 33, pos := "law.go:142", after := #[{ on := 2, ground := Ground.data }, { on := 1, ground := Ground.chain }], guard := none },
{ dst := some 8, op := Op.assign (Operand.tmp 98), type := 33, pos := "law.go:142", after := #[{ on := 1, ground := Ground.data }, { on := 3, ground := Ground.chain }, { on := 0, ground := Ground.phase }, { on := 1, ground := Ground.phase }, { on := 2, ground := Ground.textOnly Departure.lateStores }, { on := 3, ground := Ground.textOnly Departure.lateStoresUnsure }], guard := none },
{ dst := some 9, op := Op.assign (Operand.tmp 100), type := 33, pos := "law.go:142", after := #[{ on := 3, ground := Ground.data }, { on := 4, ground := Ground.chain }, { on := 0, ground := Ground.phase }, { on := 1, ground := Ground.phase }, { on := 2, ground := Ground.phase }, { on := 3, ground := Ground.phase }, { on := 4, ground := Ground.phase }], guard := none }] true) Q { tmps := List.toArray (t0 :: t1 :: .pointer (some ⟨g1, 0, none⟩) :: .pointer (some ⟨g2, 0, none⟩) :: t4 :: t5 :: t6 :: t7 :: t8 :: t9 :: t10 :: t11 :: t12 :: t13 :: t14 :: t15 :: t16 :: t17 :: t18 :: t19 :: t20 :: t21 :: t22 :: t23 :: t24 :: t25 :: t26 :: t27 :: t28 :: t29 :: t30 :: t31 :: t32 :: t33 :: t34 :: t35 :: t36 :: t37 :: t38 :: t39 :: t40 :: t41 :: t42 :: t43 :: t44 :: t45 :: t46 :: t47 :: t48 :: t49 :: t50 :: t51 :: t52 :: t53 :: t54 :: t55 :: t56 :: t57 :: t58 :: t59 :: t60 :: t61 :: t62 :: t63 :: t64 :: t65 :: t66 :: t67 :: t68 :: t69 :: t70 :: t71 :: t72 :: t73 :: t74 :: t75 :: t76 :: t77 :: t78 :: t79 :: t80 :: t81 :: t82 :: t83 :: t84 :: t85 :: t86 :: t87 :: t88 :: t89 :: t90 :: t91 :: t92 :: t93 :: t94 :: t95 :: t96 :: t97 :: t98 :: t99 :: t100 :: t101 :: t102 :: t103 :: t104 :: t105 :: t106 :: t107 :: t108 :: t109 :: t110 :: t111 :: t112 :: t113 :: t114 :: t115 :: t116 :: t117 :: t118 :: []), defers := [] } V := by
  have e0 : ∀ w', Below V.heap.size V w' → w'.cell? ⟨g1, 0, none⟩ = some (.slice sa na ca) := fun w' hb => (J1.keep hb).cell 0
  have e1 : ∀ w', Below V.heap.size V w' → w'.cell? ⟨g1, 1, none⟩ = some (.slice sb nb cb) := fun w' hb => (J1.keep hb).cell 1
  have e2 : ∀ w', Below V.heap.size V w' → w'.cell? ⟨g2, 0, none⟩ = some (.slice sc nc cc) := fun w' hb => (J2.keep hb).cell 0
  have e3 : ∀ w', Below V.heap.size V w' → w'.cell? ⟨g2, 1, none⟩ = some (.slice sd nd cd) := fun w' hb => (J2.keep hb).cell 1
  have HQ := Lib.hid hQ
  clear hQ J1 J2
  refine wp_region_noPanic ?_
  go_region_held (fun w' => Below V.heap.size V w')
    (first | with_reducible assumption | with_reducible exact Below.refl _ _ | with_reducible exact (Below.refl _ _).drew)
    (first
      | (go_at_call 18
         with_reducible refine (HB12.out _ (by first | with_reducible assumption | with_reducible exact (Below.refl _ _).drew | with_reducible exact Below.refl _ _)).mono ?_
         rintro e w6 ⟨s6, m6, c6, rfl, hc6, hb6⟩
         have hE6 : Below V.heap.size V w6 := by
           refine below_step ?_ ?_ hb6
           · repeat' (first | with_reducible exact Below.refl _ _ | with_reducible assumption | with_reducible exact From.out (by with_reducible assumption) | with_reducible refine Below.drew ?_ | with_reducible refine Below.setCell ?_ ?_ _ | with_reducible refine Below.alloc ?_ ?_ _ | with_reducible exact Nat.le_refl _ | omega | (simp; done) | (simp; omega) | (simp [World.drew]; done) | (simp [World.drew]; omega))
           · first | omega | (simp; done) | (simp; omega) | (simp [World.drew]; done) | (simp [World.drew]; omega)
         have z6 := hE6.size)
      | (go_at_call 18
         with_reducible refine (HB13.out _ (by first | with_reducible assumption | with_reducible exact (Below.refl _ _).drew | with_reducible exact Below.refl _ _)).mono ?_
         rintro e w7 ⟨s7, m7, c7, rfl, hc7, hb7⟩
         have hE7 : Below V.heap.size V w7 := by
           refine below_step ?_ ?_ hb7
           · repeat' (first | with_reducible exact Below.refl _ _ | with_reducible assumption | with_reducible exact From.out (by with_reducible assumption) | with_reducible refine Below.drew ?_ | with_reducible refine Below.setCell ?_ ?_ _ | with_reducible refine Below.alloc ?_ ?_ _ | with_reducible exact Nat.le_refl _ | omega | (simp; done) | (simp; omega) | (simp [World.drew]; done) | (simp [World.drew]; omega))
           · first | omega | (simp; done) | (simp; omega) | (simp [World.drew]; done) | (simp [World.drew]; omega)
         have z7 := hE7.size))
  all_goals first
    | exact NoPanic.normal (HQ.out _ _ _ _ _ _ _ _ _ _ _ hE7 (fun w2 h2 => hc6 w2 (below_step hb7 hb7.size h2)) hc7)
    | exact NoPanic.normal (HQ.out _ _ _ _ _ _ _ _ _ _ _ hE6 hc6 (fun w2 h2 => hc7 w2 (below_step hb6 hb6.size h2)))
set_option maxHeartbeats 8000000 in
theorem region15F {t0 t1 t4 t6 t7 t10 t11 t12 t13 t14 t15 t16 t17 t18 t19 t20 t21 t22 t23 t24 t25 t26 t27 t28 t29 t30 t31 t32 t33 t34 t35 t36 t37 t38 t39 t40 t41 t42 t43 t44 t45 t46 t47 t48 t49 t50 t51 t52 t53 t54 t55 t56 t57 t58 t59 t60 t61 t62 t63 t64 t65 t66 t67 t68 t69 t70 t71 t72 t73 t74 t75 t76 t77 t78 t79 t80 t81 t82 t83 t84 t85 t86 t87 t88 t89 t90 t91 t92 t93 t94 t95 t96 t97 t98 t99 t100 t101 t102 t103 t104 t105 t106 t107 t108 t109 t110 t111 t112 t113 t114 t115 t116 t117 t118 : Value} {Q : Exit → Act → World → Prop} (V : World) (g1 g2 m6 c6 m7 c7 : Nat) (s6 s7 : Option Addr) (st su : ByteArray) (hc6 : (∀ w2, Below V.heap.size V w2 → (convert 33 9 (.slice s6 m6 c6)).run Tryd.prog w2 = .ok (.string st) w2)) (hc7 : (∀ w2, Below V.heap.size V w2 → (convert 33 9 (.slice s7 m7 c7)).run Tryd.prog w2 = .ok (.string su) w2)) (hss : (st.toList == su.toList) = false)
    (hQ : ∀ (x101 x102 x103 x104 x105 x106 x107 x108 x109 x110 x111 x112 x113 x114 x115 x116 x117 x118 : Value), Q .normal { tmps := List.toArray (t0 :: t1 :: .pointer (some ⟨g1, 0, none⟩) :: .pointer (some ⟨g2, 0, none⟩) :: .bool true :: .bool false :: t6 :: t7 :: .slice s6 m6 c6 :: .slice s7 m7 c7 :: t10 :: t11 :: t12 :: t13 :: t14 :: t15 :: t16 :: t17 :: t18 :: t19 :: t20 :: t21 :: t22 :: t23 :: t24 :: t25 :: t26 :: t27 :: t28 :: t29 :: t30 :: t31 :: t32 :: t33 :: t34 :: t35 :: t36 :: t37 :: t38 :: t39 :: t40 :: t41 :: t42 :: t43 :: t44 :: t45 :: t46 :: t47 :: t48 :: t49 :: t50 :: t51 :: t52 :: t53 :: t54 :: t55 :: t56 :: t57 :: t58 :: t59 :: t60 :: t61 :: t62 :: t63 :: t64 :: t65 :: t66 :: t67 :: t68 :: t69 :: t70 :: t71 :: t72 :: t73 :: t74 :: t75 :: t76 :: t77 :: t78 :: t79 :: t80 :: t81 :: t82 :: t83 :: t84 :: t85 :: t86 :: t87 :: t88 :: t89 :: t90 :: t91 :: t92 :: t93 :: t94 :: t95 :: t96 :: t97 :: t98 :: t99 :: t100 :: x101 :: x102 :: x103 :: x104 :: x105 :: x106 :: x107 :: x108 :: x109 :: x110 :: x111 :: x112 :: x113 :: x114 :: x115 :: x116 :: x117 :: x118 :: []), defers := [] } V.drew) :
    Code.wp Tryd.prog (Code.region 15 #[{ dst := some 101, op := Op.move (Operand.tmp 5), type := 4, pos := "law.go:143", after := #[], guard := none },
{ dst := some 102, op := Op.move (Operand.tmp 8), type := 33, pos := "law.go:143", after := #[], guard := none },
{ dst := some 103, op := Op.convert 33 9 (Operand.tmp 102), type := 9, pos := "law.go:143", after := #[{ on := 1, ground := Ground.data }], guard := none },
{ dst := some 104, op := Op.move (Operand.tmp 9), type := 33, pos := "law.go:143", after := #[], guard := none },
{ dst := some 105, op := Op.convert 33 9 (Operand.tmp 104), type := 9, pos := "law.go:143", after := #[{ on := 3, ground := Ground.data }], guard := none },
{ dst := some 106, op := Op.binOp BinOp.eql 9 (Operand.tmp 103) (Operand.tmp 105) 9, type := 4, pos := "law.go:143", after := #[{ on := 2, ground := Ground.data }, { on := 4, ground := Ground.data }], guard := none },
{ dst := some 107, op := Op.binOp BinOp.eql 4 (Operand.tmp 101) (Operand.tmp 106) 4, type := 4, pos := "law.go:143", after := #[{ on := 0, ground := Ground.data }, { on := 5, ground := Ground.data }], guard := none },
{ dst := some 108, op := Op.move (Operand.tmp 107), type := 4, pos := "law.go:143", after := #[{ on := 6, ground := Ground.data }], guard := none },
{ dst := some 109, op := Op.move (Operand.tmp 5), type := 4, pos := "law.go:143", after := #[{ on := 7, ground := Ground.guard }], guard := some (7, true) },
{ dst := some 110, op := Op.unOp UnOp.not 4 (Operand.tmp 109), type := 4, pos := "law.go:143", after := #[{ on := 8, ground := Ground.data }, { on := 7, ground := Ground.guard }], guard := some (7, true) },
{ dst := some 111, op := Op.move (Operand.tmp 110), type := 4, pos := "law.go:143", after := #[{ on := 9, ground := Ground.data }, { on := 7, ground := Ground.chain }, { on := 7, ground := Ground.guard }], guard := some (7, true) },
{ dst := some 112, op := Op.load 25 (Operand.tmp 2), type := 25, pos := "law.go:143", after := #[{ on := 10, ground := Ground.guard }], guard := some (10, false) },
{ dst := some 113, op := Op.call { callee := Callee.value (Operand.func 19), args := #[Operand.tmp 112], argTypes := #[25] }, type := 29, pos := "law.go:143", after := #[{ on := 11, ground := Ground.data }, { on := 10, ground := Ground.chain }, { on := 10, ground := Ground.guard }], guard := some (10, false) },
{ dst := some 114, op := Op.load 25 (Operand.tmp 3), type := 25, pos := "law.go:143", after := #[{ on := 10, ground := Ground.guard }], guard := some (10, false) },
{ dst := some 115, op := Op.call { callee := Callee.value (Operand.func 19), args := #[Operand.tmp 114], argTypes := #[25] }, type := 29, pos := "law.go:143", after := #[{ on := 13, ground := Ground.data }, { on := 12, ground := Ground.chain }, { on := 10, ground := Ground.guard }], guard := some (10, false) },
{ dst := some 116, op := Op.binOp BinOp.eql 29 (Operand.tmp 113) (Operand.tmp 115) 29, type := 4, pos := "law.go:143", after := #[{ on := 12, ground := Ground.data }, { on := 14, ground := Ground.data }, { on := 10, ground := Ground.guard }], guard := some (10, false) },
{ dst := some 117, op := Op.pick (Operand.tmp 111) (Operand.const (Value.bool true)) (Operand.tmp 116), type := 4, pos := "law.go:143", after := #[{ on := 10, ground := Ground.data }, { on := 15, ground := Ground.data }, { on := 7, ground := Ground.guard }], guard := some (7, true) },
{ dst := some 118, op := Op.pick (Operand.tmp 108) (Operand.tmp 117) (Operand.const (Value.bool false)), type := 4, pos := "law.go:143", after := #[{ on := 7, ground := Ground.data }, { on := 16, ground := Ground.data }], guard := none },
{ dst := some 4, op := Op.assign (Operand.tmp 118), type := 4, pos := "law.go:143", after := #[{ on := 17, ground := Ground.data }, { on := 14, ground := Ground.chain }, { on := 0, ground := Ground.phase }, { on := 1, ground := Ground.phase }, { on := 2, ground := Ground.phase }, { on := 3, ground := Ground.phase }, { on := 4, ground := Ground.phase }, { on := 5, ground := Ground.phase }, { on := 6, ground := Ground.phase }, { on := 7, ground := Ground.phase }, { on := 8, ground := Ground.phase }, { on := 9, ground := Ground.phase }, { on := 10, ground := Ground.phase }, { on := 11, ground := Ground.phase }, { on := 12, ground := Ground.phase }, { on := 13, ground := Ground.phase }, { on := 14, ground := Ground.phase }, { on := 15, ground := Ground.phase }, { on := 16, ground := Ground.phase }, { on := 17, ground := Ground.phase }], guard := none }] true) Q { tmps := List.toArray (t0 :: t1 :: .pointer (some ⟨g1, 0, none⟩) :: .pointer (some ⟨g2, 0, none⟩) :: t4 :: .bool false :: t6 :: t7 :: .slice s6 m6 c6 :: .slice s7 m7 c7 :: t10 :: t11 :: t12 :: t13 :: t14 :: t15 :: t16 :: t17 :: t18 :: t19 :: t20 :: t21 :: t22 :: t23 :: t24 :: t25 :: t26 :: t27 :: t28 :: t29 :: t30 :: t31 :: t32 :: t33 :: t34 :: t35 :: t36 :: t37 :: t38 :: t39 :: t40 :: t41 :: t42 :: t43 :: t44 :: t45 :: t46 :: t47 :: t48 :: t49 :: t50 :: t51 :: t52 :: t53 :: t54 :: t55 :: t56 :: t57 :: t58 :: t59 :: t60 :: t61 :: t62 :: t63 :: t64 :: t65 :: t66 :: t67 :: t68 :: t69 :: t70 :: t71 :: t72 :: t73 :: t74 :: t75 :: t76 :: t77 :: t78 :: t79 :: t80 :: t81 :: t82 :: t83 :: t84 :: t85 :: t86 :: t87 :: t88 :: t89 :: t90 :: t91 :: t92 :: t93 :: t94 :: t95 :: t96 :: t97 :: t98 :: t99 :: t100 :: t101 :: t102 :: t103 :: t104 :: t105 :: t106 :: t107 :: t108 :: t109 :: t110 :: t111 :: t112 :: t113 :: t114 :: t115 :: t116 :: t117 :: t118 :: []), defers := [] } V := by
  have hcx := hc6 V.drew (Below.refl _ _).drew
  have hcy := hc7 V.drew (Below.refl _ _).drew
  have HQ := Lib.hid hQ
  clear hQ hc6 hc7
  refine wp_region_still_lit (by kernel_rfl) (by kernel_rfl) ?_
  refine Sh.out ?_
  (refine hs_step (fun K hK => ?_)
   go_simp
   refine hK _ ?_
   clear hK K)
  (refine hs_step (fun K hK => ?_)
   go_simp
   refine hK _ ?_
   clear hK K)
  (refine hs_step (fun K hK => ?_)
   go_simp
   refine hK _ ?_
   clear hK K)
  (refine hs_step (fun K hK => ?_)
   go_simp
   refine hK _ ?_
   clear hK K)
  (refine hs_step (fun K hK => ?_)
   go_simp
   refine hK _ ?_
   clear hK K)
  (refine hs_step (fun K hK => ?_)
   go_simp
   refine hK _ ?_
   clear hK K)
  (refine hs_step (fun K hK => ?_)
   go_simp
   refine hK _ ?_
   clear hK K)
  (refine hs_step (fun K hK => ?_)
   go_simp
   refine hK _ ?_
   clear hK K)
  (refine hs_want (by kernel_rfl) (fun K hK => ?_)
   go_simp
   refine hK _ ?_
   clear hK K)
  (refine hs_want (by kernel_rfl) (fun K hK => ?_)
   go_simp
   refine hK _ ?_
   clear hK K)
  (refine hs_want (by kernel_rfl) (fun K hK => ?_)
   go_simp
   refine hK _ ?_
   clear hK K)
  (refine hs_skip (by kernel_rfl) (fun K hK => ?_)
   go_simp
   refine hK _ ?_
   clear hK K)
  (refine hs_skip (by kernel_rfl) (fun K hK => ?_)
   go_simp
   refine hK _ ?_
   clear hK K)
  (refine hs_skip (by kernel_rfl) (fun K hK => ?_)
   go_simp
   refine hK _ ?_
   clear hK K)
  (refine hs_skip (by kernel_rfl) (fun K hK => ?_)
   go_simp
   refine hK _ ?_
   clear hK K)
  (refine hs_skip (by kernel_rfl) (fun K hK => ?_)
   go_simp
   refine hK _ ?_
   clear hK K)
  (refine hs_want (by kernel_rfl) (fun K hK => ?_)
   go_simp
   refine hK _ ?_
   clear hK K)
  (refine hs_step (fun K hK => ?_)
   go_simp
   refine hK _ ?_
   clear hK K)
  (refine hs_step (fun K hK => ?_)
   go_simp
   refine hK _ ?_
   clear hK K)
  refine hs_nil ?_
  exact HQ.out _ _ _ _ _ _ _ _ _ _ _ _ _ _ _ _ _ _
set_option maxHeartbeats 8000000 in
theorem region15T {t0 t1 t4 t6 t7 t10 t11 t12 t13 t14 t15 t16 t17 t18 t19 t20 t21 t22 t23 t24 t25 t26 t27 t28 t29 t30 t31 t32 t33 t34 t35 t36 t37 t38 t39 t40 t41 t42 t43 t44 t45 t46 t47 t48 t49 t50 t51 t52 t53 t54 t55 t56 t57 t58 t59 t60 t61 t62 t63 t64 t65 t66 t67 t68 t69 t70 t71 t72 t73 t74 t75 t76 t77 t78 t79 t80 t81 t82 t83 t84 t85 t86 t87 t88 t89 t90 t91 t92 t93 t94 t95 t96 t97 t98 t99 t100 t101 t102 t103 t104 t105 t106 t107 t108 t109 t110 t111 t112 t113 t114 t115 t116 t117 t118 : Value} {Q : Exit → Act → World → Prop} (V : World) (g1 g2 m6 c6 m7 c7 : Nat) (s6 s7 : Option Addr) (st su : ByteArray) (hc6 : (∀ w2, Below V.heap.size V w2 → (convert 33 9 (.slice s6 m6 c6)).run Tryd.prog w2 = .ok (.string st) w2)) (hc7 : (∀ w2, Below V.heap.size V w2 → (convert 33 9 (.slice s7 m7 c7)).run Tryd.prog w2 = .ok (.string su) w2)) (sa sb sc sd : Option Addr) (na ca nb cb nc cc nd cd : Nat) (hss : (st.toList == su.toList) = true) (J1 : Bk V g1 25 #[.slice sa na ca, .slice sb nb cb]) (J2 : Bk V g2 25 #[.slice sc nc cc, .slice sd nd cd]) (oid : Value)
    (HI1 : Hid (∀ W, Below V.heap.size V W → Calls Tryd.prog 19 #[.agg #[.slice sa na ca, .slice sb nb cb]] W fun e w' => e = .returned oid ∧ Below W.heap.size W w'))
    (HI2 : Hid (∀ W, Below V.heap.size V W → Calls Tryd.prog 19 #[.agg #[.slice sc nc cc, .slice sd nd cd]] W fun e w' => e = .returned oid ∧ Below W.heap.size W w'))
    (hgd : ∀ (a b : Operand) W, (eqGuard .eql 29 a b oid oid).run Tryd.prog W = .ok () W) (hbn : ∀ W, (binOp .eql 29 oid oid).run Tryd.prog W = .ok (.bool true) W)
    (hQ : ∀ (x101 x102 x103 x104 x105 x106 x107 x108 x109 x110 x111 x112 x113 x114 x115 x116 x117 x118 : Value) (w' : World), Below V.heap.size V w' → Q .normal { tmps := List.toArray (t0 :: t1 :: .pointer (some ⟨g1, 0, none⟩) :: .pointer (some ⟨g2, 0, none⟩) :: .bool true :: .bool true :: t6 :: t7 :: .slice s6 m6 c6 :: .slice s7 m7 c7 :: t10 :: t11 :: t12 :: t13 :: t14 :: t15 :: t16 :: t17 :: t18 :: t19 :: t20 :: t21 :: t22 :: t23 :: t24 :: t25 :: t26 :: t27 :: t28 :: t29 :: t30 :: t31 :: t32 :: t33 :: t34 :: t35 :: t36 :: t37 :: t38 :: t39 :: t40 :: t41 :: t42 :: t43 :: t44 :: t45 :: t46 :: t47 :: t48 :: t49 :: t50 :: t51 :: t52 :: t53 :: t54 :: t55 :: t56 :: t57 :: t58 :: t59 :: t60 :: t61 :: t62 :: t63 :: t64 :: t65 :: t66 :: t67 :: t68 :: t69 :: t70 :: t71 :: t72 :: t73 :: t74 :: t75 :: t76 :: t77 :: t78 :: t79 :: t80 :: t81 :: t82 :: t83 :: t84 :: t85 :: t86 :: t87 :: t88 :: t89 :: t90 :: t91 :: t92 :: t93 :: t94 :: t95 :: t96 :: t97 :: t98 :: t99 :: t100 :: x101 :: x102 :: x103 :: x104 :: x105 :: x106 :: x107 :: x108 :: x109 :: x110 :: x111 :: x112 :: x113 :: x114 :: x115 :: x116 :: x117 :: x118 :: []), defers := [] } w') :
    Code.wp Tryd.prog (Code.region 15 #[{ dst := some 101, op := Op.move (Operand.tmp 5), type := 4, pos := "law.go:143", after := #[], guard := none },
{ dst := some 102, op := Op.move (Operand.tmp 8), type := 33, pos := "law.go:143", after := #[], guard := none },
{ dst := some 103, op := Op.convert 33 9 (Operand.tmp 102), type := 9, pos := "law.go:143", after := #[{ on := 1, ground := Ground.data }], guard := none },
{ dst := some 104, op := Op.move (Operand.tmp 9), type := 33, pos := "law.go:143", after := #[], guard := none },
{ dst := some 105, op := Op.convert 33 9 (Operand.tmp 104), type := 9, pos := "law.go:143", after := #[{ on := 3, ground := Ground.data }], guard := none },
{ dst := some 106, op := Op.binOp BinOp.eql 9 (Operand.tmp 103) (Operand.tmp 105) 9, type := 4, pos := "law.go:143", after := #[{ on := 2, ground := Ground.data }, { on := 4, ground := Ground.data }], guard := none },
{ dst := some 107, op := Op.binOp BinOp.eql 4 (Operand.tmp 101) (Operand.tmp 106) 4, type := 4, pos := "law.go:143", after := #[{ on := 0, ground := Ground.data }, { on := 5, ground := Ground.data }], guard := none },
{ dst := some 108, op := Op.move (Operand.tmp 107), type := 4, pos := "law.go:143", after := #[{ on := 6, ground := Ground.data }], guard := none },
{ dst := some 109, op := Op.move (Operand.tmp 5), type := 4, pos := "law.go:143", after := #[{ on := 7, ground := Ground.guard }], guard := some (7, true) },
{ dst := some 110, op := Op.unOp UnOp.not 4 (Operand.tmp 109), type := 4, pos := "law.go:143", after := #[{ on := 8, ground := Ground.data }, { on := 7, ground := Ground.guard }], guard := some (7, true) },
{ dst := some 111, op := Op.move (Operand.tmp 110), type := 4, pos := "law.go:143", after := #[{ on := 9, ground := Ground.data }, { on := 7, ground := Ground.chain }, { on := 7, ground := Ground.guard }], guard := some (7, true) },
{ dst := some 112, op := Op.load 25 (Operand.tmp 2), type := 25, pos := "law.go:143", after := #[{ on := 10, ground := Ground.guard }], guard := some (10, false) },
{ dst := some 113, op := Op.call { callee := Callee.value (Operand.func 19), args := #[Operand.tmp 112], argTypes := #[25] }, type := 29, pos := "law.go:143", after := #[{ on := 11, ground := Ground.data }, { on := 10, ground := Ground.chain }, { on := 10, ground := Ground.guard }], guard := some (10, false) },
{ dst := some 114, op := Op.load 25 (Operand.tmp 3), type := 25, pos := "law.go:143", after := #[{ on := 10, ground := Ground.guard }], guard := some (10, false) },
{ dst := some 115, op := Op.call { callee := Callee.value (Operand.func 19), args := #[Operand.tmp 114], argTypes := #[25] }, type := 29, pos := "law.go:143", after := #[{ on := 13, ground := Ground.data }, { on := 12, ground := Ground.chain }, { on := 10, ground := Ground.guard }], guard := some (10, false) },
{ dst := some 116, op := Op.binOp BinOp.eql 29 (Operand.tmp 113) (Operand.tmp 115) 29, type := 4, pos := "law.go:143", after := #[{ on := 12, ground := Ground.data }, { on := 14, ground := Ground.data }, { on := 10, ground := Ground.guard }], guard := some (10, false) },
{ dst := some 117, op := Op.pick (Operand.tmp 111) (Operand.const (Value.bool true)) (Operand.tmp 116), type := 4, pos := "law.go:143", after := #[{ on := 10, ground := Ground.data }, { on := 15, ground := Ground.data }, { on := 7, ground := Ground.guard }], guard := some (7, true) },
{ dst := some 118, op := Op.pick (Operand.tmp 108) (Operand.tmp 117) (Operand.const (Value.bool false)), type := 4, pos := "law.go:143", after := #[{ on := 7, ground := Ground.data }, { on := 16, ground := Ground.data }], guard := none },
{ dst := some 4, op := Op.assign (Operand.tmp 118), type := 4, pos := "law.go:143", after := #[{ on := 17, ground := Ground.data }, { on := 14, ground := Ground.chain }, { on := 0, ground := Ground.phase }, { on := 1, ground := Ground.phase }, { on := 2, ground := Ground.phase }, { on := 3, ground := Ground.phase }, { on := 4, ground := Ground.phase }, { on := 5, ground := Ground.phase }, { on := 6, ground := Ground.phase }, { on := 7, ground := Ground.phase }, { on := 8, ground := Ground.phase }, { on := 9, ground := Ground.phase }, { on := 10, ground := Ground.phase }, { on := 11, ground := Ground.phase }, { on := 12, ground := Ground.phase }, { on := 13, ground := Ground.phase }, { on := 14, ground := Ground.phase }, { on := 15, ground := Ground.phase }, { on := 16, ground := Ground.phase }, { on := 17, ground := Ground.phase }], guard := none }] true) Q { tmps := List.toArray (t0 :: t1 :: .pointer (some ⟨g1, 0, none⟩) :: .pointer (some ⟨g2, 0, none⟩) :: t4 :: .bool true :: t6 :: t7 :: .slice s6 m6 c6 :: .slice s7 m7 c7 :: t10 :: t11 :: t12 :: t13 :: t14 :: t15 :: t16 :: t17 :: t18 :: t19 :: t20 :: t21 :: t22 :: t23 :: t24 :: t25 :: t26 :: t27 :: t28 :: t29 :: t30 :: t31 :: t32 :: t33 :: t34 :: t35 :: t36 :: t37 :: t38 :: t39 :: t40 :: t41 :: t42 :: t43 :: t44 :: t45 :: t46 :: t47 :: t48 :: t49 :: t50 :: t51 :: t52 :: t53 :: t54 :: t55 :: t56 :: t57 :: t58 :: t59 :: t60 :: t61 :: t62 :: t63 :: t64 :: t65 :: t66 :: t67 :: t68 :: t69 :: t70 :: t71 :: t72 :: t73 :: t74 :: t75 :: t76 :: t77 :: t78 :: t79 :: t80 :: t81 :: t82 :: t83 :: t84 :: t85 :: t86 :: t87 :: t88 :: t89 :: t90 :: t91 :: t92 :: t93 :: t94 :: t95 :: t96 :: t97 :: t98 :: t99 :: t100 :: t101 :: t102 :: t103 :: t104 :: t105 :: t106 :: t107 :: t108 :: t109 :: t110 :: t111 :: t112 :: t113 :: t114 :: t115 :: t116 :: t117 :: t118 :: []), defers := [] } V := by
  have e0 : ∀ w', Below V.heap.size V w' → w'.cell? ⟨g1, 0, none⟩ = some (.slice sa na ca) := fun w' hb => (J1.keep hb).cell 0
  have e1 : ∀ w', Below V.heap.size V w' → w'.cell? ⟨g1, 1, none⟩ = some (.slice sb nb cb) := fun w' hb => (J1.keep hb).cell 1
  have e2 : ∀ w', Below V.heap.size V w' → w'.cell? ⟨g2, 0, none⟩ = some (.slice sc nc cc) := fun w' hb => (J2.keep hb).cell 0
  have e3 : ∀ w', Below V.heap.size V w' → w'.cell? ⟨g2, 1, none⟩ = some (.slice sd nd cd) := fun w' hb => (J2.keep hb).cell 1
  have HQ := Lib.hid hQ
  clear hQ J1 J2
  refine wp_region_noPanic ?_
  go_region_held (fun w' => Below V.heap.size V w')
    (first | with_reducible assumption | with_reducible exact Below.refl _ _ | with_reducible exact (Below.refl _ _).drew)
    (first
      | (go_at_call 19
         with_reducible refine (HI1.out _ (by first | with_reducible assumption | with_reducible exact (Below.refl _ _).drew | with_reducible exact Below.refl _ _)).mono ?_
         rintro e w8 ⟨rfl, hb8⟩
         have hE8 : Below V.heap.size V w8 := by
           refine below_step ?_ ?_ hb8
           · repeat' (first | with_reducible exact Below.refl _ _ | with_reducible assumption | with_reducible exact From.out (by with_reducible assumption) | with_reducible refine Below.drew ?_ | with_reducible refine Below.setCell ?_ ?_ _ | with_reducible refine Below.alloc ?_ ?_ _ | with_reducible exact Nat.le_refl _ | omega | (simp; done) | (simp; omega) | (simp [World.drew]; done) | (simp [World.drew]; omega))
           · first | omega | (simp; done) | (simp; omega) | (simp [World.drew]; done) | (simp [World.drew]; omega)
         have z8 := hE8.size)
      | (go_at_call 19
         with_reducible refine (HI2.out _ (by first | with_reducible assumption | with_reducible exact (Below.refl _ _).drew | with_reducible exact Below.refl _ _)).mono ?_
         rintro e w9 ⟨rfl, hb9⟩
         have hE9 : Below V.heap.size V w9 := by
           refine below_step ?_ ?_ hb9
           · repeat' (first | with_reducible exact Below.refl _ _ | with_reducible assumption | with_reducible exact From.out (by with_reducible assumption) | with_reducible refine Below.drew ?_ | with_reducible refine Below.setCell ?_ ?_ _ | with_reducible refine Below.alloc ?_ ?_ _ | with_reducible exact Nat.le_refl _ | omega | (simp; done) | (simp; omega) | (simp [World.drew]; done) | (simp [World.drew]; omega))
           · first | omega | (simp; done) | (simp; omega) | (simp [World.drew]; done) | (simp [World.drew]; omega)
         have z9 := hE9.size))
  all_goals first
    | exact NoPanic.normal (HQ.out _ _ _ _ _ _ _ _ _ _ _ _ _ _ _ _ _ _ _ hE9)
    | exact NoPanic.normal (HQ.out _ _ _ _ _ _ _ _ _ _ _ _ _ _ _ _ _ _ _ hE8)
end Go.Proofs.YtokiinpegclffaaDoor.txApart
