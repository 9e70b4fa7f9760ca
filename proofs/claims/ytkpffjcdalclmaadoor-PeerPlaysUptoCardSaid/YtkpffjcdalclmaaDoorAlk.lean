/- The law's own alike, for rows whose keys are the same. -/
import Derived.Test.YtkpffjcdalclmaaDoorHrA
import Derived.Test.YtkpffjcdalclmaaDoorPeZ
namespace Go.Proofs.YtkpffjcdalclmaaDoor
open Go.RowKit
set_option linter.unusedVariables false
set_option linter.unusedSimpArgs false
set_option maxRecDepth 100000
theorem hs_loadW {ops : Array Oper} {rest : List Oper} {o : Oper} {a : Act} {w : World} {Q : Act → Prop} (hw : Region.wanted o (yielded ops a.tmps) = true) (ty : TypeId) (k : Operand) (ho : o.op = .load ty k) (b off : Nat) (hev : a.eval k = .pointer (some ⟨b, off, none⟩))
    (cs : List Value) (A : Array Value) (hA : cs.toArray = A) (d : TypeDesc) (hr : w.rangeAt b off cs) (hu : Tryd.prog.underlying ty = some d) (hd : d.isRow = true) (hi : (Tryd.prog.info? ty).map (·.size) = some cs.length)
    (h : ∀ K : Act → Prop, (∀ b, Sh (wpStill Tryd.prog ops w Q rest b) → K b) → K (a.put o.dst (.agg A))) : Sh (wpStill Tryd.prog ops w Q (o :: rest) a) := by
  subst hA
  refine hs_want hw (fun K hK => ?_)
  have hrun := run_loadAt_mid (P := Tryd.prog) w b off ty cs d hr hu hd hi
  unfold Oper.still execOp
  simp only [ho, hev, Sem.run_bind, hrun, Result.andThen_ok]
  exact (Oper.stillUpon_value o a w K _).mpr (h K hK)
set_option maxHeartbeats 8000000 in
theorem alikeR (ba bb oa ob n ca cb k na nb la lb : Nat) (kd : Int) (nc : Nat) (sa sb ha hb : Option Addr) (cna cnb cha chb nm nh : Nat) (ST : Array Value) (V : World) (t2 t3 t4 t6 t7 t8 t9 t10 t11 t12 t13 t14 t15 t16 t17 t18 t19 t20 t21 t22 t23 t24 t25 t26 t27 t28 t29 t30 t31 t32 t33 t34 t35 t36 t37 t38 t39 t40 t41 t42 t43 t44 t45 t46 t47 t48 t49 t50 t51 t52 t53 t54 t55 t56 t57 t58 t59 t60 t61 t62 t63 t64 t65 t66 t67 t68 t69 t70 t71 t72 t73 t74 t75 t76 t77 t78 t79 t80 t81 t82 t83 : Value) (Q : Exit → Act → World → Prop)
    (hk : (k : Int) < (n : Int)) (za : ba < V.heap.size) (zb : bb < V.heap.size)
    (a0 : V.cell? ⟨ba, oa + k * 106, none⟩ = some (.int .i64 kd)) (b0 : V.cell? ⟨bb, ob + k * 106, none⟩ = some (.int .i64 kd))
    (a1 : V.cell? ⟨ba, oa + k * 106 + 1, none⟩ = some (.int .u64 (nc : Int))) (b1 : V.cell? ⟨bb, ob + k * 106 + 1, none⟩ = some (.int .u64 (nc : Int)))
    (a3 : V.cell? ⟨ba, oa + k * 106 + 3, none⟩ = some (.slice sa nm cna)) (b3 : V.cell? ⟨bb, ob + k * 106 + 3, none⟩ = some (.slice sb nm cnb))
    (a5 : V.cell? ⟨ba, oa + k * 106 + 36, none⟩ = some (.slice ha nh cha)) (b5 : V.cell? ⟨bb, ob + k * 106 + 36, none⟩ = some (.slice hb nh chb))
    (HSa : Hid (V.drew.rangeAt ba (oa + k * 106 + 4) ST.toList)) (HSb : Hid (V.drew.rangeAt bb (ob + k * 106 + 4) ST.toList)) (HSL : Hid ((Tryd.prog.info? 50).map (·.size) = some ST.toList.length))
    (hgd : ∀ (a b : Operand) W, (eqGuard .neq 50 a b (.agg ST) (.agg ST)).run Tryd.prog W = .ok () W) (hbn : ∀ W, (binOp .neq 50 (.agg ST) (.agg ST)).run Tryd.prog W = .ok (.bool false) W)
    (HQ : Hid (∀ (x16 x17 x18 x19 x20 x21 x22 x23 x24 x25 x26 x27 x28 x29 x30 x31 x32 x33 x34 x35 x36 x37 x38 x39 x40 x41 x42 x43 x44 x45 x46 x47 x48 x49 x50 x51 x52 x53 x54 x55 x56 x57 x58 x59 x60 x61 x62 x63 x64 x65 x66 x67 x68 x69 x70 x71 x72 x73 x74 x75 x76 x77 x78 x79 x80 x81 : Value)  , Q .normal { tmps := List.toArray (.slice (some ⟨ba, oa, none⟩) n ca :: .slice (some ⟨bb, ob, none⟩) n cb :: t2 :: t3 :: t4 :: .int .i64 (k : Int) :: t6 :: t7 :: t8 :: t9 :: t10 :: t11 :: t12 :: t13 :: t14 :: t15 :: x16 :: x17 :: x18 :: x19 :: x20 :: x21 :: x22 :: x23 :: x24 :: x25 :: x26 :: x27 :: x28 :: x29 :: x30 :: x31 :: x32 :: x33 :: x34 :: x35 :: x36 :: x37 :: x38 :: x39 :: x40 :: x41 :: x42 :: x43 :: x44 :: x45 :: x46 :: x47 :: x48 :: x49 :: x50 :: x51 :: x52 :: x53 :: x54 :: x55 :: x56 :: x57 :: x58 :: x59 :: x60 :: x61 :: x62 :: x63 :: x64 :: x65 :: x66 :: x67 :: x68 :: x69 :: x70 :: x71 :: x72 :: x73 :: x74 :: x75 :: x76 :: x77 :: x78 :: x79 :: x80 :: x81 :: .bool false :: t83 :: []), defers := [] } V.drew)) :
    Code.wp Tryd.prog (Code.region 6 #[{ dst := some 16, op := Op.move (Operand.tmp 0), type := 27, pos := "law.go:129", after := #[], guard := none },
{ dst := some 17, op := Op.move (Operand.tmp 5), type := 3, pos := "law.go:129", after := #[], guard := none },
{ dst := some 18, op := Op.indexAddr 27 (Operand.tmp 16) (Operand.tmp 17), type := 0, pos := "law.go:129", after := #[{ on := 0, ground := Ground.data }, { on := 1, ground := Ground.data }], guard := none },
{ dst := some 19, op := Op.fieldAddr 58 (Operand.tmp 18) 0, type := 0, pos := "law.go:129", after := #[{ on := 2, ground := Ground.data }], guard := none },
{ dst := some 20, op := Op.load 3 (Operand.tmp 19), type := 3, pos := "law.go:129", after := #[{ on := 3, ground := Ground.data }], guard := none },
{ dst := some 21, op := Op.move (Operand.tmp 1), type := 27, pos := "law.go:129", after := #[], guard := none },
{ dst := some 22, op := Op.move (Operand.tmp 5), type := 3, pos := "law.go:129", after := #[], guard := none },
{ dst := some 23, op := Op.indexAddr 27 (Operand.tmp 21) (Operand.tmp 22), type := 0, pos := "law.go:129", after := #[{ on := 5, ground := Ground.data }, { on := 6, ground := Ground.data }], guard := none },
{ dst := some 24, op := Op.fieldAddr 58 (Operand.tmp 23) 0, type := 0, pos := "law.go:129", after := #[{ on := 7, ground := Ground.data }], guard := none },
{ dst := some 25, op := Op.load 3 (Operand.tmp 24), type := 3, pos := "law.go:129", after := #[{ on := 8, ground := Ground.data }], guard := none },
{ dst := some 26, op := Op.binOp BinOp.neq 3 (Operand.tmp 20) (Operand.tmp 25) 3, type := 4, pos := "law.go:129", after := #[{ on := 4, ground := Ground.data }, { on := 9, ground := Ground.data }], guard := none },
{ dst := some 27, op := Op.move (Operand.tmp 26), type := 4, pos := "law.go:129", after := #[{ on := 10, ground := Ground.data }], guard := none },
{ dst := some 28, op := Op.move (Operand.tmp 0), type := 27, pos := "law.go:129", after := #[{ on := 11, ground := Ground.guard }], guard := some (11, false) },
{ dst := some 29, op := Op.move (Operand.tmp 5), type := 3, pos := "law.go:129", after := #[{ on := 11, ground := Ground.guard }], guard := some (11, false) },
{ dst := some 30, op := Op.indexAddr 27 (Operand.tmp 28) (Operand.tmp 29), type := 0, pos := "law.go:129", after := #[{ on := 12, ground := Ground.data }, { on := 13, ground := Ground.data }, { on := 11, ground := Ground.guard }], guard := some (11, false) },
{ dst := some 31, op := Op.fieldAddr 58 (Operand.tmp 30) 1, type := 0, pos := "law.go:129", after := #[{ on := 14, ground := Ground.data }, { on := 11, ground := Ground.guard }], guard := some (11, false) },
{ dst := some 32, op := Op.load 22 (Operand.tmp 31), type := 22, pos := "law.go:129", after := #[{ on := 15, ground := Ground.data }, { on := 11, ground := Ground.guard }], guard := some (11, false) },
{ dst := some 33, op := Op.move (Operand.tmp 1), type := 27, pos := "law.go:129", after := #[{ on := 11, ground := Ground.guard }], guard := some (11, false) },
{ dst := some 34, op := Op.move (Operand.tmp 5), type := 3, pos := "law.go:129", after := #[{ on := 11, ground := Ground.guard }], guard := some (11, false) },
{ dst := some 35, op := Op.indexAddr 27 (Operand.tmp 33) (Operand.tmp 34), type := 0, pos := "law.go:129", after := #[{ on := 17, ground := Ground.data }, { on := 18, ground := Ground.data }, { on := 11, ground := Ground.guard }], guard := some (11, false) },
{ dst := some 36, op := Op.fieldAddr 58 (Operand.tmp 35) 1, type := 0, pos := "law.go:129", after := #[{ on := 19, ground := Ground.data }, { on := 11, ground := Ground.guard }], guard := some (11, false) },
{ dst := some 37, op := Op.load 22 (Operand.tmp 36), type := 22, pos := "law.go:129", after := #[{ on := 20, ground := Ground.data }, { on := 11, ground := Ground.guard }], guard := some (11, false) },
{ dst := some 38, op := Op.binOp BinOp.neq 22 (Operand.tmp 32) (Operand.tmp 37) 22, type := 4, pos := "law.go:129", after := #[{ on := 16, ground := Ground.data }, { on := 21, ground := Ground.data }, { on := 11, ground := Ground.guard }], guard := some (11, false) },
{ dst := some 39, op := Op.pick (Operand.tmp 27) (Operand.const (Value.bool true)) (Operand.tmp 38), type := 4, pos := "law.go:129", after := #[{ on := 11, ground := Ground.data }, { on := 22, ground := Ground.data }], guard := none },
{ dst := some 40, op := Op.move (Operand.tmp 39), type := 4, pos := "law.go:129", after := #[{ on := 23, ground := Ground.data }, { on := 11, ground := Ground.chain }], guard := none },
{ dst := some 41, op := Op.move (Operand.tmp 0), type := 27, pos := "law.go:129", after := #[{ on := 24, ground := Ground.guard }], guard := some (24, false) },
{ dst := some 42, op := Op.move (Operand.tmp 5), type := 3, pos := "law.go:129", after := #[{ on := 24, ground := Ground.guard }], guard := some (24, false) },
{ dst := some 43, op := Op.indexAddr 27 (Operand.tmp 41) (Operand.tmp 42), type := 0, pos := "law.go:129", after := #[{ on := 25, ground := Ground.data }, { on := 26, ground := Ground.data }, { on := 24, ground := Ground.guard }], guard := some (24, false) },
{ dst := some 44, op := Op.fieldAddr 58 (Operand.tmp 43) 4, type := 0, pos := "law.go:129", after := #[{ on := 27, ground := Ground.data }, { on := 24, ground := Ground.guard }], guard := some (24, false) },
{ dst := some 45, op := Op.load 50 (Operand.tmp 44), type := 50, pos := "law.go:129", after := #[{ on := 28, ground := Ground.data }, { on := 24, ground := Ground.guard }], guard := some (24, false) },
{ dst := some 46, op := Op.move (Operand.tmp 1), type := 27, pos := "law.go:129", after := #[{ on := 24, ground := Ground.guard }], guard := some (24, false) },
{ dst := some 47, op := Op.move (Operand.tmp 5), type := 3, pos := "law.go:129", after := #[{ on := 24, ground := Ground.guard }], guard := some (24, false) },
{ dst := some 48, op := Op.indexAddr 27 (Operand.tmp 46) (Operand.tmp 47), type := 0, pos := "law.go:129", after := #[{ on := 30, ground := Ground.data }, { on := 31, ground := Ground.data }, { on := 24, ground := Ground.guard }], guard := some (24, false) },
{ dst := some 49, op := Op.fieldAddr 58 (Operand.tmp 48) 4, type := 0, pos := "law.go:129", after := #[{ on := 32, ground := Ground.data }, { on := 24, ground := Ground.guard }], guard := some (24, false) },
{ dst := some 50, op := Op.load 50 (Operand.tmp 49), type := 50, pos := "law.go:129", after := #[{ on := 33, ground := Ground.data }, { on := 24, ground := Ground.guard }], guard := some (24, false) },
{ dst := some 51, op := Op.binOp BinOp.neq 50 (Operand.tmp 45) (Operand.tmp 50) 50, type := 4, pos := "law.go:129", after := #[{ on := 29, ground := Ground.data }, { on := 34, ground := Ground.data }, { on := 24, ground := Ground.guard }], guard := some (24, false) },
{ dst := some 52, op := Op.pick (Operand.tmp 40) (Operand.const (Value.bool true)) (Operand.tmp 51), type := 4, pos := "law.go:129", after := #[{ on := 24, ground := Ground.data }, { on := 35, ground := Ground.data }], guard := none },
{ dst := some 53, op := Op.move (Operand.tmp 52), type := 4, pos := "law.go:129", after := #[{ on := 36, ground := Ground.data }, { on := 24, ground := Ground.chain }], guard := none },
{ dst := some 54, op := Op.move (Operand.tmp 0), type := 27, pos := "law.go:129", after := #[{ on := 37, ground := Ground.guard }], guard := some (37, false) },
{ dst := some 55, op := Op.move (Operand.tmp 5), type := 3, pos := "law.go:129", after := #[{ on := 37, ground := Ground.guard }], guard := some (37, false) },
{ dst := some 56, op := Op.indexAddr 27 (Operand.tmp 54) (Operand.tmp 55), type := 0, pos := "law.go:129", after := #[{ on := 38, ground := Ground.data }, { on := 39, ground := Ground.data }, { on := 37, ground := Ground.guard }], guard := some (37, false) },
{ dst := some 57, op := Op.fieldAddr 58 (Operand.tmp 56) 3, type := 0, pos := "law.go:129", after := #[{ on := 40, ground := Ground.data }, { on := 37, ground := Ground.guard }], guard := some (37, false) },
{ dst := some 58, op := Op.load 48 (Operand.tmp 57), type := 48, pos := "law.go:129", after := #[{ on := 41, ground := Ground.data }, { on := 37, ground := Ground.guard }], guard := some (37, false) },
{ dst := some 59, op := Op.call { callee := Callee.builtin Builtin.len, args := #[Operand.tmp 58], argTypes := #[48] }, type := 3, pos := "law.go:129", after := #[{ on := 42, ground := Ground.data }, { on := 37, ground := Ground.guard }], guard := some (37, false) },
{ dst := some 60, op := Op.move (Operand.tmp 1), type := 27, pos := "law.go:129", after := #[{ on := 37, ground := Ground.guard }], guard := some (37, false) },
{ dst := some 61, op := Op.move (Operand.tmp 5), type := 3, pos := "law.go:129", after := #[{ on := 37, ground := Ground.guard }], guard := some (37, false) },
{ dst := some 62, op := Op.indexAddr 27 (Operand.tmp 60) (Operand.tmp 61), type := 0, pos := "law.go:129", after := #[{ on := 44, ground := Ground.data }, { on := 45, ground := Ground.data }, { on := 37, ground := Ground.guard }], guard := some (37, false) },
{ dst := some 63, op := Op.fieldAddr 58 (Operand.tmp 62) 3, type := 0, pos := "law.go:129", after := #[{ on := 46, ground := Ground.data }, { on := 37, ground := Ground.guard }], guard := some (37, false) },
{ dst := some 64, op := Op.load 48 (Operand.tmp 63), type := 48, pos := "law.go:129", after := #[{ on := 47, ground := Ground.data }, { on := 37, ground := Ground.guard }], guard := some (37, false) },
{ dst := some 65, op := Op.call { callee := Callee.builtin Builtin.len, args := #[Operand.tmp 64], argTypes := #[48] }, type := 3, pos := "law.go:129", after := #[{ on := 48, ground := Ground.data }, { on := 37, ground := Ground.guard }], guard := some (37, false) },
{ dst := some 66, op := Op.binOp BinOp.neq 3 (Operand.tmp 59) (Operand.tmp 65) 3, type := 4, pos := "law.go:129", after := #[{ on := 43, ground := Ground.data }, { on := 49, ground := Ground.data }, { on := 37, ground := Ground.guard }], guard := some (37, false) },
{ dst := some 67, op := Op.pick (Operand.tmp 53) (Operand.const (Value.bool true)) (Operand.tmp 66), type := 4, pos := "law.go:129", after := #[{ on := 37, ground := Ground.data }, { on := 50, ground := Ground.data }], guard := none },
{ dst := some 68, op := Op.move (Operand.tmp 67), type := 4, pos := "law.go:129", after := #[{ on := 51, ground := Ground.data }, { on := 37, ground := Ground.chain }], guard := none },
{ dst := some 69, op := Op.move (Operand.tmp 0), type := 27, pos := "law.go:129", after := #[{ on := 52, ground := Ground.guard }], guard := some (52, false) },
{ dst := some 70, op := Op.move (Operand.tmp 5), type := 3, pos := "law.go:129", after := #[{ on := 52, ground := Ground.guard }], guard := some (52, false) },
{ dst := some 71, op := Op.indexAddr 27 (Operand.tmp 69) (Operand.tmp 70), type := 0, pos := "law.go:129", after := #[{ on := 53, ground := Ground.data }, { on := 54, ground := Ground.data }, { on := 52, ground := Ground.guard }], guard := some (52, false) },
{ dst := some 72, op := Op.fieldAddr 58 (Operand.tmp 71) 5, type := 0, pos := "law.go:129", after := #[{ on := 55, ground := Ground.data }, { on := 52, ground := Ground.guard }], guard := some (52, false) },
{ dst := some 73, op := Op.load 51 (Operand.tmp 72), type := 51, pos := "law.go:129", after := #[{ on := 56, ground := Ground.data }, { on := 52, ground := Ground.guard }], guard := some (52, false) },
{ dst := some 74, op := Op.call { callee := Callee.builtin Builtin.len, args := #[Operand.tmp 73], argTypes := #[51] }, type := 3, pos := "law.go:129", after := #[{ on := 57, ground := Ground.data }, { on := 52, ground := Ground.guard }], guard := some (52, false) },
{ dst := some 75, op := Op.move (Operand.tmp 1), type := 27, pos := "law.go:129", after := #[{ on := 52, ground := Ground.guard }], guard := some (52, false) },
{ dst := some 76, op := Op.move (Operand.tmp 5), type := 3, pos := "law.go:129", after := #[{ on := 52, ground := Ground.guard }], guard := some (52, false) },
{ dst := some 77, op := Op.indexAddr 27 (Operand.tmp 75) (Operand.tmp 76), type := 0, pos := "law.go:129", after := #[{ on := 59, ground := Ground.data }, { on := 60, ground := Ground.data }, { on := 52, ground := Ground.guard }], guard := some (52, false) },
{ dst := some 78, op := Op.fieldAddr 58 (Operand.tmp 77) 5, type := 0, pos := "law.go:129", after := #[{ on := 61, ground := Ground.data }, { on := 52, ground := Ground.guard }], guard := some (52, false) },
{ dst := some 79, op := Op.load 51 (Operand.tmp 78), type := 51, pos := "law.go:129", after := #[{ on := 62, ground := Ground.data }, { on := 52, ground := Ground.guard }], guard := some (52, false) },
{ dst := some 80, op := Op.call { callee := Callee.builtin Builtin.len, args := #[Operand.tmp 79], argTypes := #[51] }, type := 3, pos := "law.go:129", after := #[{ on := 63, ground := Ground.data }, { on := 52, ground := Ground.guard }], guard := some (52, false) },
{ dst := some 81, op := Op.binOp BinOp.neq 3 (Operand.tmp 74) (Operand.tmp 80) 3, type := 4, pos := "law.go:129", after := #[{ on := 58, ground := Ground.data }, { on := 64, ground := Ground.data }, { on := 52, ground := Ground.guard }], guard := some (52, false) },
{ dst := some 82, op := Op.pick (Operand.tmp 68) (Operand.const (Value.bool true)) (Operand.tmp 81), type := 4, pos := "law.go:129", after := #[{ on := 52, ground := Ground.data }, { on := 65, ground := Ground.data }], guard := none }] true) Q { tmps := List.toArray (.slice (some ⟨ba, oa, none⟩) n ca :: .slice (some ⟨bb, ob, none⟩) n cb :: t2 :: t3 :: t4 :: .int .i64 (k : Int) :: t6 :: t7 :: t8 :: t9 :: t10 :: t11 :: t12 :: t13 :: t14 :: t15 :: t16 :: t17 :: t18 :: t19 :: t20 :: t21 :: t22 :: t23 :: t24 :: t25 :: t26 :: t27 :: t28 :: t29 :: t30 :: t31 :: t32 :: t33 :: t34 :: t35 :: t36 :: t37 :: t38 :: t39 :: t40 :: t41 :: t42 :: t43 :: t44 :: t45 :: t46 :: t47 :: t48 :: t49 :: t50 :: t51 :: t52 :: t53 :: t54 :: t55 :: t56 :: t57 :: t58 :: t59 :: t60 :: t61 :: t62 :: t63 :: t64 :: t65 :: t66 :: t67 :: t68 :: t69 :: t70 :: t71 :: t72 :: t73 :: t74 :: t75 :: t76 :: t77 :: t78 :: t79 :: t80 :: t81 :: t82 :: t83 :: []), defers := [] } V := by
  have e1 : (kd != kd) = false := bne_self_eq_false kd
  refine wp_region_still_lit (by kernel_rfl) (by kernel_rfl) ?_
  refine Sh.out ?_
  iterate 12 (refine hs_step fun K hK => ?_; go_simp; refine hK _ ?_; clear hK K)
  iterate 11 (refine hs_want (by kernel_rfl) fun K hK => ?_; go_simp; refine hK _ ?_; clear hK K)
  iterate 2 (refine hs_step fun K hK => ?_; go_simp; refine hK _ ?_; clear hK K)
  iterate 4 (refine hs_want (by kernel_rfl) fun K hK => ?_; go_simp; refine hK _ ?_; clear hK K)
  (refine hs_loadW (by kernel_rfl) 50 (.tmp 44) rfl ba (oa + k * 106 + 4) rfl ST.toList ST Array.toArray_toList _ HSa.out Tryd.underlying50 rfl HSL.out (fun K hK => ?_)
   go_simp
   refine hK _ ?_
   clear hK K)
  iterate 4 (refine hs_want (by kernel_rfl) fun K hK => ?_; go_simp; refine hK _ ?_; clear hK K)
  (refine hs_loadW (by kernel_rfl) 50 (.tmp 49) rfl bb (ob + k * 106 + 4) rfl ST.toList ST Array.toArray_toList _ HSb.out Tryd.underlying50 rfl HSL.out (fun K hK => ?_)
   go_simp
   refine hK _ ?_
   clear hK K)
  (refine hs_want (by kernel_rfl) fun K hK => ?_; go_simp; refine hK _ ?_; clear hK K)
  iterate 2 (refine hs_step fun K hK => ?_; go_simp; refine hK _ ?_; clear hK K)
  iterate 13 (refine hs_want (by kernel_rfl) fun K hK => ?_; go_simp; refine hK _ ?_; clear hK K)
  iterate 2 (refine hs_step fun K hK => ?_; go_simp; refine hK _ ?_; clear hK K)
  iterate 13 (refine hs_want (by kernel_rfl) fun K hK => ?_; go_simp; refine hK _ ?_; clear hK K)
  (refine hs_step fun K hK => ?_; go_simp; refine hK _ ?_; clear hK K)
  refine hs_nil ?_
  exact HQ.out _ _ _ _ _ _ _ _ _ _ _ _ _ _ _ _ _ _ _ _ _ _ _ _ _ _ _ _ _ _ _ _ _ _ _ _ _ _ _ _ _ _ _ _ _ _ _ _ _ _ _ _ _ _ _ _ _ _ _ _ _ _ _ _ _ _
theorem st_range {w : World} {b o : Nat} {m : MsM} (h : w.rangeAt b o (msL m)) : w.rangeAt b (o + 4) (idA m.st.1).toList := fun j v hv => by
  have h1 : (msL m)[4 + j]? = some v := by
    unfold msL
    rw [show 4 + j = j + 1 + 1 + 1 + 1 by omega]
    simp only [List.getElem?_cons_succ]
    have hj := (List.getElem?_eq_some_iff.1 hv).1
    unfold idA at hv hj
    rw [List.toList_toArray] at hv hj
    rw [List.getElem?_append_left hj]
    exact hv
  have h2 := h (4 + j) v h1
  rw [← Nat.add_assoc] at h2
  exact h2
theorem hv_cell {w : World} {b o : Nat} {m : MsM} (h : w.rangeAt b o (msL m)) : w.cell? ⟨b, o + 36, none⟩ = some (.slice m.hs m.hd.length m.ch) := by
  have h1 := msL_36 m
  rw [List.getElem?_toArray] at h1
  exact h 36 _ h1
theorem id_infoS : (Tryd.prog.info? 50).map (·.size) = some 32 := by kernel_rfl
set_option maxHeartbeats 8000000 in
theorem alike_any (sa sb : Option Addr) (n n2 ca cb : Nat) (A B : List MsI) (w : World) (hA : RowV msR w w.heap.size (.slice sa n ca) A) (hB : RowV msR w w.heap.size (.slice sb n2 cb) B) (hk : keysM A = keysM B) :
    Calls Tryd.prog 16 #[.slice sa n ca, .slice sb n2 cb] w fun r w' => r = .returned (.bool true) ∧ Below w.heap.size w w' := by
  have hna : n = A.length := by obtain ⟨s, cap, e, _⟩ := hA; injection e
  have hnb : n2 = B.length := by obtain ⟨s, cap, e, _⟩ := hB; injection e
  have hl : A.length = B.length := by
    have h := congrArg List.length hk
    unfold keysM at h
    rwa [List.length_map, List.length_map] at h
  obtain rfl : n = n2 := by omega
  have h63 : n < 9223372036854775808 := by
    obtain ⟨_, _, e, h1, h2, _⟩ := hA
    omega
  have HR : Hid (∀ k, k < n → ∃ (x y : MsI) (ba oa bb ob : Nat), sa = some ⟨ba, oa, none⟩ ∧ sb = some ⟨bb, ob, none⟩ ∧ ba < w.heap.size ∧ bb < w.heap.size ∧ w.rangeAt ba (oa + k * 106) (msL x.1) ∧ w.rangeAt bb (ob + k * 106) (msL y.1) ∧ keyM x.1 = keyM y.1) := by
    intro k hkn
    obtain ⟨x, ba, oa, hx, h1, h2, h3⟩ := row_at (show RowV msR w w.heap.size (.slice sa A.length ca) A from by rw [← hna]; exact hA) k (by omega)
    obtain ⟨y, bb, ob, hy, h4, h5, h6⟩ := row_at (show RowV msR w w.heap.size (.slice sb B.length cb) B from by rw [← hnb]; exact hB) k (by omega)
    refine ⟨x, y, ba, oa, bb, ob, h1, h4, h2, h5, h3, h6, ?_⟩
    have h7 : (keysM A)[k]? = (keysM B)[k]? := by rw [hk]
    unfold keysM at h7
    rw [List.getElem?_map, List.getElem?_map, hx, hy] at h7
    exact Option.some.inj h7
  clear hA hB hk hna hnb hl
  go_enter Tryd.func16, Tryd.ntmps16
  go_wp2_with fail
  go_loopw [13] (fun i wr => ∃ (k : Nat), k ≤ n ∧ i = .int .i64 k ∧ Hid (Below w.heap.size w wr)) (fun i _ => n - (intOf i).toNat)
  case atStart => exact ⟨0, Nat.zero_le _, rfl, Below.refl _ _⟩
  case round =>
    obtain ⟨k, hk, rfl, HB⟩ := hrel
    by_cases hlt : k < n
    · obtain ⟨x, y, ba, oa, bb, ob, rfl, rfl, hba, hbb, hra, hrb, hkey⟩ := HR.out k hlt
      have j1 : decide ((k : Int) < (n : Int)) = true := decide_eq_true (by omega)
      replace hra := rr_below hra HB.out hba
      replace hrb := rr_below hrb HB.out hbb
      have za : ba < wr.heap.size := Nat.lt_of_lt_of_le hba HB.out.size
      have zb : bb < wr.heap.size := Nat.lt_of_lt_of_le hbb HB.out.size
      have k0 : x.1.kd = y.1.kd := congrArg (fun q : KeyM => q.1) hkey
      have k1 : x.1.nc = y.1.nc := congrArg (fun q : KeyM => q.2.1) hkey
      have k2 : x.1.st.1 = y.1.st.1 := congrArg (fun q : KeyM => q.2.2.1) hkey
      have k3 : x.1.nm.length = y.1.nm.length := congrArg (fun q : KeyM => q.2.2.2.1) hkey
      have k4 : x.1.hd.length = y.1.hd.length := congrArg (fun q : KeyM => q.2.2.2.2) hkey
      have a0 : wr.cell? ⟨ba, oa + k * 106, none⟩ = some (.int .i64 x.1.kd) := hra 0 _ rfl
      have b0 : wr.cell? ⟨bb, ob + k * 106, none⟩ = some (.int .i64 x.1.kd) := by rw [k0]; exact hrb 0 _ rfl
      have a1 : wr.cell? ⟨ba, oa + k * 106 + 1, none⟩ = some (.int .u64 (x.1.nc : Int)) := hra 1 _ rfl
      have b1 : wr.cell? ⟨bb, ob + k * 106 + 1, none⟩ = some (.int .u64 (x.1.nc : Int)) := by rw [k1]; exact hrb 1 _ rfl
      have a3 : wr.cell? ⟨ba, oa + k * 106 + 3, none⟩ = some (.slice x.1.ns x.1.nm.length x.1.cn) := hra 3 _ rfl
      have b3 : wr.cell? ⟨bb, ob + k * 106 + 3, none⟩ = some (.slice y.1.ns x.1.nm.length y.1.cn) := by rw [k3]; exact hrb 3 _ rfl
      have a5 := hv_cell hra
      have b5 : wr.cell? ⟨bb, ob + k * 106 + 36, none⟩ = some (.slice y.1.hs x.1.hd.length y.1.ch) := by rw [k4]; exact hv_cell hrb
      have HSa : Hid (wr.drew.rangeAt ba (oa + k * 106 + 4) (idA x.1.st.1).toList) := st_range hra
      have HSb : Hid (wr.drew.rangeAt bb (ob + k * 106 + 4) (idA x.1.st.1).toList) := by
        rw [k2]
        exact st_range hrb
      have HSL : Hid ((Tryd.prog.info? 50).map (·.size) = some (idA x.1.st.1).toList.length) := by
        show _ = _
        rw [id_infoS]
        unfold idA
        rw [List.toList_toArray, List.length_map, x.1.st.2.1]
      have hgd : ∀ (a b : Operand) W, (eqGuard .neq 50 a b (.agg (idA x.1.st.1)) (.agg (idA x.1.st.1))).run Tryd.prog W = .ok () W := fun a b W => id_guard _ _ _ a b W
      have hbn : ∀ W, (binOp .neq 50 (.agg (idA x.1.st.1)) (.agg (idA x.1.st.1))).run Tryd.prog W = .ok (.bool false) W := fun W => by
        have h := arr_neq 50 32 x.1.st.1 x.1.st.1 x.1.st.2.1 x.1.st.2.1 Tryd.underlying50 W (fun f g h => run_equalIn_arr (P := Tryd.prog) W 9998 50 5 32 .u8 _ _ f g (by kernel_rfl) (by kernel_rfl) (by kernel_rfl) h)
        rw [decide_eq_true rfl] at h
        exact h
      have HRG := Lib.hid (fun t2 t3 t4 t6 t7 t8 t9 t10 t11 t12 t13 t14 t15 t16 t17 t18 t19 t20 t21 t22 t23 t24 t25 t26 t27 t28 t29 t30 t31 t32 t33 t34 t35 t36 t37 t38 t39 t40 t41 t42 t43 t44 t45 t46 t47 t48 t49 t50 t51 t52 t53 t54 t55 t56 t57 t58 t59 t60 t61 t62 t63 t64 t65 t66 t67 t68 t69 t70 t71 t72 t73 t74 t75 t76 t77 t78 t79 t80 t81 t82 t83 Q hQ => alikeR ba bb oa ob n ca cb k 0 0 0 0 x.1.kd x.1.nc x.1.ns y.1.ns x.1.hs y.1.hs x.1.cn y.1.cn x.1.ch y.1.ch x.1.nm.length x.1.hd.length (idA x.1.st.1) wr t2 t3 t4 t6 t7 t8 t9 t10 t11 t12 t13 t14 t15 t16 t17 t18 t19 t20 t21 t22 t23 t24 t25 t26 t27 t28 t29 t30 t31 t32 t33 t34 t35 t36 t37 t38 t39 t40 t41 t42 t43 t44 t45 t46 t47 t48 t49 t50 t51 t52 t53 t54 t55 t56 t57 t58 t59 t60 t61 t62 t63 t64 t65 t66 t67 t68 t69 t70 t71 t72 t73 t74 t75 t76 t77 t78 t79 t80 t81 t82 t83 Q (by omega) za zb a0 b0 a1 b1 a3 b3 a5 b5 HSa HSb HSL hgd hbn hQ)
      clear hra hrb a0 b0 a1 b1 a3 b3 a5 b5 HSa HSb HSL hgd hbn k0 k1 k2 k3 k4 hkey
      have HBD : Hid (Below w.heap.size w wr.drew) := HB.out.drew
      go_upto_region 6 with fail
      refine HRG.out _ _ _ _ _ _ _ _ _ _ _ _ _ _ _ _ _ _ _ _ _ _ _ _ _ _ _ _ _ _ _ _ _ _ _ _ _ _ _ _ _ _ _ _ _ _ _ _ _ _ _ _ _ _ _ _ _ _ _ _ _ _ _ _ _ _ _ _ _ _ _ _ _ _ _ _ _ _ _ _ _ _ (Lib.hid (fun x16 x17 x18 x19 x20 x21 x22 x23 x24 x25 x26 x27 x28 x29 x30 x31 x32 x33 x34 x35 x36 x37 x38 x39 x40 x41 x42 x43 x44 x45 x46 x47 x48 x49 x50 x51 x52 x53 x54 x55 x56 x57 x58 x59 x60 x61 x62 x63 x64 x65 x66 x67 x68 x69 x70 x71 x72 x73 x74 x75 x76 x77 x78 x79 x80 x81 => ?_))
      clear HRG HB
      go_wp2_with fail
      go_roundw
      case rel => exact ⟨k + 1, by omega, by go_num, HBD⟩
      case measure => simp [intOf]; omega
    · have j1 : decide ((k : Int) < (n : Int)) = false := decide_eq_false (by omega)
      go_wp2_with fail
      go_ret
      exact ⟨rfl, HB.out⟩
end Go.Proofs.YtkpffjcdalclmaaDoor
