/-
  CheckOrder: the regions that take one from behind (they draw their order).
-/
import Derived.Test.YtpemljbdmbinlaaDoorRkB
import Derived.Test.YtpemljbdmbinlaaDoorCorM
namespace Go.Proofs.YtpemljbdmbinlaaDoor
open Go.RowKit
set_option linter.unusedVariables false
set_option linter.unusedSimpArgs false
set_option maxRecDepth 100000
set_option maxHeartbeats 8000000 in
theorem cor_region9 {t0 t1 t3 t4 t7 t8 t9 t10 t11 t12 t13 t14 t15 t16 t17 t18 t19 t20 t21 t22 t23 t24 t25 t26 t27 t28 t29 t30 t31 t32 t33 t34 t35 t36 t37 t38 t39 t40 t41 t42 t43 t44 t45 t46 t47 t48 t49 t50 t51 t52 t53 t54 t55 t56 t57 t58 t59 t60 t61 t62 t63 t64 t65 t66 t67 t68 t69 t70 t71 t72 t73 t74 t75 t76 t77 t78 t79 t80 t81 t82 t83 t84 t85 t86 t87 t88 t89 t90 t91 : Value} {Q : Exit → Act → World → Prop} (W : World) (g1 p5 b o ni n1 tic k j : Nat) (si su sb : Option Addr) (ci nu cu nb cb : Nat) (xs : List InM) (x : InM)
    (hK1 : Bk W g1 32 #[.slice (some ⟨b, o, none⟩) ni tic, .slice sb nb cb]) (hK5 : Bk W p5 32 #[.slice si k ci, .slice su nu cu]) (hM : MineR inR W p5 (.slice si k ci) xs) (hlen : xs.length = k) (hn1 : ni = n1 + 1) (hj : n1 = j + k) (h200 : ni ≤ 200) (hrg : W.rangeAt b (o + j * 34) (inL x)) (hbW : b < W.heap.size)
    (hQ : ∀ (x23 x24 x25 x26 x27 x28 x29 x30 x31 x32 x33 x34 x35 x36 x37 : Value) (s8 : Option Addr) (e8 : Nat) (W9 : World), x36 = .slice s8 (k + 1) e8 → MineR inR W9 p5 (.slice s8 (k + 1) e8) (xs ++ [x]) → Below p5 W W9 → (∀ b t cs, t ≠ inR.e → t ≠ 32 → Bk W b t cs → Bk W9 b t cs) → Bk W9 p5 32 #[.slice s8 (k + 1) e8, .slice su nu cu] → Q .normal { tmps := List.toArray (t0 :: t1 :: .pointer (some ⟨g1, 0, none⟩) :: t3 :: t4 :: .pointer (some ⟨p5, 0, none⟩) :: .int .i64 (k : Int) :: t7 :: t8 :: t9 :: t10 :: t11 :: t12 :: t13 :: t14 :: t15 :: t16 :: t17 :: t18 :: t19 :: t20 :: t21 :: t22 :: x23 :: x24 :: x25 :: x26 :: x27 :: x28 :: x29 :: x30 :: x31 :: x32 :: x33 :: x34 :: x35 :: x36 :: x37 :: t38 :: t39 :: t40 :: t41 :: t42 :: t43 :: t44 :: t45 :: t46 :: t47 :: t48 :: t49 :: t50 :: t51 :: t52 :: t53 :: t54 :: t55 :: t56 :: t57 :: t58 :: t59 :: t60 :: t61 :: t62 :: t63 :: t64 :: t65 :: t66 :: t67 :: t68 :: t69 :: t70 :: t71 :: t72 :: t73 :: t74 :: t75 :: t76 :: t77 :: t78 :: t79 :: t80 :: t81 :: t82 :: t83 :: t84 :: t85 :: t86 :: t87 :: t88 :: t89 :: t90 :: t91 :: []), defers := [] } W9) :
    Code.wp Tryd.prog (Code.region 9 #[{ dst := some 23, op := Op.fieldAddr 32 (Operand.tmp 5) 0, type := 0, pos := "law.go:124", after := #[], guard := none },
{ dst := some 24, op := Op.load 29 (Operand.tmp 23), type := 29, pos := "law.go:124", after := #[{ on := 0, ground := Ground.data }], guard := none },
{ dst := some 25, op := Op.fieldAddr 32 (Operand.tmp 2) 0, type := 0, pos := "law.go:124", after := #[], guard := none },
{ dst := some 26, op := Op.load 29 (Operand.tmp 25), type := 29, pos := "law.go:124", after := #[{ on := 2, ground := Ground.data }], guard := none },
{ dst := some 27, op := Op.fieldAddr 32 (Operand.tmp 2) 0, type := 0, pos := "law.go:124", after := #[], guard := none },
{ dst := some 28, op := Op.load 29 (Operand.tmp 27), type := 29, pos := "law.go:124", after := #[{ on := 4, ground := Ground.data }], guard := none },
{ dst := some 29, op := Op.call { callee := Callee.builtin Builtin.len, args := #[Operand.tmp 28], argTypes := #[29] }, type := 3, pos := "law.go:124", after := #[{ on := 5, ground := Ground.data }], guard := none },
{ dst := some 30, op := Op.binOp BinOp.sub 3 (Operand.tmp 29) (Operand.const (Value.int IntKind.i64 1)) 3, type := 3, pos := "law.go:124", after := #[{ on := 6, ground := Ground.data }], guard := none },
{ dst := some 31, op := Op.move (Operand.tmp 6), type := 3, pos := "law.go:124", after := #[], guard := none },
{ dst := some 32, op := Op.binOp BinOp.sub 3 (Operand.tmp 30) (Operand.tmp 31) 3, type := 3, pos := "law.go:124", after := #[{ on := 7, ground := Ground.data }, { on := 8, ground := Ground.data }], guard := none },
{ dst := some 33, op := Op.indexAddr 29 (Operand.tmp 26) (Operand.tmp 32), type := 0, pos := "law.go:124", after := #[{ on := 3, ground := Ground.data }, { on := 9, ground := Ground.data }], guard := none },
{ dst := some 34, op := Op.load 43 (Operand.tmp 33), type := 43, pos := "law.go:124", after := #[{ on := 10, ground := Ground.data }], guard := none },
{ dst := some 35, op := Op.buildSlice 29 1 #[(0, Operand.tmp 34)], type := 29, pos := "law.go:124", after := #[{ on := 11, ground := Ground.data }], guard := none },
{ dst := some 36, op := Op.call { callee := Callee.builtin Builtin.append, args := #[Operand.tmp 24, Operand.tmp 35], argTypes := #[29, 29] }, type := 29, pos := "law.go:124", after := #[{ on := 1, ground := Ground.data }, { on := 12, ground := Ground.data }], guard := none },
{ dst := some 37, op := Op.fieldAddr 32 (Operand.tmp 5) 0, type := 0, pos := "law.go:124", after := #[{ on := 0, ground := Ground.phase }, { on := 1, ground := Ground.phase }, { on := 2, ground := Ground.phase }, { on := 3, ground := Ground.phase }, { on := 4, ground := Ground.phase }, { on := 5, ground := Ground.phase }, { on := 6, ground := Ground.phase }, { on := 7, ground := Ground.phase }, { on := 8, ground := Ground.phase }, { on := 9, ground := Ground.phase }, { on := 10, ground := Ground.phase }, { on := 11, ground := Ground.phase }, { on := 12, ground := Ground.phase }, { on := 13, ground := Ground.phase }], guard := none },
{ dst := none, op := Op.store 29 (Operand.tmp 37) (Operand.tmp 36), type := 0, pos := "law.go:124", after := #[{ on := 14, ground := Ground.data }, { on := 13, ground := Ground.data }, { on := 13, ground := Ground.chain }, { on := 0, ground := Ground.phase }, { on := 1, ground := Ground.phase }, { on := 2, ground := Ground.phase }, { on := 3, ground := Ground.phase }, { on := 4, ground := Ground.phase }, { on := 5, ground := Ground.phase }, { on := 6, ground := Ground.phase }, { on := 7, ground := Ground.phase }, { on := 8, ground := Ground.phase }, { on := 9, ground := Ground.phase }, { on := 10, ground := Ground.phase }, { on := 11, ground := Ground.phase }, { on := 12, ground := Ground.phase }, { on := 13, ground := Ground.phase }], guard := none }] true) Q { tmps := List.toArray (t0 :: t1 :: .pointer (some ⟨g1, 0, none⟩) :: t3 :: t4 :: .pointer (some ⟨p5, 0, none⟩) :: .int .i64 (k : Int) :: t7 :: t8 :: t9 :: t10 :: t11 :: t12 :: t13 :: t14 :: t15 :: t16 :: t17 :: t18 :: t19 :: t20 :: t21 :: t22 :: t23 :: t24 :: t25 :: t26 :: t27 :: t28 :: t29 :: t30 :: t31 :: t32 :: t33 :: t34 :: t35 :: t36 :: t37 :: t38 :: t39 :: t40 :: t41 :: t42 :: t43 :: t44 :: t45 :: t46 :: t47 :: t48 :: t49 :: t50 :: t51 :: t52 :: t53 :: t54 :: t55 :: t56 :: t57 :: t58 :: t59 :: t60 :: t61 :: t62 :: t63 :: t64 :: t65 :: t66 :: t67 :: t68 :: t69 :: t70 :: t71 :: t72 :: t73 :: t74 :: t75 :: t76 :: t77 :: t78 :: t79 :: t80 :: t81 :: t82 :: t83 :: t84 :: t85 :: t86 :: t87 :: t88 :: t89 :: t90 :: t91 :: []), defers := [] } W := by
  have HQ := Lib.hid hQ
  have HM := Lib.hid hM
  have HLEN := Lib.hid hlen
  have HK5 := Lib.hid hK5
  have c1 : W.cell? ⟨g1, 0, none⟩ = some (.slice (some ⟨b, o, none⟩) ni tic) := hK1.cell 0
  have c5 : W.cell? ⟨p5, 0, none⟩ = some (.slice si k ci) := hK5.cell 0
  have z1 := hK1.lt
  have z5 := hK5.lt
  have qs1 : (ni : Int) - 1 = (n1 : Int) := by omega
  have qs2 : (n1 : Int) - (k : Int) = (j : Int) := by omega
  have qw1 : IntKind.i64.wrap (n1 : Int) = (n1 : Int) := IntWalk.i64_in _ (by omega)
  have qw2 : IntKind.i64.wrap (j : Int) = (j : Int) := IntWalk.i64_in _ (by omega)
  have jn : j < ni := by omega
  have HLK := Lib.hid (show k ≤ 200 by omega)
  obtain ⟨tin, htin⟩ : ∃ tin : TypeId, tin = 43 := ⟨_, rfl⟩
  obtain ⟨sn, hsn⟩ : ∃ sn : Nat, sn = 34 := ⟨_, rfl⟩
  have hag : ∀ w, (isAgg tin).run Tryd.prog w = .ok true w := by rw [htin]; intro w; kernel_rfl
  have hsz : ∀ w, (sizeOf tin).run Tryd.prog w = .ok sn w := by rw [htin, hsn]; intro w; kernel_rfl
  have hll : (inL x).length = 34 := inL_len x
  have hla : ∀ W' : World, W'.heap = W.heap → (loadCellsFrom ⟨b, o + j * 34, none⟩ 0 sn #[]).run Tryd.prog W' = .ok (inL x).toArray W' := by
    intro W' h
    have e := run_loadCells_list (P := Tryd.prog) W' ⟨b, o + j * 34, none⟩ (inL x) (fun q v hv => by
      rw [Addr.add_mid]
      exact heap_range h hrg q v hv)
    rw [hll] at e
    rw [hsn]
    exact e
  have hla2 := hla W.drew rfl
  have HTI := Lib.hid (show ∀ z, Op.load 43 z = Op.load tin z from fun z => by rw [htin])
  have hfo := in_fold x
  clear hQ hM hlen hK1 hK5 hn1 hj h200 hrg htin hsn
  have hti2 := HTI.out
  simp only [hti2]
  clear hti2
  refine wp_region_noPanic ?_
  go_region_law (
     (have B7 : Below W.heap.size W (W.drew.alloc (.cells (inL x).toArray 43)) := ((Below.refl _ _).drew).alloc (Nat.le_refl _) _
      have R7 := one_rowR' (x := x) inR_ok (w := W.drew.alloc (.cells (inL x).toArray 43)) (g := W.heap.size) (t := 43) (Bk.new _ _ _)
      have X7 := HM.out.keep B7
      refine step_appR inR_ok xs [x] p5 rfl (.tmp 24) (.tmp 35) rfl rfl rfl rfl X7 (Nat.le_trans (Nat.le_of_lt z5) B7.size) R7 (by have := HLEN.out; have := HLK.out; simp; omega) ?_
      rintro v8 W8 M8 B8 U8
      have KP := KeptR.app X7 U8
      have K8 := KP _ _ _ (by decide) (HK5.out.keep B7)
      have BO8 := Lib.hid (show Below p5 W W8 from (B7.mono (Nat.le_of_lt z5)).trans B8)
      have KPW := Lib.hid (show ∀ b t cs, t ≠ inR.e → Bk W b t cs → Bk W8 b t cs from fun b t cs ht h => KP b t cs ht (h.keep B7))
      obtain ⟨s8, e8, hv8⟩ := M8.slice
      have hl8 : (xs ++ [x]).length = k + 1 := by have := HLEN.out; simp; omega
      rw [hl8] at hv8
      subst hv8
      have M8 := Lib.hid M8
      have HK8 := Lib.hid K8
      have c8 : W8.cell? ⟨p5, 0, none⟩ = some (.slice si k ci) := K8.cell 0
      have f8 := K8.frozen 0
      have z8 := K8.lt
      clear KP hl8 K8))
  all_goals
    have hb := But.set_ (S := fun k => k = p5) (But.refl _ W8) (.inl rfl) 0 none (.slice s8 (k + 1) e8)
    have h1 := HK8.out.set_ 0 (.slice s8 (k + 1) e8)
    exact NoPanic.normal (HQ.out _ _ _ _ _ _ _ _ _ _ _ _ _ _ _ s8 e8 _ rfl (M8.out.but' hb HK8.out (by decide)) (BO8.out.setCell (Nat.le_refl _) _) (fun b t cs h2 h3 h4 => (KPW.out b t cs h2 h4).far (by rintro rfl; exact h3 (Bk.type_eq (KPW.out _ _ _ h2 h4) HK8.out)) _) h1)
set_option maxHeartbeats 8000000 in
theorem cor_region14 {t0 t1 t3 t4 t6 t8 t9 t10 t11 t12 t13 t14 t15 t16 t17 t18 t19 t20 t21 t22 t23 t24 t25 t26 t27 t28 t29 t30 t31 t32 t33 t34 t35 t36 t37 t38 t39 t40 t41 t42 t43 t44 t45 t46 t47 t48 t49 t50 t51 t52 t53 t54 t55 t56 t57 t58 t59 t60 t61 t62 t63 t64 t65 t66 t67 t68 t69 t70 t71 t72 t73 t74 t75 t76 t77 t78 t79 t80 t81 t82 t83 t84 t85 t86 t87 t88 t89 t90 t91 : Value} {Q : Exit → Act → World → Prop} (W : World) (g1 p5 b o ni n1 tic k j : Nat) (si su sb : Option Addr) (ci nu cu nb cb : Nat) (xs : List OutM) (x : OutM)
    (hK1 : Bk W g1 32 #[.slice sb nb cb, .slice (some ⟨b, o, none⟩) ni tic]) (hK5 : Bk W p5 32 #[.slice su nu cu, .slice si k ci]) (hM : MineR outR W p5 (.slice si k ci) xs) (hlen : xs.length = k) (hn1 : ni = n1 + 1) (hj : n1 = j + k) (h200 : ni ≤ 200) (hrg : W.rangeAt b (o + j * 33) (ouL x)) (hbW : b < W.heap.size)
    (hQ : ∀ (x45 x46 x47 x48 x49 x50 x51 x52 x53 x54 x55 x56 x57 x58 x59 : Value) (s8 : Option Addr) (e8 : Nat) (W9 : World), x58 = .slice s8 (k + 1) e8 → MineR outR W9 p5 (.slice s8 (k + 1) e8) (xs ++ [x]) → Below p5 W W9 → (∀ b t cs, t ≠ outR.e → t ≠ 32 → Bk W b t cs → Bk W9 b t cs) → Bk W9 p5 32 #[.slice su nu cu, .slice s8 (k + 1) e8] → Q .normal { tmps := List.toArray (t0 :: t1 :: .pointer (some ⟨g1, 0, none⟩) :: t3 :: t4 :: .pointer (some ⟨p5, 0, none⟩) :: t6 :: .int .i64 (k : Int) :: t8 :: t9 :: t10 :: t11 :: t12 :: t13 :: t14 :: t15 :: t16 :: t17 :: t18 :: t19 :: t20 :: t21 :: t22 :: t23 :: t24 :: t25 :: t26 :: t27 :: t28 :: t29 :: t30 :: t31 :: t32 :: t33 :: t34 :: t35 :: t36 :: t37 :: t38 :: t39 :: t40 :: t41 :: t42 :: t43 :: t44 :: x45 :: x46 :: x47 :: x48 :: x49 :: x50 :: x51 :: x52 :: x53 :: x54 :: x55 :: x56 :: x57 :: x58 :: x59 :: t60 :: t61 :: t62 :: t63 :: t64 :: t65 :: t66 :: t67 :: t68 :: t69 :: t70 :: t71 :: t72 :: t73 :: t74 :: t75 :: t76 :: t77 :: t78 :: t79 :: t80 :: t81 :: t82 :: t83 :: t84 :: t85 :: t86 :: t87 :: t88 :: t89 :: t90 :: t91 :: []), defers := [] } W9) :
    Code.wp Tryd.prog (Code.region 14 #[{ dst := some 45, op := Op.fieldAddr 32 (Operand.tmp 5) 1, type := 0, pos := "law.go:127", after := #[], guard := none },
{ dst := some 46, op := Op.load 30 (Operand.tmp 45), type := 30, pos := "law.go:127", after := #[{ on := 0, ground := Ground.data }], guard := none },
{ dst := some 47, op := Op.fieldAddr 32 (Operand.tmp 2) 1, type := 0, pos := "law.go:127", after := #[], guard := none },
{ dst := some 48, op := Op.load 30 (Operand.tmp 47), type := 30, pos := "law.go:127", after := #[{ on := 2, ground := Ground.data }], guard := none },
{ dst := some 49, op := Op.fieldAddr 32 (Operand.tmp 2) 1, type := 0, pos := "law.go:127", after := #[], guard := none },
{ dst := some 50, op := Op.load 30 (Operand.tmp 49), type := 30, pos := "law.go:127", after := #[{ on := 4, ground := Ground.data }], guard := none },
{ dst := some 51, op := Op.call { callee := Callee.builtin Builtin.len, args := #[Operand.tmp 50], argTypes := #[30] }, type := 3, pos := "law.go:127", after := #[{ on := 5, ground := Ground.data }], guard := none },
{ dst := some 52, op := Op.binOp BinOp.sub 3 (Operand.tmp 51) (Operand.const (Value.int IntKind.i64 1)) 3, type := 3, pos := "law.go:127", after := #[{ on := 6, ground := Ground.data }], guard := none },
{ dst := some 53, op := Op.move (Operand.tmp 7), type := 3, pos := "law.go:127", after := #[], guard := none },
{ dst := some 54, op := Op.binOp BinOp.sub 3 (Operand.tmp 52) (Operand.tmp 53) 3, type := 3, pos := "law.go:127", after := #[{ on := 7, ground := Ground.data }, { on := 8, ground := Ground.data }], guard := none },
{ dst := some 55, op := Op.indexAddr 30 (Operand.tmp 48) (Operand.tmp 54), type := 0, pos := "law.go:127", after := #[{ on := 3, ground := Ground.data }, { on := 9, ground := Ground.data }], guard := none },
{ dst := some 56, op := Op.load 28 (Operand.tmp 55), type := 28, pos := "law.go:127", after := #[{ on := 10, ground := Ground.data }], guard := none },
{ dst := some 57, op := Op.buildSlice 30 1 #[(0, Operand.tmp 56)], type := 30, pos := "law.go:127", after := #[{ on := 11, ground := Ground.data }], guard := none },
{ dst := some 58, op := Op.call { callee := Callee.builtin Builtin.append, args := #[Operand.tmp 46, Operand.tmp 57], argTypes := #[30, 30] }, type := 30, pos := "law.go:127", after := #[{ on := 1, ground := Ground.data }, { on := 12, ground := Ground.data }], guard := none },
{ dst := some 59, op := Op.fieldAddr 32 (Operand.tmp 5) 1, type := 0, pos := "law.go:127", after := #[{ on := 0, ground := Ground.phase }, { on := 1, ground := Ground.phase }, { on := 2, ground := Ground.phase }, { on := 3, ground := Ground.phase }, { on := 4, ground := Ground.phase }, { on := 5, ground := Ground.phase }, { on := 6, ground := Ground.phase }, { on := 7, ground := Ground.phase }, { on := 8, ground := Ground.phase }, { on := 9, ground := Ground.phase }, { on := 10, ground := Ground.phase }, { on := 11, ground := Ground.phase }, { on := 12, ground := Ground.phase }, { on := 13, ground := Ground.phase }], guard := none },
{ dst := none, op := Op.store 30 (Operand.tmp 59) (Operand.tmp 58), type := 0, pos := "law.go:127", after := #[{ on := 14, ground := Ground.data }, { on := 13, ground := Ground.data }, { on := 13, ground := Ground.chain }, { on := 0, ground := Ground.phase }, { on := 1, ground := Ground.phase }, { on := 2, ground := Ground.phase }, { on := 3, ground := Ground.phase }, { on := 4, ground := Ground.phase }, { on := 5, ground := Ground.phase }, { on := 6, ground := Ground.phase }, { on := 7, ground := Ground.phase }, { on := 8, ground := Ground.phase }, { on := 9, ground := Ground.phase }, { on := 10, ground := Ground.phase }, { on := 11, ground := Ground.phase }, { on := 12, ground := Ground.phase }, { on := 13, ground := Ground.phase }], guard := none }] true) Q { tmps := List.toArray (t0 :: t1 :: .pointer (some ⟨g1, 0, none⟩) :: t3 :: t4 :: .pointer (some ⟨p5, 0, none⟩) :: t6 :: .int .i64 (k : Int) :: t8 :: t9 :: t10 :: t11 :: t12 :: t13 :: t14 :: t15 :: t16 :: t17 :: t18 :: t19 :: t20 :: t21 :: t22 :: t23 :: t24 :: t25 :: t26 :: t27 :: t28 :: t29 :: t30 :: t31 :: t32 :: t33 :: t34 :: t35 :: t36 :: t37 :: t38 :: t39 :: t40 :: t41 :: t42 :: t43 :: t44 :: t45 :: t46 :: t47 :: t48 :: t49 :: t50 :: t51 :: t52 :: t53 :: t54 :: t55 :: t56 :: t57 :: t58 :: t59 :: t60 :: t61 :: t62 :: t63 :: t64 :: t65 :: t66 :: t67 :: t68 :: t69 :: t70 :: t71 :: t72 :: t73 :: t74 :: t75 :: t76 :: t77 :: t78 :: t79 :: t80 :: t81 :: t82 :: t83 :: t84 :: t85 :: t86 :: t87 :: t88 :: t89 :: t90 :: t91 :: []), defers := [] } W := by
  have HQ := Lib.hid hQ
  have HM := Lib.hid hM
  have HLEN := Lib.hid hlen
  have HK5 := Lib.hid hK5
  have c1 : W.cell? ⟨g1, 1, none⟩ = some (.slice (some ⟨b, o, none⟩) ni tic) := hK1.cell 1
  have c5 : W.cell? ⟨p5, 1, none⟩ = some (.slice si k ci) := hK5.cell 1
  have z1 := hK1.lt
  have z5 := hK5.lt
  have qs1 : (ni : Int) - 1 = (n1 : Int) := by omega
  have qs2 : (n1 : Int) - (k : Int) = (j : Int) := by omega
  have qw1 : IntKind.i64.wrap (n1 : Int) = (n1 : Int) := IntWalk.i64_in _ (by omega)
  have qw2 : IntKind.i64.wrap (j : Int) = (j : Int) := IntWalk.i64_in _ (by omega)
  have jn : j < ni := by omega
  have HLK := Lib.hid (show k ≤ 200 by omega)
  obtain ⟨tin, htin⟩ : ∃ tin : TypeId, tin = 28 := ⟨_, rfl⟩
  obtain ⟨sn, hsn⟩ : ∃ sn : Nat, sn = 33 := ⟨_, rfl⟩
  have hag : ∀ w, (isAgg tin).run Tryd.prog w = .ok true w := by rw [htin]; intro w; kernel_rfl
  have hsz : ∀ w, (sizeOf tin).run Tryd.prog w = .ok sn w := by rw [htin, hsn]; intro w; kernel_rfl
  have hll : (ouL x).length = 33 := ouL_len x
  have hla : ∀ W' : World, W'.heap = W.heap → (loadCellsFrom ⟨b, o + j * 33, none⟩ 0 sn #[]).run Tryd.prog W' = .ok (ouL x).toArray W' := by
    intro W' h
    have e := run_loadCells_list (P := Tryd.prog) W' ⟨b, o + j * 33, none⟩ (ouL x) (fun q v hv => by
      rw [Addr.add_mid]
      exact heap_range h hrg q v hv)
    rw [hll] at e
    rw [hsn]
    exact e
  have hla2 := hla W.drew rfl
  have HTI := Lib.hid (show ∀ z, Op.load 28 z = Op.load tin z from fun z => by rw [htin])
  have hfo := out_fold x
  clear hQ hM hlen hK1 hK5 hn1 hj h200 hrg htin hsn
  have hti2 := HTI.out
  simp only [hti2]
  clear hti2
  refine wp_region_noPanic ?_
  go_region_law (
     (have B7 : Below W.heap.size W (W.drew.alloc (.cells (ouL x).toArray 28)) := ((Below.refl _ _).drew).alloc (Nat.le_refl _) _
      have R7 := one_rowR' (x := x) outR_ok (w := W.drew.alloc (.cells (ouL x).toArray 28)) (g := W.heap.size) (t := 28) (Bk.new _ _ _)
      have X7 := HM.out.keep B7
      refine step_appR outR_ok xs [x] p5 rfl (.tmp 46) (.tmp 57) rfl rfl rfl rfl X7 (Nat.le_trans (Nat.le_of_lt z5) B7.size) R7 (by have := HLEN.out; have := HLK.out; simp; omega) ?_
      rintro v8 W8 M8 B8 U8
      have KP := KeptR.app X7 U8
      have K8 := KP _ _ _ (by decide) (HK5.out.keep B7)
      have BO8 := Lib.hid (show Below p5 W W8 from (B7.mono (Nat.le_of_lt z5)).trans B8)
      have KPW := Lib.hid (show ∀ b t cs, t ≠ outR.e → Bk W b t cs → Bk W8 b t cs from fun b t cs ht h => KP b t cs ht (h.keep B7))
      obtain ⟨s8, e8, hv8⟩ := M8.slice
      have hl8 : (xs ++ [x]).length = k + 1 := by have := HLEN.out; simp; omega
      rw [hl8] at hv8
      subst hv8
      have M8 := Lib.hid M8
      have HK8 := Lib.hid K8
      have c8 : W8.cell? ⟨p5, 1, none⟩ = some (.slice si k ci) := K8.cell 1
      have f8 := K8.frozen 1
      have z8 := K8.lt
      clear KP hl8 K8))
  all_goals
    have hb := But.set_ (S := fun k => k = p5) (But.refl _ W8) (.inl rfl) 1 none (.slice s8 (k + 1) e8)
    have h1 := HK8.out.set_ 1 (.slice s8 (k + 1) e8)
    exact NoPanic.normal (HQ.out _ _ _ _ _ _ _ _ _ _ _ _ _ _ _ s8 e8 _ rfl (M8.out.but' hb HK8.out (by decide)) (BO8.out.setCell (Nat.le_refl _) _) (fun b t cs h2 h3 h4 => (KPW.out b t cs h2 h4).far (by rintro rfl; exact h3 (Bk.type_eq (KPW.out _ _ _ h2 h4) HK8.out)) _) h1)
end Go.Proofs.YtpemljbdmbinlaaDoor
