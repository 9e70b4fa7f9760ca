/-
  CheckDoubled: the last transaction once more (a region that draws its order).
-/
import Derived.Test.YtpemljbdmbinlaaDoorChE
namespace Go.Proofs.YtpemljbdmbinlaaDoor
open Go.RowKit
set_option linter.unusedVariables false
set_option linter.unusedSimpArgs false
set_option maxRecDepth 100000
set_option maxHeartbeats 8000000 in
theorem cdo_region {t0 t1 t2 t3 t4 t6 t7 t8 t9 t10 t11 t12 t13 t14 t15 t16 t17 t18 t19 t20 t21 t22 t23 t24 t25 t26 t27 t28 t29 t30 t31 t32 t33 t34 t35 t36 t37 t38 t39 t40 t41 t42 t43 t44 t45 t46 t47 t48 t49 t50 t51 t52 t53 t54 t55 t56 t57 t58 t59 t60 t61 t62 t63 t64 t65 t66 t67 t68 t69 t70 t71 t72 t73 t74 t75 t76 t77 t78 t79 t80 t81 t82 t83 t84 t85 t86 t87 t88 t89 t90 t91 t92 t93 t94 t95 : Value} {Q : Exit → Act → World → Prop} (W : World) (T cap m n p5 lo : Nat) (M : List TxM) (x : TxM) (hd : Hd) (hh : IsHd hd) (hm : m = M.length) (hmn : m = n + 1) (n8 : n ≤ 8) (hx : M[n]? = some x)
    (hM : MineR txR W lo (.slice (some ⟨T, 0, none⟩) m cap) M) (hKB : Bk W p5 49 (blkL ⟨hd, some ⟨T, 0, none⟩, cap, M⟩).toArray) (hlo : lo ≤ p5)
    (hQ : ∀ (x59 x60 x61 x62 x63 x64 x65 x66 x67 x68 x69 x70 x71 : Value) (s8 : Option Addr) (e8 : Nat) (W9 : World), x70 = .slice s8 (m + 1) e8 → MineR txR W9 lo (.slice s8 (m + 1) e8) (M ++ [x]) → Below lo W W9 → Bk W9 p5 49 (blkL ⟨hd, s8, e8, M ++ [x]⟩).toArray → Q .normal { tmps := List.toArray (t0 :: t1 :: t2 :: t3 :: t4 :: .pointer (some ⟨p5, 0, none⟩) :: t6 :: t7 :: t8 :: t9 :: t10 :: t11 :: t12 :: t13 :: t14 :: t15 :: t16 :: t17 :: t18 :: t19 :: t20 :: t21 :: t22 :: t23 :: t24 :: t25 :: t26 :: t27 :: t28 :: t29 :: t30 :: t31 :: t32 :: t33 :: t34 :: t35 :: t36 :: t37 :: t38 :: t39 :: t40 :: t41 :: t42 :: t43 :: t44 :: t45 :: t46 :: t47 :: t48 :: t49 :: t50 :: t51 :: t52 :: t53 :: t54 :: t55 :: t56 :: t57 :: t58 :: x59 :: x60 :: x61 :: x62 :: x63 :: x64 :: x65 :: x66 :: x67 :: x68 :: x69 :: x70 :: x71 :: t72 :: t73 :: t74 :: t75 :: t76 :: t77 :: t78 :: t79 :: t80 :: t81 :: t82 :: t83 :: t84 :: t85 :: t86 :: t87 :: t88 :: t89 :: t90 :: t91 :: t92 :: t93 :: t94 :: t95 :: []), defers := [] } W9) :
    Code.wp Tryd.prog (Code.region 15 #[{ dst := some 59, op := Op.fieldAddr 49 (Operand.tmp 5) 1, type := 0, pos := "law.go:93", after := #[], guard := none },
{ dst := some 60, op := Op.load 47 (Operand.tmp 59), type := 47, pos := "law.go:93", after := #[{ on := 0, ground := Ground.data }], guard := none },
{ dst := some 61, op := Op.fieldAddr 49 (Operand.tmp 5) 1, type := 0, pos := "law.go:93", after := #[], guard := none },
{ dst := some 62, op := Op.load 47 (Operand.tmp 61), type := 47, pos := "law.go:93", after := #[{ on := 2, ground := Ground.data }], guard := none },
{ dst := some 63, op := Op.fieldAddr 49 (Operand.tmp 5) 1, type := 0, pos := "law.go:93", after := #[], guard := none },
{ dst := some 64, op := Op.load 47 (Operand.tmp 63), type := 47, pos := "law.go:93", after := #[{ on := 4, ground := Ground.data }], guard := none },
{ dst := some 65, op := Op.call { callee := Callee.builtin Builtin.len, args := #[Operand.tmp 64], argTypes := #[47] }, type := 3, pos := "law.go:93", after := #[{ on := 5, ground := Ground.data }], guard := none },
{ dst := some 66, op := Op.binOp BinOp.sub 3 (Operand.tmp 65) (Operand.const (Value.int IntKind.i64 1)) 3, type := 3, pos := "law.go:93", after := #[{ on := 6, ground := Ground.data }], guard := none },
{ dst := some 67, op := Op.indexAddr 47 (Operand.tmp 62) (Operand.tmp 66), type := 0, pos := "law.go:93", after := #[{ on := 3, ground := Ground.data }, { on := 7, ground := Ground.data }], guard := none },
{ dst := some 68, op := Op.load 32 (Operand.tmp 67), type := 32, pos := "law.go:93", after := #[{ on := 8, ground := Ground.data }], guard := none },
{ dst := some 69, op := Op.buildSlice 47 1 #[(0, Operand.tmp 68)], type := 47, pos := "law.go:93", after := #[{ on := 9, ground := Ground.data }], guard := none },
{ dst := some 70, op := Op.call { callee := Callee.builtin Builtin.append, args := #[Operand.tmp 60, Operand.tmp 69], argTypes := #[47, 47] }, type := 47, pos := "law.go:93", after := #[{ on := 1, ground := Ground.data }, { on := 10, ground := Ground.data }], guard := none },
{ dst := some 71, op := Op.fieldAddr 49 (Operand.tmp 5) 1, type := 0, pos := "law.go:93", after := #[{ on := 0, ground := Ground.phase }, { on := 1, ground := Ground.phase }, { on := 2, ground := Ground.phase }, { on := 3, ground := Ground.phase }, { on := 4, ground := Ground.phase }, { on := 5, ground := Ground.phase }, { on := 6, ground := Ground.phase }, { on := 7, ground := Ground.phase }, { on := 8, ground := Ground.phase }, { on := 9, ground := Ground.phase }, { on := 10, ground := Ground.phase }, { on := 11, ground := Ground.phase }], guard := none },
{ dst := none, op := Op.store 47 (Operand.tmp 71) (Operand.tmp 70), type := 0, pos := "law.go:93", after := #[{ on := 12, ground := Ground.data }, { on := 11, ground := Ground.data }, { on := 11, ground := Ground.chain }, { on := 0, ground := Ground.phase }, { on := 1, ground := Ground.phase }, { on := 2, ground := Ground.phase }, { on := 3, ground := Ground.phase }, { on := 4, ground := Ground.phase }, { on := 5, ground := Ground.phase }, { on := 6, ground := Ground.phase }, { on := 7, ground := Ground.phase }, { on := 8, ground := Ground.phase }, { on := 9, ground := Ground.phase }, { on := 10, ground := Ground.phase }, { on := 11, ground := Ground.phase }], guard := none }] true) Q { tmps := List.toArray (t0 :: t1 :: t2 :: t3 :: t4 :: .pointer (some ⟨p5, 0, none⟩) :: t6 :: t7 :: t8 :: t9 :: t10 :: t11 :: t12 :: t13 :: t14 :: t15 :: t16 :: t17 :: t18 :: t19 :: t20 :: t21 :: t22 :: t23 :: t24 :: t25 :: t26 :: t27 :: t28 :: t29 :: t30 :: t31 :: t32 :: t33 :: t34 :: t35 :: t36 :: t37 :: t38 :: t39 :: t40 :: t41 :: t42 :: t43 :: t44 :: t45 :: t46 :: t47 :: t48 :: t49 :: t50 :: t51 :: t52 :: t53 :: t54 :: t55 :: t56 :: t57 :: t58 :: t59 :: t60 :: t61 :: t62 :: t63 :: t64 :: t65 :: t66 :: t67 :: t68 :: t69 :: t70 :: t71 :: t72 :: t73 :: t74 :: t75 :: t76 :: t77 :: t78 :: t79 :: t80 :: t81 :: t82 :: t83 :: t84 :: t85 :: t86 :: t87 :: t88 :: t89 :: t90 :: t91 :: t92 :: t93 :: t94 :: t95 :: []), defers := [] } W := by
  have HQ := Lib.hid hQ
  have HM := Lib.hid hm
  have HMR := Lib.hid hM
  have HH := Lib.hid hh
  have HLO := Lib.hid hlo
  have hne : M ≠ [] := by rintro rfl; simp at hx
  obtain ⟨T', cap', z, e, hcz, hcm, hTlo, KT⟩ : ∃ T' cap' z, (.slice (some ⟨T, 0, none⟩) m cap : Value) = .slice (some ⟨T', 0, none⟩) M.length cap' ∧ cap' = M.length + z ∧ cap' < 9223372036854775808 ∧ lo ≤ T' ∧ Bk W T' txR.e (txR.flat (M ++ List.replicate z txR.z)).toArray := hM.resolve_left (fun h => hne h.2)
  injection e with e1 e2 e3
  obtain rfl : T = T' := by simpa using e1
  have hrr := rowr_row txR_ok KT n x hx
  have r0 := hrr 0 _ rfl
  have r1 := hrr 1 _ rfl
  change W.cell? ⟨T, 0 + n * 2 + 0, none⟩ = some x.iv at r0
  change W.cell? ⟨T, 0 + n * 2 + 1, none⟩ = some x.ov at r1
  obtain ⟨sa, na, ca, ea⟩ : ∃ s n c, x.iv = .slice s n c := ⟨_, _, _, rfl⟩
  obtain ⟨sb, nb, cb, eb⟩ : ∃ s n c, x.ov = .slice s n c := ⟨_, _, _, rfl⟩
  rw [ea, Nat.add_zero, Nat.zero_add] at r0
  rw [eb, Nat.zero_add] at r1
  have HEA := Lib.hid ea
  have HEB := Lib.hid eb
  have qs : (m : Int) - 1 = (n : Int) := by omega
  have qw : IntKind.i64.wrap (n : Int) = (n : Int) := IntWalk.i64_in _ (by omega)
  have nm : n < m := by omega
  have c68 : W.cell? ⟨p5, 68, none⟩ = some (.slice (some ⟨T, 0, none⟩) m cap) := by
    rw [hKB.cell 68, blk_68 (b := ⟨hd, some ⟨T, 0, none⟩, cap, M⟩) hh, hm]
    rfl
  have z5 := hKB.lt
  have HLW : Hid (lo ≤ W.heap.size) := Nat.le_trans hlo (Nat.le_of_lt z5)
  have HM9 := Lib.hid (show m ≤ 9 by omega)
  have HKB := Lib.hid hKB
  clear hrr hx ea eb hQ hm hM hh hlo hne e1 e2 e3 hcz hcm hTlo KT hKB hmn
  refine wp_region_noPanic ?_
  go_region_law (
     (have B7 : Below W.heap.size W (W.drew.alloc (.cells #[.slice sa na ca, .slice sb nb cb] 32)) := ((Below.refl _ _).drew).alloc (Nat.le_refl _) _
      have R7 := one_rowR' (x := x) txR_ok (w := W.drew.alloc (.cells #[.slice sa na ca, .slice sb nb cb] 32)) (g := W.heap.size) (t := 32) (by show Bk _ _ _ #[x.iv, x.ov]; rw [HEA.out, HEB.out]; exact Bk.new _ _ _)
      have X7 := HMR.out.keep B7
      refine step_appR txR_ok M [x] lo rfl (.tmp 60) (.tmp 69) rfl rfl rfl rfl X7 (Nat.le_trans HLW.out B7.size) R7 (by have := HM.out; have := HM9.out; simp; omega) ?_
      rintro v8 W8 M8 B8 U8
      have KP := KeptR.app X7 U8
      have K8 := KP _ _ _ ne_tx_blk' (HKB.out.keep B7)
      have BO8 := Lib.hid (show Below lo W W8 from (B7.mono HLW.out).trans B8)
      obtain ⟨s8, e8, hv8⟩ := M8.slice
      have hl8 : (M ++ [x]).length = m + 1 := by have := HM.out; simp; omega
      rw [hl8] at hv8
      subst hv8
      have HL8 := Lib.hid hl8
      have M8 := Lib.hid M8
      have HK8 := Lib.hid K8
      have c8 : W8.cell? ⟨p5, 68, none⟩ = some (.slice (some ⟨T, 0, none⟩) m cap) := by
        rw [K8.cell 68, blk_68 (b := ⟨hd, some ⟨T, 0, none⟩, cap, M⟩) HH.out, HM.out]
        rfl
      have f8 := K8.frozen 68
      have z8 := K8.lt
      clear KP hl8 K8))
  all_goals
    have hb := But.set_ (S := fun k => k = p5) (But.refl _ W8) (.inl rfl) 68 none (.slice s8 (m + 1) e8)
    have h1 := HK8.out.set_ 68 (.slice s8 (M ++ [x]).length e8)
    rw [blk_put_ls' _ HH.out, HL8.out] at h1
    exact NoPanic.normal (HQ.out _ _ _ _ _ _ _ _ _ _ _ _ _ s8 e8 _ rfl (M8.out.but' hb HK8.out ne_tx_blk') (BO8.out.setCell HLO.out _) h1)
end Go.Proofs.YtpemljbdmbinlaaDoor
