/-
  What is proved: for every script and every number of ticks the law WholeManners returns true, and its arguments read behind the call as they read before it; the three listed tables, two of package hash and one of package msg, are taken to hold what the program's text lays in them, and the card ties them to it.
-/
import Derived.Test.YtkpffjcdalclmaaDoorZMnR
import Derived.Test.YtkpffjcdalclmaaDoorZMnL
import Derived.Test.YtkpffjcdalclmaaDoorTie
import Derived.Test.YtkpffjcdalclmaaDoorCards
import Derived.Stop.Joined
import Derived.Deep.CutBlock
namespace Go.Proofs.YtkpffjcdalclmaaDoor.wholeManners
open Go.ChangeShapes Go.WideShapes Go.ChangeAt Go.RowKit
set_option linter.unusedVariables false

theorem own : ownKnob Tryd.prog.godebug = none := by kernel_rfl
theorem laidOut : laidOutB Tryd.prog = true := by kernel_rfl
theorem wf_i64 {z : Int} (h : (Lit.int .i64 z).wf = true) : -9223372036854775808 ≤ z ∧ z ≤ 9223372036854775807 := by
  simp [Lit.wf, IntKind.min, IntKind.max, IntKind.signed, IntKind.bits] at h
  omega
set_option maxRecDepth 100000 in
set_option maxHeartbeats 16000000 in
theorem whoR {t0 t1 t2 t3 t4 t5 t6 t7 t8 t9 t10 t11 t12 t13 t14 t15 t17 t18 t19 t20 t21 t22 t23 t24 t25 t26 t27 t28 t29 t30 t31 t32 t33 t34 t35 t36 t37 t38 t39 t40 t41 t42 t43 t44 t45 t46 t47 t48 t49 t50 t51 t52 t53 t54 t55 t56 t57 t58 t59 t60 t61 t62 t63 t64 t65 t66 t67 t68 t69 t70 t71 t72 t73 t74 t75 t76 t77 t78 t79 t80 t81 t82 t83 t84 t85 t86 t87 t88 t89 t90 t91 t92 t93 t94 t95 t96 t97 t98 t99 t100 t101 t102 t103 t104 t105 t106 t107 t108 t109 t110 t111 t112 t113 t114 t115 t116 t117 t118 t119 t120 t121 t122 t123 t124 t125 t126 t127 t128 t129 t130 t131 t132 t133 t134 t135 t136 t137 t138 t139 t140 t141 t142 t143 t144 t145 t146 t147 t148 t149 t150 t151 t152 t153 t154 t155 t156 t157 t158 t159 t160 t161 t162 t163 t164 t165 t166 t167 t168 t169 t170 t171 t172 t173 t174 t175 t176 t177 t178 t179 t180 t181 t182 t183 t184 t185 t186 t187 t188 t189 t190 t191 t192 t193 t194 t195 t196 t197 t198 t199 t200 t201 t202 t203 t204 t205 : Value} {Q : Exit → Act → World → Prop} (V : World) (g : Nat) (t : Int) (ht : -9223372036854775808 ≤ t ∧ t ≤ 9223372036854775807) (zg : g < V.heap.size) (hc : V.cell? ⟨g, 0, none⟩ = some (.int .i64 t))
    (hQ : ∀ (x76 x77 x78 x79 : Value) (z : Int), 0 ≤ z ∧ z < 5 → Q .normal { tmps := List.toArray (t0 :: t1 :: t2 :: t3 :: t4 :: t5 :: t6 :: t7 :: t8 :: t9 :: t10 :: t11 :: t12 :: t13 :: t14 :: t15 :: .pointer (some ⟨g, 0, none⟩) :: .int .i64 z :: t18 :: t19 :: t20 :: t21 :: t22 :: t23 :: t24 :: t25 :: t26 :: t27 :: t28 :: t29 :: t30 :: t31 :: t32 :: t33 :: t34 :: t35 :: t36 :: t37 :: t38 :: t39 :: t40 :: t41 :: t42 :: t43 :: t44 :: t45 :: t46 :: t47 :: t48 :: t49 :: t50 :: t51 :: t52 :: t53 :: t54 :: t55 :: t56 :: t57 :: t58 :: t59 :: t60 :: t61 :: t62 :: t63 :: t64 :: t65 :: t66 :: t67 :: t68 :: t69 :: t70 :: t71 :: t72 :: t73 :: t74 :: t75 :: x76 :: x77 :: x78 :: x79 :: t80 :: t81 :: t82 :: t83 :: t84 :: t85 :: t86 :: t87 :: t88 :: t89 :: t90 :: t91 :: t92 :: t93 :: t94 :: t95 :: t96 :: t97 :: t98 :: t99 :: t100 :: t101 :: t102 :: t103 :: t104 :: t105 :: t106 :: t107 :: t108 :: t109 :: t110 :: t111 :: t112 :: t113 :: t114 :: t115 :: t116 :: t117 :: t118 :: t119 :: t120 :: t121 :: t122 :: t123 :: t124 :: t125 :: t126 :: t127 :: t128 :: t129 :: t130 :: t131 :: t132 :: t133 :: t134 :: t135 :: t136 :: t137 :: t138 :: t139 :: t140 :: t141 :: t142 :: t143 :: t144 :: t145 :: t146 :: t147 :: t148 :: t149 :: t150 :: t151 :: t152 :: t153 :: t154 :: t155 :: t156 :: t157 :: t158 :: t159 :: t160 :: t161 :: t162 :: t163 :: t164 :: t165 :: t166 :: t167 :: t168 :: t169 :: t170 :: t171 :: t172 :: t173 :: t174 :: t175 :: t176 :: t177 :: t178 :: t179 :: t180 :: t181 :: t182 :: t183 :: t184 :: t185 :: t186 :: t187 :: t188 :: t189 :: t190 :: t191 :: t192 :: t193 :: t194 :: t195 :: t196 :: t197 :: t198 :: t199 :: t200 :: t201 :: t202 :: t203 :: t204 :: t205 :: []), defers := [] } V) :
    Code.wp Tryd.prog (Code.region 15 #[{ dst := some 76, op := Op.indexAddr 82 (Operand.tmp 16) (Operand.const (Value.int IntKind.i64 0)), type := 0, pos := "top11.go:25", after := #[], guard := none },
{ dst := some 77, op := Op.load 3 (Operand.tmp 76), type := 3, pos := "top11.go:25", after := #[{ on := 0, ground := Ground.data }], guard := none },
{ dst := some 78, op := Op.call { callee := Callee.builtin Builtin.max, args := #[Operand.const (Value.int IntKind.i64 0), Operand.tmp 77], argTypes := #[3, 3] }, type := 3, pos := "top11.go:25", after := #[{ on := 1, ground := Ground.data }], guard := none },
{ dst := some 79, op := Op.binOp BinOp.rem 3 (Operand.tmp 78) (Operand.const (Value.int IntKind.i64 5)) 3, type := 3, pos := "top11.go:25", after := #[{ on := 2, ground := Ground.data }], guard := none },
{ dst := some 17, op := Op.assign (Operand.tmp 79), type := 3, pos := "top11.go:25", after := #[{ on := 3, ground := Ground.data }, { on := 0, ground := Ground.phase }, { on := 1, ground := Ground.phase }, { on := 2, ground := Ground.phase }, { on := 3, ground := Ground.phase }], guard := none }] false) Q { tmps := List.toArray (t0 :: t1 :: t2 :: t3 :: t4 :: t5 :: t6 :: t7 :: t8 :: t9 :: t10 :: t11 :: t12 :: t13 :: t14 :: t15 :: .pointer (some ⟨g, 0, none⟩) :: t17 :: t18 :: t19 :: t20 :: t21 :: t22 :: t23 :: t24 :: t25 :: t26 :: t27 :: t28 :: t29 :: t30 :: t31 :: t32 :: t33 :: t34 :: t35 :: t36 :: t37 :: t38 :: t39 :: t40 :: t41 :: t42 :: t43 :: t44 :: t45 :: t46 :: t47 :: t48 :: t49 :: t50 :: t51 :: t52 :: t53 :: t54 :: t55 :: t56 :: t57 :: t58 :: t59 :: t60 :: t61 :: t62 :: t63 :: t64 :: t65 :: t66 :: t67 :: t68 :: t69 :: t70 :: t71 :: t72 :: t73 :: t74 :: t75 :: t76 :: t77 :: t78 :: t79 :: t80 :: t81 :: t82 :: t83 :: t84 :: t85 :: t86 :: t87 :: t88 :: t89 :: t90 :: t91 :: t92 :: t93 :: t94 :: t95 :: t96 :: t97 :: t98 :: t99 :: t100 :: t101 :: t102 :: t103 :: t104 :: t105 :: t106 :: t107 :: t108 :: t109 :: t110 :: t111 :: t112 :: t113 :: t114 :: t115 :: t116 :: t117 :: t118 :: t119 :: t120 :: t121 :: t122 :: t123 :: t124 :: t125 :: t126 :: t127 :: t128 :: t129 :: t130 :: t131 :: t132 :: t133 :: t134 :: t135 :: t136 :: t137 :: t138 :: t139 :: t140 :: t141 :: t142 :: t143 :: t144 :: t145 :: t146 :: t147 :: t148 :: t149 :: t150 :: t151 :: t152 :: t153 :: t154 :: t155 :: t156 :: t157 :: t158 :: t159 :: t160 :: t161 :: t162 :: t163 :: t164 :: t165 :: t166 :: t167 :: t168 :: t169 :: t170 :: t171 :: t172 :: t173 :: t174 :: t175 :: t176 :: t177 :: t178 :: t179 :: t180 :: t181 :: t182 :: t183 :: t184 :: t185 :: t186 :: t187 :: t188 :: t189 :: t190 :: t191 :: t192 :: t193 :: t194 :: t195 :: t196 :: t197 :: t198 :: t199 :: t200 :: t201 :: t202 :: t203 :: t204 :: t205 :: []), defers := [] } V := by
  have HQ := Lib.hid hQ
  have hr : ∀ a : Int, 0 ≤ a → 0 ≤ Int.tmod a 5 ∧ Int.tmod a 5 < 5 := fun a h => ⟨Int.tmod_nonneg _ h, Int.tmod_lt_of_pos _ (by decide)⟩
  have HR := Lib.hid hr
  clear hQ hr
  go_wp2_with fail
  all_goals refine HQ.out _ _ _ _ _ ?_
  all_goals first | decide | omega | (refine HR.out _ ?_; omega)
theorem bsn_slb {w : World} {lo : Nat} {v : Value} {xs : List Nat} {S : Nat → Prop} (h : Mine w lo v xs) (hx : ∀ x ∈ xs, x < 256) (hs : ∀ k, slb v k → ¬ S k) : BsN w S v xs := by
  obtain ⟨s, cap, e, h1, h2, h3, h4⟩ := h.bs hx
  refine ⟨s, cap, e, h1, h2, h3, fun hne => ?_⟩
  obtain ⟨b, o, e2, hb, hc⟩ := h4 hne
  exact ⟨b, o, e2, hb, hs b (by rw [e, e2]; exact slb_mk b o _ _), hc⟩
theorem bads_le (s : Int → Int) (k : Nat) : bads s k ≤ k := by
  unfold bads
  exact Nat.le_trans (List.length_filter_le _ _) (by rw [List.length_range]; exact Nat.le_refl _)
theorem wpList_mu {ops : Array Oper} {rest : List Oper} {o : Oper} {a : Act} {w W : World} {Q : Exit → Act → World → Prop} {M K' V : Value} (hg : o.guard = none) (m x v : Operand) (t : TypeId) (hop : o.op = Op.mapUpdate t m x v)
    (hm : a.eval m = M) (hx : a.eval x = K') (hv : a.eval v = V) (hrun : (Instr.mapUpdate t M K' V).run Tryd.prog w = .ok () W) (hK : wpList Tryd.prog ops Q rest (a.put o.dst undef) W) : wpList Tryd.prog ops Q (o :: rest) a w := by
  refine wpList_plain hg fun K hK' => ?_
  unfold Oper.wp
  simp [execOp, hop, hm, hx, hv, hrun, Result.andThen]
  exact hK' _ _ hK
set_option maxRecDepth 100000 in
set_option maxHeartbeats 16000000 in
theorem walk (L0 : List BanM) (un : Int) (v : Value) (w : World) (hL : LaidM w) (hR : RowV pairR w w.heap.size v L0) (hI : ∀ x ∈ L0, InI x.addr ∧ InI x.til) (hun : InI un) :
    Calls Tryd.prog 9 #[v, .int .i64 un] w fun e w' => e = .returned (.bool true) ∧ Below w.heap.size w w' := by
  obtain ⟨s0, c, rfl⟩ := hR.slice
  obtain ⟨n, hnl⟩ : ∃ n, n = L0.length := ⟨_, rfl⟩
  rw [← hnl] at hR ⊢
  have HN := Lib.hid hnl
  have HLD := Lib.hid hL
  have HI := Lib.hid hI
  have HUN := Lib.hid hun
  have HROW : Hid (∀ k, k < n → ∃ x b o, L0[k]? = some x ∧ s0 = some ⟨b, o, none⟩ ∧ b < w.heap.size ∧ w.rangeAt b (o + k * 2) (bnL x)) := by
    show ∀ k, k < n → _
    rw [hnl]
    exact row_at (show RowV pairR w w.heap.size (.slice s0 L0.length c) L0 from by rw [← hnl]; exact hR)
  have h63 : n < 9223372036854775808 := by
    obtain ⟨_, _, e, h1, h2, _⟩ := hR
    omega
  have hlo : 3 + 1 ≤ w.heap.size := hL.size
  have HLO := Lib.hid hlo
  have hmm := @run_makeMap Tryd.prog
  clear hR hI hL hnl hlo hun
  go_enter Tryd.func9, Tryd.ntmps9
  go_upto_region 2 with fail
  refine wp_any (fun W => Below w.heap.size w W ∧ Bk W w.heap.size 78 #[.slice none 0 0]) ⟨(Below.refl _ _).alloc (Nat.le_refl _) _, Bk.new _ _ _⟩ ?_
  obtain ⟨T, hT⟩ : ∃ T, T = w.heap.size := ⟨_, rfl⟩
  have HT := Lib.hid hT
  rintro W0 ⟨hb0, hT0⟩
  rw [← hT] at hT0 ⊢
  have HB0 := Lib.hid hb0
  have HT0 := Lib.hid hT0
  clear hb0 hT0 hT
  have HNW : Hid (∀ W, Calls Tryd.prog 12 #[.int .u64 1, .int .u32 0, .int .i64 0] W fun r w' => ∃ p b, r = .returned (.tuple #[.pointer (some ⟨p, 0, none⟩), .slice (some ⟨b, 0, none⟩) 1 1]) ∧ W.heap.size ≤ p ∧ PeK w' p (pe0 1 0) (.slice none 0 0) ∧ W.heap.size ≤ b ∧ Bk w' b 58 (msR.c (verM 1 0)).toArray ∧ Below W.heap.size W w') := fun W => new_any 1 0 0 W
  go_wp2_with fail
  refine (HNW.out _).mono ?_
  rintro r w2 ⟨p0, b0, rfl, hp0, hK0, hb1, hKb, hB2⟩
  have HB2 := Lib.hid (below_step HB0.out HB0.out.size hB2)
  have HT2 : Hid (Bk w2 T 78 #[.slice none 0 0]) := HT0.out.keep hB2
  have c0 : w2.cell? ⟨b0, 0, none⟩ = some (.int .i64 1) := (hKb.cell 0).trans rfl
  have zb := hKb.lt
  have HLN0 := Lib.hid (len_any T (.slice none 0 0) T [] w2 ⟨HT2.out, .inl ⟨rfl, rfl⟩⟩)
  clear hp0 hK0 hb1 hKb hB2 HB0 HT0
  go_wp2_with fail
  refine HLN0.out.mono ?_
  rintro r w3 ⟨rfl, e3⟩
  subst w3
  clear HLN0
  by_cases h60 : 60 < n
  · have d60 : decide ((60 : Int) < (n : Int)) = true := decide_eq_true (by omega)
    go_wp2_with fail
    go_ret
    exact ⟨rfl, HB2.out⟩
  have d60 : decide ((60 : Int) < (n : Int)) = false := decide_eq_false (by omega)
  by_cases hu1 : un < 1
  · have d1 : decide (un < 1) = true := decide_eq_true hu1
    go_wp2_with fail
    go_ret
    exact ⟨rfl, HB2.out⟩
  have d1 : decide (un < 1) = false := decide_eq_false hu1
  by_cases hu2 : 1000 < un
  · have d2 : decide ((1000 : Int) < un) = true := decide_eq_true hu2
    go_wp2_with fail
    go_ret
    exact ⟨rfl, HB2.out⟩
  have d2 : decide ((1000 : Int) < un) = false := decide_eq_false hu2
  have HUR : Hid (1 ≤ un ∧ un ≤ 1000) := by show _ ∧ _; omega
  go_upto_region 8 with fail
  refine wp_any (fun W => Below w2.heap.size w2 W ∧ MapF mnP W w2.heap.size 0 (fun _ => none)) ⟨(Below.refl _ _).alloc (Nat.le_refl _) _, MapF.made _⟩ ?_
  rintro W7 ⟨hb7, hmp⟩
  have HB7 := Lib.hid (below_step HB2.out HB2.out.size hb7)
  have HT7 : Hid (Bk W7 T 78 #[.slice none 0 0]) := HT2.out.keep hb7
  have HMP7 := Lib.hid hmp
  have hTP : T < w2.heap.size := HT2.out.lt
  have hwT : w.heap.size ≤ T := by rw [HT.out]; exact Nat.le_refl _
  clear hb7 hmp HB2 HT2
  generalize w2.heap.size = P at *
  go_upto_region 9 with fail
  refine wp_any (fun W => Below W7.heap.size W7 W ∧ MapF mnG W W7.heap.size 0 (fun _ => false)) ⟨(Below.refl _ _).alloc (Nat.le_refl _) _, MapF.made _⟩ ?_
  rintro W8 ⟨hb8, hmg⟩
  have HB8 := Lib.hid (below_step HB7.out HB7.out.size hb8)
  have HT8 : Hid (Bk W8 T 78 #[.slice none 0 0]) := HT7.out.keep hb8
  have HMP8 := Lib.hid (HMP7.out.keep hb8)
  have HMG8 := Lib.hid hmg
  have hPG : P < W7.heap.size := HMP7.out.lt
  clear hb8 hmg HB7 HT7 HMP7
  generalize W7.heap.size = G at *
  go_upto_region 10 with fail
  refine wp_any (fun W => Below W8.heap.size W8 W ∧ MapF mnS W W8.heap.size 0 (fun _ => 0)) ⟨(Below.refl _ _).alloc (Nat.le_refl _) _, MapF.made _⟩ ?_
  rintro W9 ⟨hb9, hms⟩
  have HB9 := Lib.hid (below_step HB8.out HB8.out.size hb9)
  have HT9 : Hid (Bk W9 T 78 #[.slice none 0 0]) := HT8.out.keep hb9
  have HMP9 := Lib.hid (HMP8.out.keep hb9)
  have HMG9 := Lib.hid (HMG8.out.keep hb9)
  have HMS9 := Lib.hid hms
  have hGS : G < W8.heap.size := HMG8.out.lt
  clear hb9 hms HB8 HT8 HMP8 HMG8
  generalize W8.heap.size = S at *
  have R8 : RowV msR (W9.alloc (.cells (msR.flat [verM 2 0, vk2]).toArray 58)) (W9.alloc (.cells (msR.flat [verM 2 0, vk2]).toArray 58)).heap.size (.slice (some ⟨W9.heap.size, 0, none⟩) 2 2) [verM 2 0, vk2] := row_built msR_ok (n := 2) (Bk.new W9 58 _) rfl (by decide)
  have B8 : Below W9.heap.size W9 (W9.alloc (.cells (msR.flat [verM 2 0, vk2]).toArray 58)) := (Below.refl _ _).alloc (Nat.le_refl _) _
  have HBB := Lib.hid B8
  have hal := mall_any (some ⟨W9.heap.size, 0, none⟩) 2 2 [verM 2 0, vk2] _ R8 (fun x hx => by
    rcases List.mem_cons.1 hx with rfl | hx
    · exact ver_ok 2 0 (by decide) (by decide) _ _
    · rw [List.mem_singleton.1 hx]; exact vk2_ok _ _) (by decide) (HLD.out.below (below_step HB9.out HB9.out.size B8) HLO.out)
  rw [hel_all] at hal
  have HAL : Hid (Calls Tryd.prog 27 #[.slice (some ⟨W9.heap.size, 0, none⟩) 2 2] (W9.alloc (.cells (msR.flat [verM 2 0, vk2]).toArray 58)) fun r w' => ∃ v', r = .returned (.tuple #[v', .int .i64 0]) ∧ Below (W9.alloc (.cells (msR.flat [verM 2 0, vk2]).toArray 58)).heap.size (W9.alloc (.cells (msR.flat [verM 2 0, vk2]).toArray 58)) w' ∧ Mine w' (W9.alloc (.cells (msR.flat [verM 2 0, vk2]).toArray 58)).heap.size v' (helB 2 0)) := hal.mono fun r w' ⟨v', e, h1, h2, _⟩ => ⟨v', e, h1, h2 rfl⟩
  clear R8 B8 hal d60 d1 d2 c0 zb
  go_wp2_with (refine wpList_bsR2 msR_ok (by decide) rfl (.tmp 59) (.tmp 60) rfl (verM 2 0) vk2 (by show Value.agg ((Tryd.zeroCells58.setIfInBounds 0 (.int .i64 1)).setIfInBounds 1 (.int .u64 2)) = _; exact congrArg Value.agg (ver_cells0 2)) (by show Value.agg (Tryd.zeroCells58.setIfInBounds 0 (.int .i64 2)) = _; rw [m2_cells]; rfl) ?_)
  refine HAL.out.mono ?_
  rintro r w4 ⟨hv, rfl, hb4, hm4⟩
  have HB94 : Hid (Below W9.heap.size W9 w4) := below_step HBB.out HBB.out.size hb4
  have HB4 := Lib.hid (below_step HB9.out HB9.out.size HB94.out)
  have hen := mencode_any vk2.1 w4 (vk2_ok w4 w4.heap.size).1 (vk2_ok w4 w4.heap.size).2 (HLD.out.below HB4.out HLO.out)
  have HEN : Hid (Calls Tryd.prog 28 #[.agg (Tryd.zeroCells58.setIfInBounds 0 (.int .i64 2))] w4 fun r w' => ∃ v', r = .returned (.tuple #[v', .int .i64 0]) ∧ Below w4.heap.size w4 w' ∧ Mine w' w4.heap.size v' (encL (kindL 2) [])) := by
    rw [m2_cells]
    exact hen.mono fun r w' ⟨v', e, h1, h2, _⟩ => ⟨v', e, h1, h2 rfl⟩
  have HM4 := Lib.hid hm4
  clear hen hb4 hm4 HAL HBB
  go_wp2_with fail
  refine HEN.out.mono ?_
  rintro r W10 ⟨av, rfl, hb5, hm5⟩
  have HB10 := Lib.hid (below_step HB4.out HB4.out.size hb5)
  have h910 : Below W9.heap.size W9 W10 := below_step HB94.out HB94.out.size hb5
  have HT10 : Hid (Bk W10 T 78 #[.slice none 0 0]) := HT9.out.keep h910
  have HMP := Lib.hid (HMP9.out.keep h910)
  have HMG := Lib.hid (HMG9.out.keep h910)
  have HMS := Lib.hid (HMS9.out.keep h910)
  have hmh := HM4.out.keep hb5
  obtain ⟨sh, ch, hvh⟩ := hmh.slice
  obtain ⟨sa, ca, hva⟩ := hm5.slice
  subst hvh
  subst hva
  obtain ⟨B0, hB0⟩ : ∃ B, B = W10.heap.size := ⟨_, rfl⟩
  have HSB : Hid (S < B0) := by show S < B0; rw [hB0]; exact HMS.out.lt
  have nk : ∀ (k : Nat) ys, Bk W10 k 5 (idA ys) → ¬ (k = P ∨ k = G ∨ k = S ∨ k = T ∨ B0 ≤ k) := fun k ys K h => by
    rcases h with h | h | h | h | h
    · subst h; exact HMP.out.nbk K
    · subst h; exact HMG.out.nbk K
    · subst h; exact HMS.out.nbk K
    · subst h; exact absurd (Bk.type_eq K HT10.out) (by decide)
    · have := K.lt; omega
  have HBH : Hid (BsN W10 (fun k => k = P ∨ k = G ∨ k = S ∨ k = T ∨ B0 ≤ k) (.slice sh (helB 2 0).length ch) (helB 2 0)) := bsn_slb hmh (helB_lt 2 0) (fun k hk => by obtain ⟨_, _, ys, K⟩ := hmh.slb_lo hk; exact nk k ys K)
  have HBA : Hid (BsN W10 (fun k => k = P ∨ k = G ∨ k = S ∨ k = T ∨ B0 ≤ k) (.slice sa (encL (kindL 2) []).length ca) (encL (kindL 2) [])) := bsn_slb hm5 (encL_lt _ _ (by decide) (by intro x hx; cases hx)) (fun k hk => by obtain ⟨_, _, ys, K⟩ := hm5.slb_lo hk; exact nk k ys K)
  have HI0 : Hid (WmI W10 B0 P G S T 0 un (-1) (fun _ => none) (fun _ => false) (fun _ => 0) (fun _ => false) (fun _ => 0) (fun _ => .slice none 0 0) (.slice none 0 0) []) := {
    mp := HMP.out
    mg := HMG.out
    ms := HMS.out
    pe := fun i p h => by cases h
    no := fun i h => ⟨rfl, rfl, rfl⟩
    rg := fun i p h => by cases h
    sc := fun i => ⟨by decide, by decide⟩
    inj := fun i j p h => by cases h
    ap := fun i j k e h => absurd h (slb_none _ _ _)
    tb := ⟨HT10.out, .inl ⟨rfl, rfl⟩⟩
    bl := fun x hx => by cases hx
    bn := fun i h => by cases h
    nd := List.nodup_nil
    ne := ⟨by omega, by omega, by omega⟩ }
  have HSZ := Lib.hid hB0
  have HORD : Hid (w.heap.size ≤ T ∧ T < P ∧ P < G ∧ G < S) := ⟨hwT, hTP, hPG, hGS⟩
  have HLB : Hid (3 + 1 ≤ B0) := by
    have h1 := HLO.out
    have h2 := HSB.out
    show _ ≤ B0
    omega
  have HSS : Hid (∀ W, But (fun k => k = P ∨ k = G ∨ k = S ∨ k = T ∨ B0 ≤ k) W10 W → Below w.heap.size w W ∧ B0 ≤ W.heap.size) := fun W hb => ⟨HB10.out.trans (hb.below HB10.out.size (fun k hk => by have := HORD.out; have := HSB.out; omega)), by rw [HSZ.out]; exact hb.size⟩
  obtain ⟨nh, hnh⟩ : ∃ a, a = (helB 2 0).length := ⟨_, rfl⟩
  obtain ⟨na, hna⟩ : ∃ a, a = (encL (kindL 2) []).length := ⟨_, rfl⟩
  have HNH : Hid ((helB 2 0).length ≤ 1400000) := Nat.le_trans (helB_len 2 0) (by decide)
  have HNA : Hid ((encL (kindL 2) []).length ≤ 1400000) := by show _ ≤ _; rw [encL_len _ _ (by decide)]; decide
  rw [← hnh] at HBH ⊢
  rw [← hna] at HBA ⊢
  have HX0 : Hid (But (fun k => k = P ∨ k = G ∨ k = S ∨ k = T ∨ B0 ≤ k) W10 W10) := But.refl _ _
  clear hb5 hm5 hmh h910 nk hnh hna hB0 HT9 HMP9 HMG9 HMS9 HMP HMG HMS HT10 HM4 HEN HB4 HB94 HB9 hTP hPG hGS hwT HB10 hmm
  go_wp2_with fail
  go_loopw [72] (fun i wr => ∃ (k nn : Nat) (f : Int → Option Nat) (g : Int → Bool) (s : Int → Int) (vp : Int → Value) (vt : Value) (L : List BanM), k ≤ n ∧ i = .int .i64 k ∧ nn ≤ 3 * k ∧ Hid (WmI wr B0 P G S T nn un (-1) f g s g s vp vt L) ∧ Hid (But (fun k => k = P ∨ k = G ∨ k = S ∨ k = T ∨ B0 ≤ k) W10 wr)) (fun i _ => n - (intOf i).toNat)
  case atStart => exact ⟨0, 0, _, _, _, _, _, [], Nat.zero_le _, rfl, Nat.zero_le _, HI0, HX0⟩
  case round =>
    clear HI0 HX0
    obtain ⟨k, nn, f, g, s, vp, vt, L, hk, rfl, hnn, I, HX⟩ := hrel
    by_cases hlt : k < n
    · obtain ⟨x, bb, oo, hkx, hse, hbw, hrg⟩ := HROW.out k hlt
      subst hse
      have j1 : decide ((k : Int) < (n : Int)) = true := decide_eq_true (by omega)
      have hrg := rr_below hrg (HSS.out wr HX.out).1 hbw
      have r0 : wr.cell? ⟨bb, oo + k * 2, none⟩ = some (.int .i64 x.addr) := hrg 0 _ rfl
      have r1 : wr.cell? ⟨bb, oo + k * 2 + 1, none⟩ = some (.int .i64 x.til) := hrg 1 _ rfl
      have hxi := HI.out x (List.mem_of_getElem? hkx)
      have HK1 : Hid (k + 1 ≤ n) := by show _ ≤ _; omega
      obtain ⟨xa, hxa⟩ : ∃ a, a = x.addr := ⟨_, rfl⟩
      obtain ⟨xt, hxt⟩ : ∃ a, a = x.til := ⟨_, rfl⟩
      rw [← hxa] at r0 hxi
      rw [← hxt] at r1 hxi
      have HXI := Lib.hid hxi
      clear hxi hxa hxt hkx hrg
      go_upto_region 15 with fail
      refine wp_any (fun W => Below wr.heap.size wr W ∧ Bk W wr.heap.size 82 #[.int .i64 xa, .int .i64 xt]) ⟨(Below.refl _ _).alloc (Nat.le_refl _) _, Bk.new _ _ _⟩ ?_
      rintro W ⟨hb, K16⟩
      have I1 := Lib.hid (I.out.keep hb)
      have HX1 : Hid (But (fun k => k = P ∨ k = G ∨ k = S ∨ k = T ∨ B0 ≤ k) W10 W) := HX.out.step hb
      have HK16 := Lib.hid K16
      have c0 := K16.cell 0
      have z16 := K16.lt
      generalize wr.heap.size = p16 at *
      clear hb K16 r0 r1 I HX hbw
      refine whoR W p16 xa HXI.out.1 z16 c0 (fun l1 l2 l3 l4 who hwho => ?_)
      have HWI : Hid (InI who) := by show InI who; unfold InI; omega
      have HWH := Lib.hid hwho
      have hn3 : nn ≤ 1000 := by omega
      clear c0 z16
      go_upto_region 16 with fail
      go_cut [83] from 84 to 160 (fun s83 wx => s83 = .bool (f who).isNone ∧ wx = W)
      case first =>
        have hl := I1.out.mp.look mnP_ok HWI.out
        rcases hfw : f who with _ | p
        · rw [hfw] at hl
          change (Instr.lookup 79 (.map (some P)) (.int .i64 who) false).run Tryd.prog W = .ok (.pointer none) W at hl
          go_wp2_with fail
          go_meet
          rw [hfw]
          exact ⟨rfl, rfl⟩
        · rw [hfw] at hl
          change (Instr.lookup 79 (.map (some P)) (.int .i64 who) false).run Tryd.prog W = .ok (.pointer (some ⟨p, 0, none⟩)) W at hl
          go_wp2_with fail
          go_meet
          rw [hfw]
          exact ⟨rfl, rfl⟩
      case rest =>
        obtain ⟨rfl, hwc⟩ := hcut
        subst hwc
        go_upto_if 83 with fail
        go_cut [83] from 84 to 160 (fun s83 wx => ∃ (n1 p : Nat) (f2 : Int → Option Nat), n1 ≤ nn + 1 ∧ f2 who = some p ∧ Hid (WmI wx B0 P G S T n1 un (-1) f2 g s g s vp vt L) ∧ Hid (But (fun k => k = P ∨ k = G ∨ k = S ∨ k = T ∨ B0 ≤ k) W10 wx) ∧ Hid (Bk wx p16 82 #[.int .i64 xa, .int .i64 xt]))
        case first =>
          rcases hfw : f who with _ | p
          · have hq : (f who).isNone = true := by rw [hfw]; rfl
            go_wp2_with fail
            refine (HNW.out _).mono ?_
            rintro r w5 ⟨p, b5, rfl, hp, hK, hb5, hKb, hB5⟩
            obtain ⟨w6, hrun, J, hbP⟩ := I1.out.new HWH.out hfw hB5 hp (HSS.out _ HX1.out).2 hK hn3
            have HK6 : Hid (Bk w6 p16 82 #[.int .i64 xa, .int .i64 xt]) := hbP.keep (HK16.out.keep hB5) (fun e => by subst e; exact (I1.out.mp.keep hB5).nbk (HK16.out.keep hB5))
            have HX6 : Hid (But (fun k => k = P ∨ k = G ∨ k = S ∨ k = T ∨ B0 ≤ k) W10 w6) := (HX1.out.step hB5).trans hbP (fun k _ h => .inl h)
            have HJ := Lib.hid J
            clear hq hp hK hb5 hKb hB5 J hbP
            go_wp2_with (at_mapUpdate; refine wpList_mu rfl (.tmp 85) (.tmp 86) (.tmp 88) 79 rfl rfl rfl rfl hrun ?_)
            go_meet
            exact ⟨nn + 1, p, upd f who (some p), Nat.le_refl _, upd_same _ _ _, HJ, HX6, HK6⟩
          · have hq : (f who).isNone = false := by rw [hfw]; rfl
            go_wp2_with fail
            go_meet
            exact ⟨nn, p, f, Nat.le_succ _, hfw, I1, HX1, HK16⟩
        case rest =>
          obtain ⟨n1, p, f2, hn1, hf2, J, HXw, HKw⟩ := hcut
          have hl := J.out.mp.look mnP_ok HWI.out
          rw [hf2] at hl
          change (Instr.lookup 79 (.map (some P)) (.int .i64 who) false).run Tryd.prog wc = .ok (.pointer (some ⟨p, 0, none⟩)) wc at hl
          clear I1 HX1 HK16
          go_upto_block 2 with fail
          go_cut [93] from 93 to 160 (fun s93 wx => ∃ (n2 : Nat) (g2 : Int → Bool) (s2 : Int → Int) (vp2 : Int → Value), n2 ≤ n1 + 1 ∧ Hid (WmI wx B0 P G S T n2 un who f2 g2 s2 g2 s2 vp2 vt L) ∧ Hid (But (fun k => k = P ∨ k = G ∨ k = S ∨ k = T ∨ B0 ≤ k) W10 wx))
          case first =>
            have hls := J.out.ms.look mnS_ok HWI.out
            change (Instr.lookup 81 (.map (some S)) (.int .i64 who) false).run Tryd.prog wc = .ok (.int .i64 (s who)) wc at hls
            have hlg := J.out.mg.look mnG_ok HWI.out
            change (Instr.lookup 80 (.map (some G)) (.int .i64 who) false).run Tryd.prog wc = .ok (.bool (g who)) wc at hlg
            have J1 := Lib.hid (J.out.at_ who)
            have HPE := Lib.hid (J.out.pe who p hf2)
            have c1 := HKw.out.cell 1
            have z16 := HKw.out.lt
            have zp := HPE.out.2.1.lt
            have HSWR := Lib.hid (J.out.sc who)
            have hn4 : n1 ≤ 1000 := by omega
            have HPX : Hid (∀ w7, But (fun k => k = p ∨ slb (vp who) k) wc w7 → But (fun k => k = P ∨ k = G ∨ k = S ∨ k = T ∨ B0 ≤ k) W10 w7) := fun w7 hb7 => HXw.out.trans hb7 (fun k _ h => by
              rcases h with h | h
              · subst h; exact .inr (.inr (.inr (.inr HPE.out.1)))
              · exact .inr (.inr (.inr (.inr (J.out.vps h).1))))
            have HHR : Hid (∀ (sb : Option Addr) (nb cb : Nat) (B : List Nat), BsN W10 (fun k => k = P ∨ k = G ∨ k = S ∨ k = T ∨ B0 ≤ k) (.slice sb nb cb) B → B.length ≤ 1400000 → Calls Tryd.prog 14 #[.pointer (some ⟨p, 0, none⟩), .slice sb nb cb] wc fun r w' => HearP wc w' p B0 (vp who) (mnM (s who) (g who)) B r) := fun sb nb cb B hB hl => hear_any p B0 (mnM (s who) (g who)) (vp who) B sb nb cb wc (HLD.out.below (HSS.out wc HXw.out).1 HLO.out) HLB.out HPE.out.1 HPE.out.2.1 HPE.out.2.2 (mn_sc _ HSWR.out) (mn_fs _ _) (HSS.out wc HXw.out).2 ((hB.but HXw.out).mono (fun k _ h => by
              rcases h with h | h
              · subst h; exact .inr (.inr (.inr (.inr HPE.out.1)))
              · exact .inr (.inr (.inr (.inr (J.out.vps h).1))))) hl
            obtain ⟨sw, hsw⟩ : ∃ a, a = s who := ⟨_, rfl⟩
            obtain ⟨gw, hgw⟩ : ∃ a, a = g who := ⟨_, rfl⟩
            have HSW := Lib.hid hsw
            have HGW := Lib.hid hgw
            rw [← hsw] at hls HHR HPE HSWR
            rw [← hgw] at hlg HHR HPE
            have HD0 : Hid (n1 ≤ n1 + 1) := Nat.le_succ _
            clear hsw hgw hl
            by_cases h100 : (100 : Int) ≤ sw
            · have d100 : decide ((100 : Int) ≤ sw) = true := decide_eq_true h100
              clear h100 hlg c1
              go_wp2_with fail
              go_meet
              exact ⟨n1, g, s, vp, HD0.out, J1, HXw⟩
            have d100 : decide ((100 : Int) ≤ sw) = false := decide_eq_false h100
            have HNB : Hid (s who ≠ 100) := by show _ ≠ _; rw [← HSW.out]; omega
            have HNS : Hid (sw ≠ 100) := by show _ ≠ _; omega
            by_cases t0 : xt = 0
            · subst t0
              cases gw
              · have HHE := Lib.hid (HHR.out sh nh ch _ HBH.out HNH.out)
                clear HHR
                go_wp2_with fail
                refine HHE.out.mono ?_
                rintro r w7 ⟨v7, vs7, va7, S7, A7, rfl, hK7, hM7, hS7, hA7, _, _, hb7, hv7⟩
                rw [mn_hello HNS.out] at hK7 hM7
                have J7 := J1.out.peer hf2 HNB.out (s who) true v7 (by rw [← HSW.out]; exact HSWR.out) hb7 (by rw [← HSW.out]; exact hK7) hM7 hv7
                rw [upd_self] at J7
                obtain ⟨w8, hrun, J8, hb8⟩ := J7.putG HWI.out true hn4
                have HJ8 := Lib.hid J8
                have HX8 : Hid (But (fun k => k = P ∨ k = G ∨ k = S ∨ k = T ∨ B0 ≤ k) W10 w8) := (HPX.out w7 hb7).trans hb8 (fun k _ h => .inr (.inl h))
                clear HHE hK7 hM7 hS7 hA7 hb7 hv7 J7 J8 hb8 c1
                go_wp2_with (at_mapUpdate; refine wpList_mu rfl (.tmp 111) (.tmp 112) (.const (.bool true)) 80 rfl rfl rfl rfl hrun ?_)
                go_meet
                exact ⟨n1 + 1, upd g who true, s, upd vp who v7, Nat.le_refl _, HJ8, HX8⟩
              · clear HHR
                go_wp2_with fail
                go_meet
                exact ⟨n1, g, s, vp, HD0.out, J1, HXw⟩
            have q0 : (xt == 0) = false := by rw [beq_eq_false_iff_ne]; exact t0
            by_cases t1 : xt = 1
            · subst t1
              cases gw
              · clear HHR
                go_wp2_with fail
                go_meet
                exact ⟨n1, g, s, vp, HD0.out, J1, HXw⟩
              · have HHE := Lib.hid (HHR.out sa na ca _ HBA.out HNA.out)
                clear HHR
                go_wp2_with fail
                refine HHE.out.mono ?_
                rintro r w7 ⟨v7, vs7, va7, S7, A7, rfl, hK7, hM7, hS7, hA7, _, _, hb7, hv7⟩
                rw [mn_again HNS.out] at hK7 hM7
                have hin := blI_in 10 HSWR.out
                have J7 := J1.out.peer hf2 HNB.out (blI sw 10) true v7 ⟨hin.1, hin.2.1⟩ hb7 hK7 hM7 hv7
                have HPX7 := Lib.hid (HPX.out w7 hb7)
                clear HHE hK7 hM7 hS7 hA7 hb7 hv7 hlg c1
                have hgs : upd g who true = g := by rw [HGW.out]; exact upd_self g who
                rw [hgs] at J7
                clear hgs
                by_cases h90 : sw + 10 < 100
                · have hbl : blI sw 10 = sw + 10 := by unfold blI; have := HSWR.out; omega
                  have hlt9 : sw + 10 < 100 := h90
                  have hmin : min (100 : Int) (sw + 10) = sw + 10 := by omega
                  have J7b := J7
                  rw [hbl] at J7b
                  obtain ⟨w8, hrun, J8, hb8⟩ := J7b.putS HWI.out (sw + 10) hn4
                  have hls7 := J7.ms.look mnS_ok HWI.out
                  change (Instr.lookup 81 (.map (some S)) (.int .i64 who) false).run Tryd.prog w7 = .ok (.int .i64 (s who)) w7 at hls7
                  rw [← HSW.out] at hls7
                  have hw10 : IntKind.i64.wrap (sw + 10) = sw + 10 := IntWalk.i64_in _ (by have := HSWR.out; omega)
                  have HJ8 := Lib.hid J8
                  have HX8 : Hid (But (fun k => k = P ∨ k = G ∨ k = S ∨ k = T ∨ B0 ≤ k) W10 w8) := HPX7.out.trans hb8 (fun k _ h => .inr (.inr (.inl h)))
                  clear J7 J7b J8 hb8
                  go_wp2_with (at_mapUpdate; refine wpList_mu rfl (.tmp 125) (.tmp 126) (.tmp 131) 81 rfl rfl rfl rfl hrun ?_)
                  all_goals first | (exfalso; omega) | (go_meet; exact ⟨n1 + 1, g, upd s who (sw + 10), upd vp who v7, Nat.le_refl _, HJ8, HX8⟩)
                · have hbl : blI sw 10 = 100 := by unfold blI; have := HSWR.out; omega
                  have hlt9 : ¬ (sw + 10 < 100) := h90
                  have hmin : min (100 : Int) (sw + 10) = 100 := by omega
                  have J7b := J7
                  rw [hbl] at J7b
                  obtain ⟨w8, hrun, J8, hb8⟩ := J7b.putS HWI.out (100) hn4
                  have hls7 := J7.ms.look mnS_ok HWI.out
                  change (Instr.lookup 81 (.map (some S)) (.int .i64 who) false).run Tryd.prog w7 = .ok (.int .i64 (s who)) w7 at hls7
                  rw [← HSW.out] at hls7
                  have hw10 : IntKind.i64.wrap (sw + 10) = sw + 10 := IntWalk.i64_in _ (by have := HSWR.out; omega)
                  have HJ8 := Lib.hid J8
                  have HX8 : Hid (But (fun k => k = P ∨ k = G ∨ k = S ∨ k = T ∨ B0 ≤ k) W10 w8) := HPX7.out.trans hb8 (fun k _ h => .inr (.inr (.inl h)))
                  clear J7 J7b J8 hb8
                  go_wp2_with (at_mapUpdate; refine wpList_mu rfl (.tmp 125) (.tmp 126) (.tmp 131) 81 rfl rfl rfl rfl hrun ?_)
                  all_goals first | (exfalso; omega) | (go_meet; exact ⟨n1 + 1, g, upd s who 100, upd vp who v7, Nat.le_refl _, HJ8, HX8⟩)
            have q1 : (xt == 1) = false := by rw [beq_eq_false_iff_ne]; exact t1
            by_cases t2 : xt = 2
            · subst t2
              have HBL := Lib.hid (blame_any p (mnM sw gw) (vp who) 30 wc HPE.out.2.1 HSWR.out (by decide))
              clear HHR
              go_wp2_with fail
              refine HBL.out.mono ?_
              rintro r w7 ⟨rfl, hK7, hb7⟩
              have hin := blI_in 30 HSWR.out
              have hb7' : But (fun k => k = p ∨ slb (vp who) k) wc w7 := hb7.mono (fun k _ h => .inl h)
              have J7 := J1.out.peer hf2 HNB.out (blI sw 30) gw (vp who) ⟨hin.1, hin.2.1⟩ hb7' hK7 (HPE.out.2.2.but hb7 (fun k hk e => by
                obtain ⟨_, _, ys, K⟩ := HPE.out.2.2.slb_lo hk
                have e2 : k = p := e
                subst e2
                exact absurd (Bk.type_eq K HPE.out.2.1) (by decide))) (fun k h => .inl h)
              have HPX7 := Lib.hid (HPX.out w7 hb7')
              clear HBL hK7 hb7 hb7' c1
              have hgs : upd g who gw = g := by rw [HGW.out]; exact upd_self g who
              rw [hgs, upd_self] at J7
              clear hgs
              by_cases h90 : sw + 30 < 100
              · have hbl : blI sw 30 = sw + 30 := by unfold blI; have := HSWR.out; omega
                have hlt9 : sw + 30 < 100 := h90
                have hmin : min (100 : Int) (sw + 30) = sw + 30 := by omega
                have J7b := J7
                rw [hbl] at J7b
                obtain ⟨w8, hrun, J8, hb8⟩ := J7b.putS HWI.out (sw + 30) hn4
                have hls7 := J7.ms.look mnS_ok HWI.out
                change (Instr.lookup 81 (.map (some S)) (.int .i64 who) false).run Tryd.prog w7 = .ok (.int .i64 (s who)) w7 at hls7
                rw [← HSW.out] at hls7
                have hw10 : IntKind.i64.wrap (sw + 30) = sw + 30 := IntWalk.i64_in _ (by have := HSWR.out; omega)
                have HJ8 := Lib.hid J8
                have HX8 : Hid (But (fun k => k = P ∨ k = G ∨ k = S ∨ k = T ∨ B0 ≤ k) W10 w8) := HPX7.out.trans hb8 (fun k _ h => .inr (.inr (.inl h)))
                clear J7 J7b J8 hb8
                go_wp2_with (at_mapUpdate; refine wpList_mu rfl (.tmp 140) (.tmp 141) (.tmp 146) 81 rfl rfl rfl rfl hrun ?_)
                all_goals first | (exfalso; omega) | (go_meet; exact ⟨n1 + 1, g, upd s who (sw + 30), vp, Nat.le_refl _, HJ8, HX8⟩)
              · have hbl : blI sw 30 = 100 := by unfold blI; have := HSWR.out; omega
                have hlt9 : ¬ (sw + 30 < 100) := h90
                have hmin : min (100 : Int) (sw + 30) = 100 := by omega
                have J7b := J7
                rw [hbl] at J7b
                obtain ⟨w8, hrun, J8, hb8⟩ := J7b.putS HWI.out (100) hn4
                have hls7 := J7.ms.look mnS_ok HWI.out
                change (Instr.lookup 81 (.map (some S)) (.int .i64 who) false).run Tryd.prog w7 = .ok (.int .i64 (s who)) w7 at hls7
                rw [← HSW.out] at hls7
                have hw10 : IntKind.i64.wrap (sw + 30) = sw + 30 := IntWalk.i64_in _ (by have := HSWR.out; omega)
                have HJ8 := Lib.hid J8
                have HX8 : Hid (But (fun k => k = P ∨ k = G ∨ k = S ∨ k = T ∨ B0 ≤ k) W10 w8) := HPX7.out.trans hb8 (fun k _ h => .inr (.inr (.inl h)))
                clear J7 J7b J8 hb8
                go_wp2_with (at_mapUpdate; refine wpList_mu rfl (.tmp 140) (.tmp 141) (.tmp 146) 81 rfl rfl rfl rfl hrun ?_)
                all_goals first | (exfalso; omega) | (go_meet; exact ⟨n1 + 1, g, upd s who 100, vp, Nat.le_refl _, HJ8, HX8⟩)
            have q2 : (xt == 2) = false := by rw [beq_eq_false_iff_ne]; exact t2
            clear HHR
            go_wp2_with fail
            go_meet
            exact ⟨n1, g, s, vp, HD0.out, J1, HXw⟩
          case rest =>
            obtain ⟨n2, g2, s2, vp2, hn2, J2, HX2⟩ := hcut
            have HN2 : Hid (n2 ≤ 3 * (k + 1)) := by show _ ≤ _; omega
            have HPE := Lib.hid (J2.out.pe who p hf2)
            obtain ⟨sw, hsw⟩ : ∃ a, a = s2 who := ⟨_, rfl⟩
            have HSW := Lib.hid hsw
            rw [← hsw] at HPE
            have HBD := Lib.hid (bad_any p (mnM sw (g2 who)) (vp2 who) wc HPE.out.2.1)
            change Hid (Calls Tryd.prog _ _ _ fun r w' => r = .returned (.bool (sw == 100)) ∧ w' = wc) at HBD
            have zp := HPE.out.2.1.lt
            clear J HXw HKw hl hsw
            by_cases h100 : sw = 100
            · have q100 : (sw == 100) = true := by rw [beq_iff_eq]; exact h100
              have hs100 : s2 who = 100 := by rw [← HSW.out]; exact h100
              have HBN := Lib.hid (ban_any T vt B0 L who un wc J2.out.tb (HSS.out wc HX2.out).2 (by have := J2.out.len; omega))
              clear h100
              go_wp2_with fail
              refine HBD.out.mono ?_
              rintro r w5 ⟨rfl, e5⟩
              subst w5
              clear HBD
              go_wp2_with fail
              refine HBN.out.mono ?_
              rintro r w9 hT9
              obtain ⟨vt3, L3, J3, hb9⟩ := J2.out.ban hs100 hT9
              have hr9 := hT9.ret
              subst hr9
              have HJ3 := Lib.hid J3
              have HX3 : Hid (But (fun k => k = P ∨ k = G ∨ k = S ∨ k = T ∨ B0 ≤ k) W10 w9) := HX2.out.trans hb9 (fun k _ h => by
                rcases h with h | h
                · exact .inr (.inr (.inr (.inl h)))
                · exact .inr (.inr (.inr (.inr (J2.out.tb.M.slb_lo h).1))))
              clear HBN hT9 J3 hb9 q100 hs100
              go_wp2_with fail
              have HT3 := Lib.hid (HJ3.out.til_is (i := who) (by have := HWH.out; omega))
              rw [← HSW.out] at HT3
              have HPE3 := Lib.hid (HJ3.out.pe who p hf2)
              rw [← HSW.out] at HPE3
              have HLK : Hid (∀ Wz, Below w9.heap.size w9 Wz → (Instr.lookup 81 (.map (some S)) (.int .i64 who) false).run Tryd.prog Wz = .ok (.int .i64 sw) Wz) := fun Wz hb => by
                rw [HSW.out]
                exact (HJ3.out.ms.keep hb).look mnS_ok HWI.out
              have HS1 : Hid (∀ Wz, Below w9.heap.size w9 Wz → Calls Tryd.prog 21 #[.pointer (some ⟨p, 0, none⟩)] Wz fun r w' => r = .returned (.int .i64 sw) ∧ Below Wz.heap.size Wz w') := fun Wz hb => (score_any p (mnM sw (g2 who)) _ Wz (HPE3.out.2.1.keep hb)).mono (by rintro r w' ⟨h1, h2⟩; subst h2; exact ⟨h1, Below.refl _ _⟩)
              have HB1 : Hid (∀ Wz, Below w9.heap.size w9 Wz → Calls Tryd.prog 31 #[.pointer (some ⟨T, 0, none⟩), .int .i64 who, .int .i64 0] Wz fun r w' => r = .returned (.bool (sw == 100)) ∧ Below Wz.heap.size Wz w') := fun Wz hb => (banned_any T _ B0 _ who 0 Wz (HJ3.out.tb.keep hb)).mono (by
                rintro r w' ⟨rfl, h2⟩
                refine ⟨?_, h2⟩
                rw [HT3.out]
                by_cases e : sw = 100
                · rw [if_pos e, e]
                  have : decide ((0 : Int) < un) = true := decide_eq_true (by have := HUR.out; omega)
                  simp only [this]
                  rfl
                · rw [if_neg e]
                  have : (sw == 100) = false := by rw [beq_eq_false_iff_ne]; exact e
                  rw [this]
                  rfl)
              have HE3 : Hid (decide ((100 : Int) ≤ sw) = (sw == 100)) := by
                show _ = _
                have := HJ3.out.sc who
                rw [← HSW.out] at this
                by_cases e : sw = 100
                · rw [e]; rfl
                · rw [decide_eq_false (by omega), beq_eq_false_iff_ne.2 e]
              have zp3 := HPE3.out.2.1.lt
              have HZ := Lib.hid (mnR31 p T S sw who (sw == 100) w9)
              go_upto_region 31 with fail
              refine HZ.out _ _ _ _ _ _ _ _ _ _ _ _ _ _ _ _ _ _ _ _ _ _ _ _ _ _ _ _ _ _ _ _ _ _ _ _ _ _ _ _ _ _ _ _ _ _ _ _ _ _ _ _ _ _ _ _ _ _ _ _ _ _ _ _ _ _ _ _ _ _ _ _ _ _ _ _ _ _ _ _ _ _ _ _ _ _ _ _ _ _ _ _ _ _ _ _ _ _ _ _ _ _ _ _ _ _ _ _ _ _ _ _ _ _ _ _ _ _ _ _ _ _ _ _ _ _ _ _ _ _ _ _ _ _ _ _ _ _ _ _ _ _ _ _ _ _ _ _ _ _ _ _ _ _ _ _ _ _ _ _ _ _ _ _ _ _ _ _ _ _ _ _ _ _ _ _ _ _ _ _ _ _ _ _ _ _ _ _ _ _ _ _ _ _ _ _ _ _ _ _ _ _ _ zp3 (by simp) (by simp) HE3.out HLK.out HS1.out HB1.out (Lib.hid (fun y0 y1 y2 y3 y4 y5 y6 y7 y8 y9 y10 y11 y12 y13 y14 y15 w20 hb20 => ?_))
              have HJ4 := Lib.hid (HJ3.out.keep hb20)
              have HX4 : Hid (But (fun k => k = P ∨ k = G ∨ k = S ∨ k = T ∨ B0 ≤ k) W10 w20) := HX3.out.step hb20
              clear hb20 HZ HLK HS1 HB1 HE3 zp3 HJ3 HX3
              go_wp2_with fail
              go_roundw
              case rel =>
                refine ⟨k + 1, n2, f2, g2, s2, vp2, vt3, L3, HK1.out, ?_, HN2.out, HJ4, HX4⟩
                go_num
              case measure => simp [intOf]; omega
            · have q100 : (sw == 100) = false := by rw [beq_eq_false_iff_ne]; exact h100
              have HJ3 := Lib.hid (J2.out.calm (by rw [← HSW.out]; exact h100))
              have HX3 := HX2
              clear h100
              go_wp2_with fail
              refine HBD.out.mono ?_
              rintro r w5 ⟨rfl, e5⟩
              subst w5
              clear HBD
              have HT3 := Lib.hid (HJ3.out.til_is (i := who) (by have := HWH.out; omega))
              rw [← HSW.out] at HT3
              have HPE3 := Lib.hid (HJ3.out.pe who p hf2)
              rw [← HSW.out] at HPE3
              have HLK : Hid (∀ Wz, Below wc.heap.size wc Wz → (Instr.lookup 81 (.map (some S)) (.int .i64 who) false).run Tryd.prog Wz = .ok (.int .i64 sw) Wz) := fun Wz hb => by
                rw [HSW.out]
                exact (HJ3.out.ms.keep hb).look mnS_ok HWI.out
              have HS1 : Hid (∀ Wz, Below wc.heap.size wc Wz → Calls Tryd.prog 21 #[.pointer (some ⟨p, 0, none⟩)] Wz fun r w' => r = .returned (.int .i64 sw) ∧ Below Wz.heap.size Wz w') := fun Wz hb => (score_any p (mnM sw (g2 who)) _ Wz (HPE3.out.2.1.keep hb)).mono (by rintro r w' ⟨h1, h2⟩; subst h2; exact ⟨h1, Below.refl _ _⟩)
              have HB1 : Hid (∀ Wz, Below wc.heap.size wc Wz → Calls Tryd.prog 31 #[.pointer (some ⟨T, 0, none⟩), .int .i64 who, .int .i64 0] Wz fun r w' => r = .returned (.bool (sw == 100)) ∧ Below Wz.heap.size Wz w') := fun Wz hb => (banned_any T _ B0 _ who 0 Wz (HJ3.out.tb.keep hb)).mono (by
                rintro r w' ⟨rfl, h2⟩
                refine ⟨?_, h2⟩
                rw [HT3.out]
                by_cases e : sw = 100
                · rw [if_pos e, e]
                  have : decide ((0 : Int) < un) = true := decide_eq_true (by have := HUR.out; omega)
                  simp only [this]
                  rfl
                · rw [if_neg e]
                  have : (sw == 100) = false := by rw [beq_eq_false_iff_ne]; exact e
                  rw [this]
                  rfl)
              have HE3 : Hid (decide ((100 : Int) ≤ sw) = (sw == 100)) := by
                show _ = _
                have := HJ3.out.sc who
                rw [← HSW.out] at this
                by_cases e : sw = 100
                · rw [e]; rfl
                · rw [decide_eq_false (by omega), beq_eq_false_iff_ne.2 e]
              have zp3 := HPE3.out.2.1.lt
              have HZ := Lib.hid (mnR31 p T S sw who (sw == 100) wc)
              go_upto_region 31 with fail
              refine HZ.out _ _ _ _ _ _ _ _ _ _ _ _ _ _ _ _ _ _ _ _ _ _ _ _ _ _ _ _ _ _ _ _ _ _ _ _ _ _ _ _ _ _ _ _ _ _ _ _ _ _ _ _ _ _ _ _ _ _ _ _ _ _ _ _ _ _ _ _ _ _ _ _ _ _ _ _ _ _ _ _ _ _ _ _ _ _ _ _ _ _ _ _ _ _ _ _ _ _ _ _ _ _ _ _ _ _ _ _ _ _ _ _ _ _ _ _ _ _ _ _ _ _ _ _ _ _ _ _ _ _ _ _ _ _ _ _ _ _ _ _ _ _ _ _ _ _ _ _ _ _ _ _ _ _ _ _ _ _ _ _ _ _ _ _ _ _ _ _ _ _ _ _ _ _ _ _ _ _ _ _ _ _ _ _ _ _ _ _ _ _ _ _ _ _ _ _ _ _ _ _ _ _ _ zp3 (by simp) (by simp) HE3.out HLK.out HS1.out HB1.out (Lib.hid (fun y0 y1 y2 y3 y4 y5 y6 y7 y8 y9 y10 y11 y12 y13 y14 y15 w20 hb20 => ?_))
              have HJ4 := Lib.hid (HJ3.out.keep hb20)
              have HX4 : Hid (But (fun k => k = P ∨ k = G ∨ k = S ∨ k = T ∨ B0 ≤ k) W10 w20) := HX3.out.step hb20
              clear hb20 HZ HLK HS1 HB1 HE3 zp3 HJ3 HX3
              go_wp2_with fail
              go_roundw
              case rel =>
                refine ⟨k + 1, n2, f2, g2, s2, vp2, vt, L, HK1.out, ?_, HN2.out, HJ4, HX4⟩
                go_num
              case measure => simp [intOf]; omega
    · have j1 : decide ((k : Int) < (n : Int)) = false := decide_eq_false (by omega)
      obtain ⟨ws, hws⟩ : ∃ a, a = wr := ⟨_, rfl⟩
      rw [← hws] at I HX ⊢
      clear hws hk hnn
      clear wr
      have HBZ : Hid (Below ws.heap.size ws ws) := Below.refl _ _
      go_wp2_with fail
      go_loopw [19, 172] (fun nv i wr => ∃ q : Nat, q ≤ 5 ∧ nv = .int .i64 (bads s q : Nat) ∧ i = .int .i64 (q : Int) ∧ Hid (Below ws.heap.size ws wr)) (fun _ i _ => 5 - (intOf i).toNat)
      case atStart => exact ⟨0, Nat.zero_le _, rfl, rfl, HBZ⟩
      case round =>
        clear HBZ
        obtain ⟨q, hq, rfl, rfl, HBZ⟩ := hrel
        have Iw := Lib.hid (I.out.keep HBZ.out)
        by_cases hq5 : q < 5
        · have j2 : decide ((q : Int) < 5) = true := decide_eq_true (by omega)
          have HQI : Hid (InI (q : Int)) := by show InI _; unfold InI; omega
          have hls := Iw.out.ms.look mnS_ok HQI.out
          change (Instr.lookup 81 (.map (some S)) (.int .i64 (q : Int)) false).run Tryd.prog wr = .ok (.int .i64 (s (q : Int))) wr at hls
          obtain ⟨sq, hsq⟩ : ∃ a, a = s (q : Int) := ⟨_, rfl⟩
          have HSQ := Lib.hid hsq
          have HSR := Lib.hid (I.out.sc (q : Int))
          rw [← hsq] at hls HSR
          have HTI := Lib.hid (I.out.til_is (i := (q : Int)) (by omega))
          rw [← hsq] at HTI
          have HLK : Hid (∀ Wz, Below wr.heap.size wr Wz → (Instr.lookup 81 (.map (some S)) (.int .i64 (q : Int)) false).run Tryd.prog Wz = .ok (.int .i64 sq) Wz) := fun Wz hb => by
            rw [HSQ.out]
            exact (Iw.out.ms.keep hb).look mnS_ok HQI.out
          have HB1 : Hid (∀ Wz, Below wr.heap.size wr Wz → Calls Tryd.prog 31 #[.pointer (some ⟨T, 0, none⟩), .int .i64 (q : Int), .int .i64 (un - 1)] Wz fun r w' => r = .returned (.bool (sq == 100)) ∧ Below Wz.heap.size Wz w') := fun Wz hb => (banned_any T vt B0 L (q : Int) (un - 1) Wz (Iw.out.tb.keep hb)).mono (by
            rintro r w' ⟨rfl, h2⟩
            refine ⟨?_, h2⟩
            rw [HTI.out]
            by_cases e : sq = 100
            · rw [if_pos e, e]
              have : decide (un - 1 < un) = true := decide_eq_true (by omega)
              simp only [this]
              rfl
            · rw [if_neg e]
              have : (sq == 100) = false := by rw [beq_eq_false_iff_ne]; exact e
              rw [this]
              rfl)
          have HB2 : Hid (∀ Wz, Below wr.heap.size wr Wz → Calls Tryd.prog 31 #[.pointer (some ⟨T, 0, none⟩), .int .i64 (q : Int), .int .i64 un] Wz fun r w' => r = .returned (.bool false) ∧ Below Wz.heap.size Wz w') := fun Wz hb => (banned_any T vt B0 L (q : Int) un Wz (Iw.out.tb.keep hb)).mono (by
            rintro r w' ⟨rfl, h2⟩
            refine ⟨?_, h2⟩
            rw [HTI.out]
            by_cases e : sq = 100
            · rw [if_pos e]
              have : decide (un < un) = false := decide_eq_false (by omega)
              simp only [this]
              rfl
            · rw [if_neg e]
              rfl)
          have e1 : IntKind.i64.wrap (un - 1) = un - 1 := IntWalk.i64_in _ (by have := HUR.out; omega)
          have HE1 := Lib.hid e1
          have HE3 : Hid (decide ((100 : Int) ≤ sq) = (sq == 100)) := by
            show _ = _
            have := HSR.out
            by_cases e : sq = 100
            · rw [e]; rfl
            · rw [decide_eq_false (by omega), beq_eq_false_iff_ne.2 e]
          clear hsq e1
          by_cases h100 : sq = 100
          · have d100 : decide ((100 : Int) ≤ sq) = true := by rw [h100]; rfl
            have HBS : Hid (bads s (q + 1) = bads s q + 1) := by show _ = _; rw [bads_succ, if_pos (by rw [← HSQ.out]; exact h100)]
            have hw5 : IntKind.i64.wrap ((bads s q : Int) + 1) = (bads s q : Int) + 1 := IntWalk.i64_in _ (by have := bads_le s q; omega)
            clear h100
            have HZ := Lib.hid (mnR40 T S sq (q : Int) un (un - 1) (sq == 100) wr)
            go_upto_region 40 with fail
            refine HZ.out _ _ _ _ _ _ _ _ _ _ _ _ _ _ _ _ _ _ _ _ _ _ _ _ _ _ _ _ _ _ _ _ _ _ _ _ _ _ _ _ _ _ _ _ _ _ _ _ _ _ _ _ _ _ _ _ _ _ _ _ _ _ _ _ _ _ _ _ _ _ _ _ _ _ _ _ _ _ _ _ _ _ _ _ _ _ _ _ _ _ _ _ _ _ _ _ _ _ _ _ _ _ _ _ _ _ _ _ _ _ _ _ _ _ _ _ _ _ _ _ _ _ _ _ _ _ _ _ _ _ _ _ _ _ _ _ _ _ _ _ _ _ _ _ _ _ _ _ _ _ _ _ _ _ _ _ _ _ _ _ _ _ _ _ _ _ _ _ _ _ _ _ _ _ _ _ _ _ _ _ _ _ _ _ _ _ _ _ _ _ _ _ _ _ _ _ _ _ _ _ _ _ _ HE1.out (by simp) HE3.out HLK.out HB1.out HB2.out (Lib.hid (fun y0 y1 y2 y3 y4 y5 y6 y7 y8 y9 y10 y11 y12 w20 hb20 => ?_))
            have HB20 : Hid (Below ws.heap.size ws w20) := below_step HBZ.out HBZ.out.size hb20
            clear hb20 HZ HLK HB1 HB2 HE3 HE1
            go_wp2_with fail
            go_roundw
            case rel => exact ⟨q + 1, by omega, by rw [HBS.out]; go_num, by go_num, HB20⟩
            case measure => simp [intOf]; omega
          · have d100 : decide ((100 : Int) ≤ sq) = false := decide_eq_false (by have := HSR.out; omega)
            have HBS : Hid (bads s (q + 1) = bads s q + 0) := by show _ = _; rw [bads_succ, if_neg (by rw [← HSQ.out]; exact h100)]
            clear h100
            have HZ := Lib.hid (mnR40 T S sq (q : Int) un (un - 1) (sq == 100) wr)
            go_upto_region 40 with fail
            refine HZ.out _ _ _ _ _ _ _ _ _ _ _ _ _ _ _ _ _ _ _ _ _ _ _ _ _ _ _ _ _ _ _ _ _ _ _ _ _ _ _ _ _ _ _ _ _ _ _ _ _ _ _ _ _ _ _ _ _ _ _ _ _ _ _ _ _ _ _ _ _ _ _ _ _ _ _ _ _ _ _ _ _ _ _ _ _ _ _ _ _ _ _ _ _ _ _ _ _ _ _ _ _ _ _ _ _ _ _ _ _ _ _ _ _ _ _ _ _ _ _ _ _ _ _ _ _ _ _ _ _ _ _ _ _ _ _ _ _ _ _ _ _ _ _ _ _ _ _ _ _ _ _ _ _ _ _ _ _ _ _ _ _ _ _ _ _ _ _ _ _ _ _ _ _ _ _ _ _ _ _ _ _ _ _ _ _ _ _ _ _ _ _ _ _ _ _ _ _ _ _ _ _ _ _ HE1.out (by simp) HE3.out HLK.out HB1.out HB2.out (Lib.hid (fun y0 y1 y2 y3 y4 y5 y6 y7 y8 y9 y10 y11 y12 w20 hb20 => ?_))
            have HB20 : Hid (Below ws.heap.size ws w20) := below_step HBZ.out HBZ.out.size hb20
            clear hb20 HZ HLK HB1 HB2 HE3 HE1
            go_wp2_with fail
            go_roundw
            case rel => exact ⟨q + 1, by omega, by rw [HBS.out]; go_num, by go_num, HB20⟩
            case measure => simp [intOf]; omega
        · obtain rfl : q = 5 := by omega
          have j2 : decide (((5 : Nat) : Int) < 5) = false := rfl
          have HL1 := Lib.hid (len_any T vt B0 L wr Iw.out.tb)
          rw [I.out.count] at HL1
          have HSWP := Lib.hid (sweep_any T vt B0 L un wr Iw.out.tb)
          rw [I.out.swept] at HSWP
          have zT := Iw.out.tb.G.lt
          have HBF : Hid (Below w.heap.size w wr) := below_step (HSS.out ws HX.out).1 (HSS.out ws HX.out).1.size HBZ.out
          have HTL : Hid (w.heap.size ≤ T ∧ w.heap.size ≤ B0) := by
            have := HORD.out
            have := HSB.out
            show _ ∧ _
            omega
          have HTB := Lib.hid Iw.out.tb
          obtain ⟨nb, hnb⟩ : ∃ a, a = bads s 5 := ⟨_, rfl⟩
          rw [← hnb] at HL1 ⊢
          clear hnb Iw hq hq5
          go_wp2_with fail
          refine HL1.out.mono ?_
          rintro r w5 ⟨rfl, e5⟩
          subst w5
          clear HL1
          go_wp2_with fail
          refine HSWP.out.mono ?_
          rintro r w9 hT9
          have hr9 := hT9.ret
          subst hr9
          obtain ⟨vt3, htb3, hb9, _⟩ := hT9.ex
          have HL2 := Lib.hid (len_any T vt3 B0 [] w9 htb3)
          have HBF9 : Hid (Below w.heap.size w w9) := HBF.out.trans (hb9.below HBF.out.size (fun j hj => by
            rcases hj with h | h
            · rw [h]; exact HTL.out.1
            · exact Nat.le_trans HTL.out.2 (HTB.out.M.slb_lo h).1))
          clear HSWP hT9 htb3 hb9
          go_wp2_with fail
          refine HL2.out.mono ?_
          rintro r w5 ⟨rfl, e5⟩
          subst w5
          go_wp2_with fail
          go_ret
          exact ⟨rfl, HBF9.out⟩
end Go.Proofs.YtkpffjcdalclmaaDoor.wholeManners
