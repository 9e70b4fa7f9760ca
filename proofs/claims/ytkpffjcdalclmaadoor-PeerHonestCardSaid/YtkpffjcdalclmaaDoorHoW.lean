/-
  What is proved: for every list of deeds and of cuts the law PeerHonest returns true, and its arguments read behind the call as they read before it; the three listed tables, two of package hash and one of package msg, are taken to hold what the program's text lays in them, and the card ties them to it.
-/
import Derived.Test.YtkpffjcdalclmaaDoorHoC
import Derived.Test.YtkpffjcdalclmaaDoorPsZ
import Derived.Test.YtkpffjcdalclmaaDoorTie
import Derived.Test.YtkpffjcdalclmaaDoorCards
import Derived.Stop.Joined
namespace Go.Proofs.YtkpffjcdalclmaaDoor.peerHonest
open Go.ChangeShapes Go.WideShapes Go.ChangeAt Go.RowKit
set_option linter.unusedVariables false

theorem own : ownKnob Tryd.prog.godebug = none := by kernel_rfl
theorem laidOut : laidOutB Tryd.prog = true := by kernel_rfl
set_option maxRecDepth 100000 in
set_option maxHeartbeats 16000000 in
theorem laterH {t0 t1 t2 t3 t4 t5 t6 t7 t8 t10 t12 t13 t14 t15 t16 t17 t18 t19 t20 t21 t22 t23 t24 t25 t26 t27 t28 t29 t30 t31 t32 t33 t34 t35 t36 t37 t38 t39 t40 t41 t42 t43 t44 t45 t46 t47 t48 t49 t50 t51 t52 t53 t54 t55 t56 t57 t58 t59 t60 t61 t62 t63 t64 t65 t66 t67 t68 t69 t70 t71 t72 t73 t74 t75 t76 t77 t78 t79 t80 t81 t82 t83 t84 t85 t86 t87 t88 t89 t90 t91 t92 t93 t94 t95 t96 t97 t98 t99 t100 t101 t102 t103 t104 t105 t106 t107 t108 t109 t110 t111 t112 t113 t114 t115 t116 t117 t118 t119 t120 t121 t122 t123 t124 t125 t126 t127 t128 t129 t130 t131 t132 t133 t134 t135 t136 t137 t138 t139 t140 t141 t142 t143 t144 t145 t146 t147 t148 t149 t150 t151 t152 t153 t154 t155 t156 t157 t158 t159 t160 : Value} {Q : Exit → Act → World → Prop} (V : World) (g : Nat) (nw t : Int) (hn : 0 ≤ nw ∧ nw ≤ 1000000) (ht : -9223372036854775808 ≤ t ∧ t ≤ 9223372036854775807) (zg : g < V.heap.size) (hc : V.cell? ⟨g, 1, none⟩ = some (.int .i64 t))
    (hQ : ∀ (x106 x107 x108 x109 x110 x111 : Value) (z : Int), nw ≤ z ∧ z ≤ nw + 50 → Q .normal { tmps := List.toArray (t0 :: t1 :: t2 :: t3 :: t4 :: t5 :: t6 :: t7 :: t8 :: .int .i64 z :: t10 :: .pointer (some ⟨g, 0, none⟩) :: t12 :: t13 :: t14 :: t15 :: t16 :: t17 :: t18 :: t19 :: t20 :: t21 :: t22 :: t23 :: t24 :: t25 :: t26 :: t27 :: t28 :: t29 :: t30 :: t31 :: t32 :: t33 :: t34 :: t35 :: t36 :: t37 :: t38 :: t39 :: t40 :: t41 :: t42 :: t43 :: t44 :: t45 :: t46 :: t47 :: t48 :: t49 :: t50 :: t51 :: t52 :: t53 :: t54 :: t55 :: t56 :: t57 :: t58 :: t59 :: t60 :: t61 :: t62 :: t63 :: t64 :: t65 :: t66 :: t67 :: t68 :: t69 :: t70 :: t71 :: t72 :: t73 :: t74 :: t75 :: t76 :: t77 :: t78 :: t79 :: t80 :: t81 :: t82 :: t83 :: t84 :: t85 :: t86 :: t87 :: t88 :: t89 :: t90 :: t91 :: t92 :: t93 :: t94 :: t95 :: t96 :: t97 :: t98 :: t99 :: t100 :: t101 :: t102 :: t103 :: t104 :: t105 :: x106 :: x107 :: x108 :: x109 :: x110 :: x111 :: t112 :: t113 :: t114 :: t115 :: t116 :: t117 :: t118 :: t119 :: t120 :: t121 :: t122 :: t123 :: t124 :: t125 :: t126 :: t127 :: t128 :: t129 :: t130 :: t131 :: t132 :: t133 :: t134 :: t135 :: t136 :: t137 :: t138 :: t139 :: t140 :: t141 :: t142 :: t143 :: t144 :: t145 :: t146 :: t147 :: t148 :: t149 :: t150 :: t151 :: t152 :: t153 :: t154 :: t155 :: t156 :: t157 :: t158 :: t159 :: t160 :: []), defers := [] } V) :
    Code.wp Tryd.prog (Code.region 26 #[{ dst := some 106, op := Op.move (Operand.tmp 9), type := 3, pos := "law.go:213", after := #[], guard := none },
{ dst := some 107, op := Op.fieldAddr 39 (Operand.tmp 11) 1, type := 0, pos := "law.go:213", after := #[], guard := none },
{ dst := some 108, op := Op.load 3 (Operand.tmp 107), type := 3, pos := "law.go:213", after := #[{ on := 1, ground := Ground.data }], guard := none },
{ dst := some 109, op := Op.call { callee := Callee.builtin Builtin.min, args := #[Operand.tmp 108, Operand.const (Value.int IntKind.i64 50)], argTypes := #[3, 3] }, type := 3, pos := "law.go:213", after := #[{ on := 2, ground := Ground.data }], guard := none },
{ dst := some 110, op := Op.call { callee := Callee.builtin Builtin.max, args := #[Operand.const (Value.int IntKind.i64 0), Operand.tmp 109], argTypes := #[3, 3] }, type := 3, pos := "law.go:213", after := #[{ on := 3, ground := Ground.data }], guard := none },
{ dst := some 111, op := Op.binOp BinOp.add 3 (Operand.tmp 106) (Operand.tmp 110) 3, type := 3, pos := "law.go:213", after := #[{ on := 0, ground := Ground.data }, { on := 4, ground := Ground.data }], guard := none },
{ dst := some 9, op := Op.assign (Operand.tmp 111), type := 3, pos := "law.go:213", after := #[{ on := 5, ground := Ground.data }, { on := 0, ground := Ground.phase }, { on := 1, ground := Ground.phase }, { on := 2, ground := Ground.phase }, { on := 3, ground := Ground.phase }, { on := 4, ground := Ground.phase }, { on := 5, ground := Ground.phase }], guard := none }] false) Q { tmps := List.toArray (t0 :: t1 :: t2 :: t3 :: t4 :: t5 :: t6 :: t7 :: t8 :: .int .i64 nw :: t10 :: .pointer (some ⟨g, 0, none⟩) :: t12 :: t13 :: t14 :: t15 :: t16 :: t17 :: t18 :: t19 :: t20 :: t21 :: t22 :: t23 :: t24 :: t25 :: t26 :: t27 :: t28 :: t29 :: t30 :: t31 :: t32 :: t33 :: t34 :: t35 :: t36 :: t37 :: t38 :: t39 :: t40 :: t41 :: t42 :: t43 :: t44 :: t45 :: t46 :: t47 :: t48 :: t49 :: t50 :: t51 :: t52 :: t53 :: t54 :: t55 :: t56 :: t57 :: t58 :: t59 :: t60 :: t61 :: t62 :: t63 :: t64 :: t65 :: t66 :: t67 :: t68 :: t69 :: t70 :: t71 :: t72 :: t73 :: t74 :: t75 :: t76 :: t77 :: t78 :: t79 :: t80 :: t81 :: t82 :: t83 :: t84 :: t85 :: t86 :: t87 :: t88 :: t89 :: t90 :: t91 :: t92 :: t93 :: t94 :: t95 :: t96 :: t97 :: t98 :: t99 :: t100 :: t101 :: t102 :: t103 :: t104 :: t105 :: t106 :: t107 :: t108 :: t109 :: t110 :: t111 :: t112 :: t113 :: t114 :: t115 :: t116 :: t117 :: t118 :: t119 :: t120 :: t121 :: t122 :: t123 :: t124 :: t125 :: t126 :: t127 :: t128 :: t129 :: t130 :: t131 :: t132 :: t133 :: t134 :: t135 :: t136 :: t137 :: t138 :: t139 :: t140 :: t141 :: t142 :: t143 :: t144 :: t145 :: t146 :: t147 :: t148 :: t149 :: t150 :: t151 :: t152 :: t153 :: t154 :: t155 :: t156 :: t157 :: t158 :: t159 :: t160 :: []), defers := [] } V := by
  have HQ := Lib.hid hQ
  clear hQ
  go_wp2_with fail
  all_goals refine HQ.out _ _ _ _ _ _ _ ?_
  all_goals first | omega | (unfold wrap64; omega)
set_option maxRecDepth 100000 in
set_option maxHeartbeats 16000000 in
theorem cutsH {t0 t2 t3 t4 t5 t6 t7 t8 t9 t11 t12 t13 t14 t15 t18 t19 t20 t21 t22 t23 t24 t25 t26 t27 t28 t29 t30 t31 t32 t33 t34 t35 t36 t37 t38 t39 t40 t41 t42 t43 t44 t45 t46 t47 t48 t49 t50 t51 t52 t53 t54 t55 t56 t57 t58 t59 t60 t61 t62 t63 t64 t65 t66 t67 t68 t69 t70 t71 t72 t73 t74 t75 t76 t77 t78 t79 t80 t81 t82 t83 t84 t85 t86 t87 t88 t89 t90 t91 t92 t93 t94 t95 t96 t97 t98 t99 t100 t101 t102 t103 t104 t105 t106 t107 t108 t109 t110 t111 t112 t113 t114 t115 t116 t117 t118 t119 t120 t121 t122 t123 t124 t125 t126 t127 t128 t129 t130 t131 t132 t133 t134 t135 t136 t137 t138 t139 t140 t141 t142 t143 t144 t145 t146 t147 t148 t149 t150 t151 t152 t153 t154 t155 t156 t157 t158 t159 t160 : Value} {Q : Exit → Act → World → Prop} (V : World) (b o nc cc0 k j n2 : Nat) (t : Int) (h1 : k + j < nc) (h2 : nc ≤ 1000) (h3 : 1 ≤ n2 ∧ n2 ≤ 100000) (ht : -9223372036854775808 ≤ t ∧ t ≤ 9223372036854775807) (zb : b < V.heap.size) (hc : V.cell? ⟨b, o + (k + j), none⟩ = some (.int .i64 t))
    (hQ : ∀ (x89 x90 x91 x92 x93 x94 x95 x96 x97 : Value) (nn : Nat), 1 ≤ nn ∧ nn ≤ n2 → Q .normal { tmps := List.toArray (t0 :: .slice (some ⟨b, o, none⟩) nc cc0 :: t2 :: t3 :: t4 :: t5 :: t6 :: t7 :: t8 :: t9 :: .int .i64 (k : Int) :: t11 :: t12 :: t13 :: t14 :: t15 :: .int .i64 (j : Int) :: .int .i64 (nn : Int) :: t18 :: t19 :: t20 :: t21 :: t22 :: t23 :: t24 :: t25 :: t26 :: t27 :: t28 :: t29 :: t30 :: t31 :: t32 :: t33 :: t34 :: t35 :: t36 :: t37 :: t38 :: t39 :: t40 :: t41 :: t42 :: t43 :: t44 :: t45 :: t46 :: t47 :: t48 :: t49 :: t50 :: t51 :: t52 :: t53 :: t54 :: t55 :: t56 :: t57 :: t58 :: t59 :: t60 :: t61 :: t62 :: t63 :: t64 :: t65 :: t66 :: t67 :: t68 :: t69 :: t70 :: t71 :: t72 :: t73 :: t74 :: t75 :: t76 :: t77 :: t78 :: t79 :: t80 :: t81 :: t82 :: t83 :: t84 :: t85 :: t86 :: t87 :: t88 :: x89 :: x90 :: x91 :: x92 :: x93 :: x94 :: x95 :: x96 :: x97 :: t98 :: t99 :: t100 :: t101 :: t102 :: t103 :: t104 :: t105 :: t106 :: t107 :: t108 :: t109 :: t110 :: t111 :: t112 :: t113 :: t114 :: t115 :: t116 :: t117 :: t118 :: t119 :: t120 :: t121 :: t122 :: t123 :: t124 :: t125 :: t126 :: t127 :: t128 :: t129 :: t130 :: t131 :: t132 :: t133 :: t134 :: t135 :: t136 :: t137 :: t138 :: t139 :: t140 :: t141 :: t142 :: t143 :: t144 :: t145 :: t146 :: t147 :: t148 :: t149 :: t150 :: t151 :: t152 :: t153 :: t154 :: t155 :: t156 :: t157 :: t158 :: t159 :: t160 :: []), defers := [] } V) :
    Code.wp Tryd.prog (Code.region 23 #[{ dst := some 89, op := Op.move (Operand.tmp 1), type := 69, pos := "law.go:208", after := #[], guard := none },
{ dst := some 90, op := Op.move (Operand.tmp 10), type := 3, pos := "law.go:208", after := #[], guard := none },
{ dst := some 91, op := Op.move (Operand.tmp 16), type := 3, pos := "law.go:208", after := #[], guard := none },
{ dst := some 92, op := Op.binOp BinOp.add 3 (Operand.tmp 90) (Operand.tmp 91) 3, type := 3, pos := "law.go:208", after := #[{ on := 1, ground := Ground.data }, { on := 2, ground := Ground.data }], guard := none },
{ dst := some 93, op := Op.indexAddr 69 (Operand.tmp 89) (Operand.tmp 92), type := 0, pos := "law.go:208", after := #[{ on := 0, ground := Ground.data }, { on := 3, ground := Ground.data }], guard := none },
{ dst := some 94, op := Op.load 3 (Operand.tmp 93), type := 3, pos := "law.go:208", after := #[{ on := 4, ground := Ground.data }], guard := none },
{ dst := some 95, op := Op.move (Operand.tmp 17), type := 3, pos := "law.go:208", after := #[], guard := none },
{ dst := some 96, op := Op.call { callee := Callee.builtin Builtin.min, args := #[Operand.tmp 94, Operand.tmp 95], argTypes := #[3, 3] }, type := 3, pos := "law.go:208", after := #[{ on := 5, ground := Ground.data }, { on := 6, ground := Ground.data }], guard := none },
{ dst := some 97, op := Op.call { callee := Callee.builtin Builtin.max, args := #[Operand.const (Value.int IntKind.i64 1), Operand.tmp 96], argTypes := #[3, 3] }, type := 3, pos := "law.go:208", after := #[{ on := 7, ground := Ground.data }], guard := none },
{ dst := some 17, op := Op.assign (Operand.tmp 97), type := 3, pos := "law.go:208", after := #[{ on := 8, ground := Ground.data }, { on := 0, ground := Ground.phase }, { on := 1, ground := Ground.phase }, { on := 2, ground := Ground.phase }, { on := 3, ground := Ground.phase }, { on := 4, ground := Ground.phase }, { on := 5, ground := Ground.phase }, { on := 6, ground := Ground.phase }, { on := 7, ground := Ground.phase }, { on := 8, ground := Ground.phase }], guard := none }] false) Q { tmps := List.toArray (t0 :: .slice (some ⟨b, o, none⟩) nc cc0 :: t2 :: t3 :: t4 :: t5 :: t6 :: t7 :: t8 :: t9 :: .int .i64 (k : Int) :: t11 :: t12 :: t13 :: t14 :: t15 :: .int .i64 (j : Int) :: .int .i64 (n2 : Int) :: t18 :: t19 :: t20 :: t21 :: t22 :: t23 :: t24 :: t25 :: t26 :: t27 :: t28 :: t29 :: t30 :: t31 :: t32 :: t33 :: t34 :: t35 :: t36 :: t37 :: t38 :: t39 :: t40 :: t41 :: t42 :: t43 :: t44 :: t45 :: t46 :: t47 :: t48 :: t49 :: t50 :: t51 :: t52 :: t53 :: t54 :: t55 :: t56 :: t57 :: t58 :: t59 :: t60 :: t61 :: t62 :: t63 :: t64 :: t65 :: t66 :: t67 :: t68 :: t69 :: t70 :: t71 :: t72 :: t73 :: t74 :: t75 :: t76 :: t77 :: t78 :: t79 :: t80 :: t81 :: t82 :: t83 :: t84 :: t85 :: t86 :: t87 :: t88 :: t89 :: t90 :: t91 :: t92 :: t93 :: t94 :: t95 :: t96 :: t97 :: t98 :: t99 :: t100 :: t101 :: t102 :: t103 :: t104 :: t105 :: t106 :: t107 :: t108 :: t109 :: t110 :: t111 :: t112 :: t113 :: t114 :: t115 :: t116 :: t117 :: t118 :: t119 :: t120 :: t121 :: t122 :: t123 :: t124 :: t125 :: t126 :: t127 :: t128 :: t129 :: t130 :: t131 :: t132 :: t133 :: t134 :: t135 :: t136 :: t137 :: t138 :: t139 :: t140 :: t141 :: t142 :: t143 :: t144 :: t145 :: t146 :: t147 :: t148 :: t149 :: t150 :: t151 :: t152 :: t153 :: t154 :: t155 :: t156 :: t157 :: t158 :: t159 :: t160 :: []), defers := [] } V := by
  have HQ : Hid (∀ (x89 x90 x91 x92 x93 x94 x95 x96 x97 : Value) (z : Int), 1 ≤ z ∧ z ≤ (n2 : Int) → Q .normal { tmps := List.toArray (t0 :: .slice (some ⟨b, o, none⟩) nc cc0 :: t2 :: t3 :: t4 :: t5 :: t6 :: t7 :: t8 :: t9 :: .int .i64 (k : Int) :: t11 :: t12 :: t13 :: t14 :: t15 :: .int .i64 (j : Int) :: .int .i64 z :: t18 :: t19 :: t20 :: t21 :: t22 :: t23 :: t24 :: t25 :: t26 :: t27 :: t28 :: t29 :: t30 :: t31 :: t32 :: t33 :: t34 :: t35 :: t36 :: t37 :: t38 :: t39 :: t40 :: t41 :: t42 :: t43 :: t44 :: t45 :: t46 :: t47 :: t48 :: t49 :: t50 :: t51 :: t52 :: t53 :: t54 :: t55 :: t56 :: t57 :: t58 :: t59 :: t60 :: t61 :: t62 :: t63 :: t64 :: t65 :: t66 :: t67 :: t68 :: t69 :: t70 :: t71 :: t72 :: t73 :: t74 :: t75 :: t76 :: t77 :: t78 :: t79 :: t80 :: t81 :: t82 :: t83 :: t84 :: t85 :: t86 :: t87 :: t88 :: x89 :: x90 :: x91 :: x92 :: x93 :: x94 :: x95 :: x96 :: x97 :: t98 :: t99 :: t100 :: t101 :: t102 :: t103 :: t104 :: t105 :: t106 :: t107 :: t108 :: t109 :: t110 :: t111 :: t112 :: t113 :: t114 :: t115 :: t116 :: t117 :: t118 :: t119 :: t120 :: t121 :: t122 :: t123 :: t124 :: t125 :: t126 :: t127 :: t128 :: t129 :: t130 :: t131 :: t132 :: t133 :: t134 :: t135 :: t136 :: t137 :: t138 :: t139 :: t140 :: t141 :: t142 :: t143 :: t144 :: t145 :: t146 :: t147 :: t148 :: t149 :: t150 :: t151 :: t152 :: t153 :: t154 :: t155 :: t156 :: t157 :: t158 :: t159 :: t160 :: []), defers := [] } V) := fun x89 x90 x91 x92 x93 x94 x95 x96 x97 z hz => by
    have h := hQ x89 x90 x91 x92 x93 x94 x95 x96 x97 z.toNat (by omega)
    rw [show ((z.toNat : Nat) : Int) = z by omega] at h
    exact h
  clear hQ
  have hw : IntKind.i64.wrap ((k : Int) + (j : Int)) = ((k + j : Nat) : Int) := by rw [show ((k + j : Nat) : Int) = (k : Int) + (j : Int) by omega]; exact IntWalk.i64_in _ (by omega)
  have hlt : ((k + j : Nat) : Int) < (nc : Int) := by omega
  go_wp2_with fail
  all_goals refine HQ.out _ _ _ _ _ _ _ _ _ _ ?_
  all_goals first | omega | (unfold wrap64; omega)
def lenV : Value → Nat
  | .slice _ n _ => n
  | _ => 0
theorem MineO.at_ {w : World} {lo n c : Nat} {s : Option Addr} {xs : List Nat} (h : MineO w lo (.slice s n c) xs) : n = xs.length ∧ n ≤ c ∧ c < 9223372036854775808 ∧ (0 < n → ∃ T o, s = some ⟨T, o, none⟩) := by
  rcases h with ⟨e, rfl⟩ | ⟨T, o, cap, pre, sp, post, e, h1, h2, h3, h4, K⟩
  · cases e
    exact ⟨rfl, Nat.le_refl _, by decide, fun h => absurd h (by decide)⟩
  · cases e
    exact ⟨rfl, by omega, h3, fun _ => ⟨T, o, rfl⟩⟩
theorem ho_fit {x : MsI} (h : MgFit x) (hk : x.1.kd ≠ 7) : MsFit x.1 := ⟨Nat.le_trans h.1 (by decide), Nat.le_trans h.2.1 (by decide), fun h7 => absurd h7 hk⟩
set_option maxRecDepth 100000 in
set_option maxHeartbeats 16000000 in
theorem walk (L : List DeM) (C : List Int) (v u0 : Value) (w : World) (hL : LaidM w) (hR : RowV deR w w.heap.size v L) (hV : ∀ x ∈ L, DeV w w.heap.size x) (hC : RowV intR w w.heap.size u0 C) (hCi : ∀ z ∈ C, -9223372036854775808 ≤ z ∧ z ≤ 9223372036854775807) :
    Calls Tryd.prog 4 #[v, u0] w fun e w' => e = .returned (.bool true) ∧ Below w.heap.size w w' := by
  obtain ⟨sc0, cc0, rfl⟩ := hC.slice
  obtain ⟨nc, hnc⟩ : ∃ nc, nc = C.length := ⟨_, rfl⟩
  rw [← hnc] at hC ⊢
  have HNC := Lib.hid hnc
  have HC := Lib.hid hC
  have HCI := Lib.hid hCi
  clear hnc hC hCi
  obtain ⟨s0, c, rfl⟩ := hR.slice
  obtain ⟨n, hnl⟩ : ∃ n, n = L.length := ⟨_, rfl⟩
  rw [← hnl] at hR ⊢
  have HN := Lib.hid hnl
  have HLD := Lib.hid hL
  have HV := Lib.hid hV
  have HRW := Lib.hid hR
  have HROW : Hid (∀ k, k < n → ∃ x b o, L[k]? = some x ∧ s0 = some ⟨b, o, none⟩ ∧ b < w.heap.size ∧ w.rangeAt b (o + k * 4) (deL x)) := by
    show ∀ k, k < n → _
    rw [hnl]
    exact row_at (show RowV deR w w.heap.size (.slice s0 L.length c) L from by rw [← hnl]; exact hR)
  have h63 : n < 9223372036854775808 := by
    obtain ⟨_, _, e, h1, h2, _⟩ := hR
    omega
  have hlo : 3 + 1 ≤ w.heap.size := hL.size
  have HLO := Lib.hid hlo
  have HSY := Lib.hid (greets_any w hL)
  clear hR hV hL hnl hlo
  go_enter Tryd.func4, Tryd.ntmps4
  go_wp2_with fail
  refine HSY.out.mono ?_
  rintro e w1 ⟨rfl, hb1⟩
  have HB1 := Lib.hid hb1
  have HFT := Lib.hid (dfits_any s0 n c L w1 ((HRW.out.keep hb1 (Nat.le_refl _)).mono hb1.size) (fun x hx => ((HV.out x hx).keep hb1 (Nat.le_refl _)).mono hb1.size) HN.out)
  clear hb1 HSY
  go_wp2_with fail
  refine HFT.out.mono ?_
  rintro e w2 ⟨fb, rfl, hfb, hb2⟩
  have HB2 := Lib.hid (below_step HB1.out HB1.out.size hb2)
  cases fb
  · clear hb2 HFT hfb
    go_wp2_with fail
    go_ret
    exact ⟨rfl, HB2.out⟩
  have hff := hfb rfl
  have hn25 := hff.1
  have HFD := Lib.hid hff.2
  by_cases h50 : 50 < nc
  · have d50 : decide ((50 : Int) < (nc : Int)) = true := decide_eq_true (by omega)
    clear hb2 HFT hfb hff HB1
    go_wp2_with fail
    go_ret
    exact ⟨rfl, HB2.out⟩
  have d50 : decide ((50 : Int) < (nc : Int)) = false := decide_eq_false (by omega)
  have HNW : Hid (Calls Tryd.prog 12 #[.int .u64 3, .int .u32 1, .int .i64 0] w2 fun r w' => ∃ p b, r = .returned (.tuple #[.pointer (some ⟨p, 0, none⟩), .slice (some ⟨b, 0, none⟩) 1 1]) ∧ w2.heap.size ≤ p ∧ PeK w' p (pe0 3 0) (.slice none 0 0) ∧ w2.heap.size ≤ b ∧ Bk w' b 58 (msR.c (verM 3 1)).toArray ∧ Below w2.heap.size w2 w') := new_any 3 1 0 w2
  clear hb2 HFT hfb hff HB1
  go_wp2_with fail
  refine HNW.out.mono ?_
  rintro r w3 ⟨p, b, rfl, hp, hK, hb, hKb, hB⟩
  have HP : Hid (w.heap.size ≤ p) := Nat.le_trans HB2.out.size hp
  have hb2 := below_step HB2.out HB2.out.size hB
  have R8 : RowV msR (w3.alloc (.cells (msR.flat [verM 4 0, vk2]).toArray 58)) (w3.alloc (.cells (msR.flat [verM 4 0, vk2]).toArray 58)).heap.size (.slice (some ⟨w3.heap.size, 0, none⟩) 2 2) [verM 4 0, vk2] := row_built msR_ok (n := 2) (Bk.new w3 58 _) rfl (by decide)
  have B8 : Below w3.heap.size w3 (w3.alloc (.cells (msR.flat [verM 4 0, vk2]).toArray 58)) := (Below.refl _ _).alloc (Nat.le_refl _) _
  have HBB := Lib.hid (below_step hb2 hb2.size B8)
  have HHK := Lib.hid (hK.keep B8)
  have hal := mall_any (some ⟨w3.heap.size, 0, none⟩) 2 2 [verM 4 0, vk2] _ R8 (fun x hx => by
    rcases List.mem_cons.1 hx with rfl | hx
    · exact ver_ok 4 0 (by decide) (by decide) _ _
    · rw [List.mem_singleton.1 hx]; exact vk2_ok _ _) (by decide) (HLD.out.below HBB.out HLO.out)
  rw [hel_all] at hal
  have HAL : Hid (Calls Tryd.prog 27 #[.slice (some ⟨w3.heap.size, 0, none⟩) 2 2] (w3.alloc (.cells (msR.flat [verM 4 0, vk2]).toArray 58)) fun r w' => ∃ v', r = .returned (.tuple #[v', .int .i64 0]) ∧ Below (w3.alloc (.cells (msR.flat [verM 4 0, vk2]).toArray 58)).heap.size (w3.alloc (.cells (msR.flat [verM 4 0, vk2]).toArray 58)) w' ∧ Mine w' (w3.alloc (.cells (msR.flat [verM 4 0, vk2]).toArray 58)).heap.size v' (helB 4 0)) := hal.mono fun r w' ⟨v', e, h1, h2, _⟩ => ⟨v', e, h1, h2 rfl⟩
  clear hp hK hb hKb hB hb2 R8 B8 hal HNW d50 HB2
  go_wp2_with (refine wpList_bsR2 msR_ok (by decide) rfl (.tmp 39) (.tmp 40) rfl (verM 4 0) vk2 (by show Value.agg ((Tryd.zeroCells58.setIfInBounds 0 (.int .i64 1)).setIfInBounds 1 (.int .u64 4)) = _; exact congrArg Value.agg (ver_cells0 4)) (by show Value.agg (Tryd.zeroCells58.setIfInBounds 0 (.int .i64 2)) = _; rw [m2_cells]; rfl) ?_)
  refine HAL.out.mono ?_
  rintro r w4 ⟨bv, rfl, hb4, hm4⟩
  have HI0 : Hid (HoS w4 p w.heap.size 0 (pe0 3 0) (.slice none 0 0) bv (helB 4 0)) := HoS.start (HHK.out.keep hb4) (.inl ⟨rfl, rfl⟩) (hm4.mono (Nat.le_trans HBB.out.size (Nat.le_refl _))) (fun k h => absurd h (slb_none _ _ _))
  have HB4 := Lib.hid (below_step HBB.out HBB.out.size hb4)
  have hx0 : (helB 4 0).length ≤ 1000 := helB_len 4 0
  have HSC0 : Hid ((pe0 3 0).sc = 0) := rfl
  clear hb4 hm4 HAL HBB HHK
  go_wp2_with fail
  go_loopw [7, 9, 47] (fun vv nw i wr => ∃ (k : Nat) (now : Int) (m : PeM) (vp : Value) (X : List Nat) (v7 : Value), k ≤ n ∧ vv = v7 ∧ nw = .int .i64 now ∧ i = .int .i64 k ∧ (0 ≤ now ∧ now ≤ 50 * (k : Int)) ∧ X.length ≤ 1000 ∧ Hid (HoS wr p w.heap.size now m vp v7 X) ∧ Hid (Below w.heap.size w wr) ∧ Hid (m.sc = 0)) (fun _ _ i _ => n - (intOf i).toNat)
  case atStart => exact ⟨0, 0, pe0 3 0, .slice none 0 0, helB 4 0, bv, Nat.zero_le _, rfl, rfl, rfl, ⟨by omega, by omega⟩, hx0, HI0, HB4, HSC0⟩
  case round =>
    clear HI0 HB4 hx0 HSC0
    obtain ⟨k, now, m, vp, X, v7, hk, hv7, rfl, rfl, hnow, hXl, HI, HB, HSC⟩ := hrel
    replace hv7 := hv7.symm
    subst hv7
    by_cases hlt : k < n
    · obtain ⟨x, bb, oo, hkx, hse, hbw, hrg⟩ := HROW.out k hlt
      subst hse
      have j1 : decide ((k : Int) < (n : Int)) = true := decide_eq_true (by omega)
      have hrg := rr_below hrg HB.out hbw
      have r0 : wr.cell? ⟨bb, oo + k * 4, none⟩ = some (.int .i64 x.kd) := hrg 0 _ rfl
      have r1 : wr.cell? ⟨bb, oo + k * 4 + 1, none⟩ = some (.int .i64 x.n) := hrg 1 _ rfl
      have r2 : wr.cell? ⟨bb, oo + k * 4 + 2, none⟩ = some (.slice x.ls x.list.length x.lc) := hrg 2 _ rfl
      have r3 : wr.cell? ⟨bb, oo + k * 4 + 3, none⟩ = some (.slice x.ds x.data.length x.dc) := hrg 3 _ rfl
      have hmem := List.mem_of_getElem? hkx
      have HDV := Lib.hid ((HV.out x hmem).keep HB.out (Nat.le_refl _))
      have HDF := Lib.hid (HFD.out x hmem)
      obtain ⟨nl, hnl⟩ : ∃ nl, nl = x.list.length := ⟨_, rfl⟩
      obtain ⟨nd, hnd⟩ : ∃ nd, nd = x.data.length := ⟨_, rfl⟩
      rw [← hnl] at r2
      rw [← hnd] at r3
      have hl6 : nl ≤ 6 := by rw [hnl]; exact HDF.out.1
      obtain ⟨xk, hxk⟩ : ∃ a, a = x.kd := ⟨_, rfl⟩
      obtain ⟨xn, hxn⟩ : ∃ a, a = x.n := ⟨_, rfl⟩
      obtain ⟨xls, hxls⟩ : ∃ a, a = x.ls := ⟨_, rfl⟩
      obtain ⟨xlc, hxlc⟩ : ∃ a, a = x.lc := ⟨_, rfl⟩
      obtain ⟨xds, hxds⟩ : ∃ a, a = x.ds := ⟨_, rfl⟩
      obtain ⟨xdc, hxdc⟩ : ∃ a, a = x.dc := ⟨_, rfl⟩
      rw [← hxk] at r0
      rw [← hxn] at r1
      rw [← hxls, ← hxlc] at r2
      rw [← hxds, ← hxdc] at r3
      have HML : Hid (∀ j, j < nl → ∃ y b o, x.list[j]? = some y ∧ xls = some ⟨b, o, none⟩ ∧ b < w.heap.size ∧ wr.rangeAt b (o + j * 106) (msL y.1)) := by
        show ∀ j, j < nl → _
        rw [hnl, hxls]
        exact row_at HDV.out.2.2.1
      obtain ⟨XL, hXL⟩ : ∃ XL, XL = x.list := ⟨_, rfl⟩
      have HMV : Hid (∀ y ∈ XL, MsV wr w.heap.size y.1 ∧ MgFit y) := by
        show ∀ y ∈ XL, _
        rw [hXL]
        exact fun y hy => ⟨HDV.out.2.2.2.1 y hy, HDF.out.2.2 y hy⟩
      rw [← hXL] at HML
      have HNL : Hid (nl = XL.length) := by show nl = _; rw [hXL]; exact hnl
      have HXN : Hid (-9223372036854775808 ≤ xn ∧ xn ≤ 9223372036854775807) := by
        show _ ∧ _
        rw [hxn]
        exact HDV.out.2.1
      clear hrg hkx hmem hnl hnd hxk hxn hxls hxlc hxds hxdc hXL HDV HDF
      go_upto_region 11 with fail
      refine wp_any (fun W => Below wr.heap.size wr W ∧ Bk W wr.heap.size 39 #[.int .i64 xk, .int .i64 xn, .slice xls nl xlc, .slice xds nd xdc]) ⟨(Below.refl _ _).alloc (Nat.le_refl _) _, Bk.new _ _ _⟩ ?_
      clear r0 r1 r2 r3
      rintro W ⟨hb, K6⟩
      have HBW := Lib.hid (below_step HB.out HB.out.size hb)
      have HWB : Hid (Below w.heap.size wr W) := hb.mono HB.out.size
      have HIW := Lib.hid (HI.out.keep hb)
      have c2 := K6.cell 2
      obtain ⟨DA, hDA⟩ : ∃ a : Array Value, a = #[.int .i64 xk, .int .i64 xn, .slice xls nl xlc, .slice xds nd xdc] := ⟨_, rfl⟩
      have HDA : Hid (DA[1]? = some (.int .i64 xn)) := by show _ = _; rw [hDA]; rfl
      rw [← hDA] at K6
      have HKD := Lib.hid K6
      have HNP : Hid (wr.heap.size ≠ p) := by have := HI.out.kp.lt; show wr.heap.size ≠ p; omega
      have z6 := K6.lt
      have hnb : n ≤ 25 := hn25
      obtain ⟨p11, hp11⟩ : ∃ a, a = wr.heap.size := ⟨_, rfl⟩
      rw [← hp11] at HKD HNP c2 z6 ⊢
      clear hb K6 hp11 hDA
      go_wp2_with fail
      clear c2 z6
      obtain ⟨wr0, hwr0⟩ : ∃ a, a = wr := ⟨_, rfl⟩
      rw [← hwr0] at HML HMV HWB
      clear HB HI
      clear hwr0
      clear wr
      have HX0 : Hid (HoS W p w.heap.size now m vp v7 (X ++ hoL (XL.take 0))) := by
        show HoS _ _ _ _ _ _ _ _
        rw [List.take_zero, show hoL [] = [] from rfl, List.append_nil]
        exact HIW.out
      go_loopw [7, 55] (fun vv i wr => ∃ (j : Nat) (v7 : Value), j ≤ nl ∧ vv = v7 ∧ i = .int .i64 j ∧ Hid (HoS wr p w.heap.size now m vp v7 (X ++ hoL (XL.take j))) ∧ Hid (Below w.heap.size w wr) ∧ Hid (Below w.heap.size wr0 wr) ∧ Hid (Bk wr p11 39 DA)) (fun _ i _ => nl - (intOf i).toNat)
      case atStart => exact ⟨0, v7, Nat.zero_le _, rfl, rfl, HX0, HBW, HWB, HKD⟩
      case round =>
        clear HBW HWB HIW HX0 HKD
        obtain ⟨j, v8, hj, hv8, rfl, HI, HBW, HWB, HKD⟩ := hrel
        replace hv8 := hv8.symm
        subst hv8
        by_cases hlt2 : j < nl
        · obtain ⟨y, b2, o2, hjy, hse2, hbw2, hrg2⟩ := HML.out j hlt2
          subst hse2
          have j2 : decide ((j : Int) < (nl : Int)) = true := decide_eq_true (by omega)
          replace hrg2 := rr_below hrg2 HWB.out hbw2
          have hbr : b2 < wr.heap.size := Nat.lt_of_lt_of_le hbw2 HBW.out.size
          have hmem2 := List.mem_of_getElem? hjy
          have HMV2 := Lib.hid (((HMV.out y hmem2).1).keep HWB.out (Nat.le_refl _))
          have HMF := Lib.hid ((HMV.out y hmem2).2)
          have HJY := Lib.hid hjy
          obtain ⟨hstc, K7, B7⟩ := row_made msR_ok y wr Tryd.zeroCells58 58 (by rw [msz]; exact msL_len hd0_is)
          change (storeCells ⟨wr.heap.size, 0, none⟩ (msL y.1)).run Tryd.prog _ = .ok () ((wr.alloc _).setCells wr.heap.size 0 (msL y.1)) at hstc
          change Bk ((wr.alloc _).setCells wr.heap.size 0 (msL y.1)) wr.heap.size 58 (msL y.1).toArray at K7
          change Below wr.heap.size wr ((wr.alloc _).setCells wr.heap.size 0 (msL y.1)) at B7
          have hpl : (msL y.1).length = 106 := msL_len y.2
          have hps : (Tryd.prog.info? 58).map (·.size) = some (msL y.1).length := by rw [hpl]; exact msi_r
          have HB6 := Lib.hid B7
          obtain ⟨yk, hyk⟩ : ∃ a, a = y.1.kd := ⟨_, rfl⟩
          obtain ⟨PL, hPL⟩ : ∃ PL, PL = msL y.1 := ⟨_, rfl⟩
          have HPL := Lib.hid hPL
          have hpl0 : PL[0]? = some (.int .i64 yk) := by rw [hPL, hyk]; rfl
          rw [← hPL] at hrg2 hstc K7 hpl hps HB6
          have HPS := Lib.hid hps
          have HYK := Lib.hid hyk
          have HP0 := Lib.hid hpl0
          clear hPL hjy hmem2 B7 hyk hpl0
          go_upto_region 14 with (refine wpList_load_mid rfl 58 (.tmp 57) rfl b2 (o2 + j * 106) rfl PL _ hrg2 Tryd.underlying58 rfl hps ?_)
          refine wp_any (fun W => Below wr.heap.size wr W ∧ Bk W wr.heap.size 58 PL.toArray) ⟨HB6.out, K7⟩ ?_
          clear HB6 K7 hstc hpl hps hrg2 hbr
          rintro W6 ⟨hW6, K7⟩
          have HB6 := Lib.hid (below_step HBW.out HBW.out.size hW6)
          have HB60 : Hid (Below w.heap.size wr0 W6) := HWB.out.trans (hW6.mono HBW.out.size)
          have HI6 := Lib.hid (HI.out.keep hW6)
          have HKD6 : Hid (Bk W6 p11 39 DA) := HKD.out.keep hW6
          have HMV6 : Hid (MsV W6 W6.heap.size y.1) := (HMV2.out.keep (hW6.mono HBW.out.size) (Nat.le_refl _)).mono HB6.out.size
          have HK7 := Lib.hid K7
          have z7 := K7.lt
          have c0 : W6.cell? ⟨wr.heap.size, 0, none⟩ = some (.int .i64 yk) := (K7.cell 0).trans (by rw [List.getElem?_toArray]; exact HP0.out)
          generalize wr.heap.size = g9 at *
          clear hW6 K7 HBW HWB HI HMV2 HKD
          by_cases h2 : (2 : Int) < yk
          case neg =>
            have q2 : decide ((2 : Int) < yk) = false := decide_eq_false h2
            have HQ7 : Hid (¬ hoQ y = true) := by
              show ¬ _
              unfold hoQ
              rw [← HYK.out]
              simp [h2]
            have HX2 : Hid (HoS W6 p w.heap.size now m vp v8 (X ++ hoL (XL.take (j + 1)))) := by
              show HoS _ _ _ _ _ _ _ _
              rw [hoL_take XL j y HJY.out, show hoB y = [] from by unfold hoB; rw [if_neg HQ7.out], List.append_nil]
              exact HI6.out
            clear HI6
            go_wp2_with fail
            go_roundw
            case rel => exact ⟨j + 1, v8, by omega, rfl, by go_num, HX2, HB6, HB60, HKD6⟩
            case measure => simp [intOf]; omega
          have q2 : decide ((2 : Int) < yk) = true := decide_eq_true h2
          by_cases h7 : yk = 7
          · have HQ7 : Hid (¬ hoQ y = true) := by
              show ¬ _
              unfold hoQ
              rw [← HYK.out]
              simp [h7]
            have q7 : (yk != 7) = false := by rw [h7]; rfl
            clear h7
            have HX2 : Hid (HoS W6 p w.heap.size now m vp v8 (X ++ hoL (XL.take (j + 1)))) := by
              show HoS _ _ _ _ _ _ _ _
              rw [hoL_take XL j y HJY.out, show hoB y = [] from by unfold hoB; rw [if_neg HQ7.out], List.append_nil]
              exact HI6.out
            clear HI6
            go_wp2_with fail
            go_roundw
            case rel => exact ⟨j + 1, v8, by omega, rfl, by go_num, HX2, HB6, HB60, HKD6⟩
            case measure => simp [intOf]; omega
          have q7 : (yk != 7) = true := by rw [bne_iff_ne]; exact h7
          have HQ7 : Hid (hoB y = encB y.1) := by
            show _ = _
            unfold hoB hoQ
            rw [← HYK.out]
            rw [if_pos (by simp [h2, h7])]
          have hps := HPS.out
          have hrg := hd_range HK7.out
          have HEN : Hid (Calls Tryd.prog 28 #[.agg PL.toArray] W6 fun r w' => ∃ s c, r = .returned (.tuple #[.slice s (encB y.1).length c, .int .i64 ((msE y.1 : Nat) : Int)]) ∧ Below W6.heap.size W6 w' ∧ Mine w' W6.heap.size (.slice s (encB y.1).length c) (encB y.1)) := by
            show Calls _ _ _ _ _
            rw [HPL.out]
            exact menc_slice y.1 W6 HMV6.out (ho_fit HMF.out (by rw [← HYK.out]; exact h7)) (HLD.out.below HB6.out HLO.out)
          clear h2 h7
          go_wp2_with (refine wpList_load_mid rfl 58 (.tmp 13) rfl g9 0 rfl PL _ hrg Tryd.underlying58 rfl hps ?_)
          refine HEN.out.mono ?_
          rintro r w8 ⟨s8, c8, rfl, hb8, hM8⟩
          have HI8 := Lib.hid (HI6.out.keep hb8)
          have hB8 := below_step HB6.out HB6.out.size hb8
          have hlen : (X ++ hoL (XL.take j)).length + (encB y.1).length ≤ 8589934592 := by
            have h1 := hoL_len (XL.take j)
            have h2 := List.length_take_le j XL
            have h3 := encB_len y.1
            have h4 := HNL.out
            rw [List.length_append]
            omega
          obtain ⟨v9, w9, hr9, hM9, hb9, hs9⟩ := appO (X ++ hoL (XL.take j)) (encB y.1) v8 (.slice s8 (encB y.1).length c8) w.heap.size w8 HI8.out.t hB8.size (hM8.bs (encB_lt HMV6.out)) hlen
          have HN : Hid (HoS w9 p w.heap.size now m vp v9 (X ++ hoL (XL.take (j + 1)))) := by
            show HoS _ _ _ _ _ _ _ _
            rw [hoL_take XL j y HJY.out, ← List.append_assoc]
            exact HI8.out.add y HMV6.out (by rw [HQ7.out]; exact hM9) hb9 hs9
          have HKD9 : Hid (Bk w9 p11 39 DA) := hb9.keep (HKD6.out.keep hb8) (fun e => by obtain ⟨_, _, ys, K⟩ := HI8.out.t.slb_lo e; exact absurd (K.type_eq (HKD6.out.keep hb8)) (by decide))
          have hb9' : Below w.heap.size w8 w9 := hb9.below hB8.size (fun jj hjj => (HI8.out.t.slb_lo hjj).1)
          have HB9 := Lib.hid (hB8.trans hb9')
          have HB90 : Hid (Below w.heap.size wr0 w9) := (HB60.out.trans (hb8.mono HB6.out.size)).trans hb9'
          obtain ⟨bl, hbl⟩ : ∃ bl, bl = (encB y.1).length := ⟨_, rfl⟩
          rw [← hbl] at hr9 ⊢
          clear hbl hrg hps hb8 hM8 hB8 hlen hM9 hb9 hs9 hb9' HEN HI6 HI8 HKD6 HB6 HB60 z7 c0
          go_wp2_with (at_builtin; refine wpList_app (v1 := v8) (v2 := .slice s8 bl c8) (v := v9) rfl (.tmp 72) (.tmp 73) rfl rfl rfl rfl hr9 ?_)
          go_roundw
          case rel => exact ⟨j + 1, v9, by omega, rfl, by go_num, HN, HB9, HB90, HKD9⟩
          case measure => simp [intOf]; omega
        · obtain rfl : j = nl := by omega
          have j2 : decide ((j : Int) < (j : Int)) = false := decide_eq_false (by omega)
          have HX1 : Hid (∃ X1, X1 = X ++ hoL XL ∧ X1.length ≤ 60000 ∧ HoS wr p w.heap.size now m vp v8 X1) := by
            refine ⟨_, rfl, ?_, ?_⟩
            · have h1 := hoL_len XL
              have h2 := HNL.out
              rw [List.length_append]
              omega
            · have h := HI.out
              rw [HNL.out, List.take_length] at h
              exact h
          clear HI HML HMV HWB hlt2
          go_wp2_with fail
          obtain ⟨X1, _, hX1, hI1⟩ := HX1.out
          obtain ⟨s1, c1, hv1⟩ := hI1.t.slice
          subst hv1
          have HI1 := Lib.hid hI1
          have HX1L : Hid (X1.length = X1.length) := rfl
          obtain ⟨n1, hn1⟩ : ∃ a, a = X1.length := ⟨_, rfl⟩
          rw [← hn1] at HI1 hX1 ⊢
          have HN1 : Hid (n1 = X1.length) := hn1
          clear hI1 hn1 HX1 HX1L j2
          have HBS := HBW
          have HKDS := HKD
          obtain ⟨ws, hws⟩ : ∃ a, a = wr := ⟨_, rfl⟩
          rw [← hws] at HI1 HBS HKDS ⊢
          clear HBW HKD hws
          clear wr
          go_loopw [7, 16] (fun vv kk wr => ∃ (j : Nat) (s : Option Addr) (n2 c2 : Nat) (Y : List Nat) (m : PeM) (vp : Value), vv = .slice s n2 c2 ∧ Hid (n2 = Y.length) ∧ kk = .int .i64 (j : Int) ∧ j + n2 ≤ 60000 ∧ Hid (HoS wr p w.heap.size now m vp (.slice s n2 c2) Y) ∧ Hid (Below w.heap.size w wr) ∧ Hid (Bk wr p11 39 DA)) (fun vv _ _ => lenV vv)
          case atStart => exact ⟨0, s1, n1, c1, X1, m, vp, rfl, HN1, rfl, by omega, HI1, HBS, HKDS⟩
          case round =>
            clear HI1 HBS HKDS HN1 hX1 HSC
            obtain ⟨j, s, n2, c2, Y, m, vp, rfl, HNY, rfl, hjn, HI, HB, HKD⟩ := hrel
            have HAT := Lib.hid (MineO.at_ HI.out.t)
            have hle : n2 ≤ c2 := HAT.out.2.1
            have hcap : c2 < 9223372036854775808 := HAT.out.2.2.1
            have zp := HI.out.kp.lt
            by_cases hn2 : 0 < n2
            · obtain ⟨T, o, rfl⟩ := HAT.out.2.2.2 hn2
              have d0 : decide ((0 : Int) < (n2 : Int)) = true := decide_eq_true (by omega)
              have hwj : IntKind.i64.wrap ((k : Int) + (j : Int)) = (k : Int) + (j : Int) := IntWalk.i64_in _ (by omega)
              by_cases hkc : k + j < nc
              · have d1 : decide ((k : Int) + (j : Int) < (nc : Int)) = true := decide_eq_true (by omega)
                obtain ⟨z, bt, ot, hkz, hse, hbt, hrgz⟩ := row_at (show RowV intR w w.heap.size (.slice sc0 C.length cc0) C from by rw [← HNC.out]; exact HC.out) (k + j) (by rw [← HNC.out]; exact hkc)
                subst hse
                have hzr := HCI.out z (List.mem_of_getElem? hkz)
                have r0 : w.cell? ⟨bt, ot + (k + j) * 1, none⟩ = some (.int .i64 z) := hrgz 0 _ rfl
                rw [Nat.mul_one] at r0
                have r1 : wr.cell? ⟨bt, ot + (k + j), none⟩ = some (.int .i64 z) := (HB.out.cell (p := ⟨bt, ot + (k + j), none⟩) hbt).trans r0
                have hbr : bt < wr.heap.size := Nat.lt_of_lt_of_le hbt HB.out.size
                go_upto_region 23 with fail
                refine cutsH wr bt ot nc cc0 k j n2 z hkc (by omega) ⟨hn2, by omega⟩ hzr hbr r1 (fun l1 l2 l3 l4 l5 l6 l7 l8 l9 nn hnn => ?_)
                clear r0 r1 hrgz hkz hwj d1
                have hsf := fun W => slice_front T o n2 c2 nn (by omega) W
                have hsr := fun W => slice_rest T o n2 c2 nn (by omega) hle hcap W
                have nt : ∀ k, slb (.slice (some ⟨T, o, none⟩) n2 c2) k → ¬ (k = p ∨ slb vp k) := fun k hk h => h.elim (fun e => HI.out.np.1 (e ▸ hk)) (fun e => HI.out.ap k e hk)
                have hbn : BsN wr (fun k => k = p ∨ slb vp k) (.slice (some ⟨T, o, none⟩) nn c2) (Y.take nn) := bsn_front nn (HI.out.t.bsn HI.out.xb nt) (by have := HNY.out; omega)
                have HHE := Lib.hid (hear_any p w.heap.size m vp (Y.take nn) (some ⟨T, o, none⟩) nn c2 wr (HLD.out.below HB.out HLO.out) HLO.out HP.out HI.out.kp HI.out.mp HI.out.sc HI.out.fs HB.out.size hbn (by rw [List.length_take]; omega))
                have HNN : Hid (nn ≤ Y.length) := by show _ ≤ _; have := HNY.out; omega
                have hlenn : n2 - nn ≤ 60000 := by omega
                clear nt hbn HAT
                go_wp2_with fail
                refine HHE.out.mono ?_
                rintro r w4 h4
                have h4' := h4
                obtain ⟨_, vs9, va9, _, _, rfl, _⟩ := h4'
                obtain ⟨vp4, I4, b4⟩ := HI.out.piece h4 HNN.out
                have HI4 := Lib.hid I4
                have HKD4 : Hid (Bk w4 p11 39 DA) := b4.keep HKD.out (fun h => h.elim (fun e => HNP.out e) (fun e => by obtain ⟨_, _, ys, K⟩ := HI.out.mp.slb_lo e; exact absurd (K.type_eq HKD.out) (by decide)))
                have HB4 : Hid (Below w.heap.size w w4) := HB.out.trans (b4.below HB.out.size (fun jj hj => by
                  rcases hj with h | h
                  · rw [h]; exact HP.out
                  · exact (HI.out.mp.slb_lo h).1))
                have HYL : Hid (n2 - nn = (Y.drop nn).length) := by show _ = _; rw [List.length_drop]; have := HNY.out; omega
                clear h4 I4 b4 HHE
                go_wp2_with fail
                go_roundw
                case rel => exact ⟨j + 1, dropA ⟨T, o, none⟩ c2 nn, n2 - nn, c2 - nn, Y.drop nn, (hearM m (Y.take nn)).1, vp4, rfl, HYL, by go_num, by omega, HI4, HB4, HKD4⟩
                case measure => simp [lenV]; omega
              · have d1 : decide ((k : Int) + (j : Int) < (nc : Int)) = false := decide_eq_false (by omega)
                have hnn : 1 ≤ n2 ∧ n2 ≤ n2 := ⟨hn2, Nat.le_refl _⟩
                clear hwj
                have hsf := fun W => slice_front T o n2 c2 n2 (by omega) W
                have hsr := fun W => slice_rest T o n2 c2 n2 (by omega) hle hcap W
                have nt : ∀ k, slb (.slice (some ⟨T, o, none⟩) n2 c2) k → ¬ (k = p ∨ slb vp k) := fun k hk h => h.elim (fun e => HI.out.np.1 (e ▸ hk)) (fun e => HI.out.ap k e hk)
                have hbn : BsN wr (fun k => k = p ∨ slb vp k) (.slice (some ⟨T, o, none⟩) n2 c2) (Y.take n2) := bsn_front n2 (HI.out.t.bsn HI.out.xb nt) (by have := HNY.out; omega)
                have HHE := Lib.hid (hear_any p w.heap.size m vp (Y.take n2) (some ⟨T, o, none⟩) n2 c2 wr (HLD.out.below HB.out HLO.out) HLO.out HP.out HI.out.kp HI.out.mp HI.out.sc HI.out.fs HB.out.size hbn (by rw [List.length_take]; omega))
                have HNN : Hid (n2 ≤ Y.length) := by show _ ≤ _; have := HNY.out; omega
                have hlenn : n2 - n2 ≤ 60000 := by omega
                clear nt hbn HAT
                go_wp2_with fail
                refine HHE.out.mono ?_
                rintro r w4 h4
                have h4' := h4
                obtain ⟨_, vs9, va9, _, _, rfl, _⟩ := h4'
                obtain ⟨vp4, I4, b4⟩ := HI.out.piece h4 HNN.out
                have HI4 := Lib.hid I4
                have HKD4 : Hid (Bk w4 p11 39 DA) := b4.keep HKD.out (fun h => h.elim (fun e => HNP.out e) (fun e => by obtain ⟨_, _, ys, K⟩ := HI.out.mp.slb_lo e; exact absurd (K.type_eq HKD.out) (by decide)))
                have HB4 : Hid (Below w.heap.size w w4) := HB.out.trans (b4.below HB.out.size (fun jj hj => by
                  rcases hj with h | h
                  · rw [h]; exact HP.out
                  · exact (HI.out.mp.slb_lo h).1))
                have HYL : Hid (n2 - n2 = (Y.drop n2).length) := by show _ = _; rw [List.length_drop]; have := HNY.out; omega
                rw [Nat.sub_self] at HI4 HYL hlenn
                clear h4 I4 b4 HHE
                go_wp2_with fail
                go_roundw
                case rel => exact ⟨j + 1, dropA ⟨T, o, none⟩ c2 n2, 0, c2 - n2, Y.drop n2, (hearM m (Y.take n2)).1, vp4, rfl, HYL, by go_num, by omega, HI4, HB4, HKD4⟩
                case measure => simp [lenV]; omega
            · have d0 : decide ((0 : Int) < (n2 : Int)) = false := decide_eq_false (by omega)
              have hY : Y = [] := List.eq_nil_of_length_eq_zero (by have := HNY.out; omega)
              subst hY
              have c1 : wr.cell? ⟨p11, 1, none⟩ = some (.int .i64 xn) := (HKD.out.cell 1).trans HDA.out
              have z11 := HKD.out.lt
              have hn1m : now ≤ 1000000 := by omega
              go_upto_region 26 with fail
              refine laterH wr p11 now xn ⟨hnow.1, hn1m⟩ HXN.out z11 c1 (fun l1 l2 l3 l4 l5 l6 nw2 hnw2 => ?_)
              have HI2 := Lib.hid (HI.out.later hnw2.1)
              have HGI := Lib.hid HI2.out.fine
              have HGG := Lib.hid (HI2.out.good HGI.out)
              have HTK := Lib.hid (tick_any p m vp nw2 wr HI2.out.kp ⟨HGG.out.2.2.1, HGG.out.2.2.2, by omega⟩ (by rw [HGG.out.2.1]; decide))
              have hnw3 : 0 ≤ nw2 ∧ nw2 ≤ 50 * ((k : Int) + 1) := ⟨by omega, by omega⟩
              have hnw4 : 0 ≤ nw2 ∧ nw2 ≤ 1000000 := ⟨by omega, by omega⟩
              clear c1 z11 hn1m HI HAT hle hcap hnw2 HKD HNY hjn hn2 d0
              obtain ⟨wsT, hwsT⟩ : ∃ a, a = wr := ⟨_, rfl⟩
              rw [← hwsT] at HI2 HTK HB ⊢
              clear zp
              clear hwsT
              clear wr
              go_wp2_with fail
              refine HTK.out.mono ?_
              rintro r w4 ⟨vl, TL, rfl, hK4, hM4, hk4, hb4⟩
              obtain ⟨sl, cl, hvl⟩ := hM4.slice
              subst hvl
              obtain ⟨M2, hM2⟩ : ∃ a, a = (tickF m nw2).1 := ⟨_, rfl⟩
              have hcs : (tickF m nw2 = (m, [], true)) ∨ (tickF m nw2 = ({ m with si := nw2, wt := true }, [pingK (3 + nw2.toNat)], true)) := by
                unfold tickF
                rw [if_neg (by rw [HGI.out.2.2.2]; simp), if_neg (by rw [HGG.out.1]; simp)]
                by_cases h120 : nw2 - m.si < 120
                · exact .inl (by rw [if_pos h120])
                · exact .inr (by rw [if_neg h120, HGG.out.2.1])
              have hok : (tickF m nw2).2.2 = true := by rcases hcs with h | h <;> rw [h]
              have hsc2 : M2.sc = 0 := by rw [hM2]; rcases hcs with h | h <;> (rw [h]; exact HGI.out.2.2.1)
              have hrd2 : M2.rd = true := by rw [hM2]; rcases hcs with h | h <;> (rw [h]; exact HGI.out.2.2.2)
              rw [← hM2] at hK4
              rw [hok]
              have HSR := Lib.hid (score_any p M2 vp w4 hK4)
              have HBD := Lib.hid (bad_any p M2 vp w4 hK4)
              have HRD := Lib.hid (ready_any p M2 vp w4 hK4)
              rw [hsc2] at HSR HBD
              rw [hrd2] at HRD
              have zp4 := hK4.lt
              have HK4 := Lib.hid hK4
              have HM4 := Lib.hid hM4
              have HB4 := Lib.hid hb4
              have HBW4 : Hid (Below w.heap.size w w4) := HB.out.trans (hb4.below HB.out.size (fun jj hj => by have e : jj = p := hj; rw [e]; exact HP.out))
              have HM2 := Lib.hid hM2
              have HK5 := Lib.hid hk4
              have HCS := Lib.hid hcs
              have HSC2 := Lib.hid hsc2
              obtain ⟨tl, htl⟩ : ∃ a, a = TL.length := ⟨_, rfl⟩
              rw [← htl] at HM4 ⊢
              have HTL := Lib.hid htl
              clear hK4 hM4 hk4 hb4 hok hsc2 hrd2 hcs HTK hM2 htl
              go_wp2_with fail
              refine HSR.out.mono ?_
              rintro r w5 ⟨rfl, e5⟩
              subst w5
              go_wp2_with fail
              refine HBD.out.mono ?_
              rintro r w5 ⟨rfl, e5⟩
              subst w5
              go_wp2_with fail
              refine HRD.out.mono ?_
              rintro r w5 ⟨rfl, e5⟩
              subst w5
              clear HSR HBD HRD
              rcases HCS.out with h5 | h5
              · have hTL : TL = [] := by
                  have h := HK5.out
                  rw [h5] at h
                  exact List.map_eq_nil_iff.1 h
                have htl0 : tl = 0 := by rw [HTL.out, hTL]; rfl
                have hMM : M2 = m := by rw [HM2.out, h5]
                have HIF : Hid (HoS w4 p w.heap.size nw2 M2 vp (.slice s n2 c2) []) := by
                  show HoS _ _ _ _ _ _ _ _
                  have hk := HK4.out
                  rw [hMM] at hk ⊢
                  exact HI2.out.calm hk HB4.out
                have HBF := HBW4
                have HSCF := HSC2
                subst htl0
                clear h5 hTL hMM HCS HK5 HTL HM4 HK4 HB4
                go_wp2_with fail
                go_loopw [7, 140] (fun vv i wr => vv = .slice s n2 c2 ∧ i = .int .i64 0 ∧ wr = w4) (fun _ _ _ => 0)
                case atStart => exact ⟨rfl, rfl, rfl⟩
                case round =>
                  obtain ⟨rfl, rfl, rfl⟩ := hrel
                  go_wp2_with fail
                  go_roundw
                  case rel => exact ⟨k + 1, nw2, M2, vp, [], .slice s n2 c2, by omega, rfl, rfl, by go_num, ⟨by omega, by omega⟩, (by decide), HIF, HBF, HSCF⟩
                  case measure => simp [intOf]; omega
              · have hk := HK5.out
                rw [h5] at hk
                obtain ⟨y, hTL, hy⟩ := keys_one hk
                have hyn : y.1.nc = 3 + nw2.toNat := congrArg (fun k : KeyM => k.2.1) hy
                obtain ⟨NN, hNN⟩ : ∃ a, a = 3 + nw2.toNat := ⟨_, rfl⟩
                rw [← hNN] at hyn
                have hnn : NN < 18446744073709551616 := by omega
                have htl1 : tl = 1 := by rw [HTL.out, hTL]; rfl
                have hMM : M2 = { m with si := nw2, wt := true } := by rw [HM2.out, h5]
                have HROWS : Hid (RowV msR w4 w4.heap.size (.slice sl [y].length cl) [y]) := by
                  have h := HM4.out.rows msR_ok
                  rw [htl1, hTL] at h
                  exact h
                have HMM := Lib.hid hMM
                have HYN := Lib.hid hyn
                have HNN := Lib.hid hNN
                subst htl1
                clear h5 hTL hMM HCS HK5 HTL HM4 hk hy hyn hNN
                go_wp2_with fail
                go_loopw [7, 140] (fun vv i wr => ∃ (d : Nat) (v8 : Value), i = .int .i64 (d : Int) ∧ vv = v8 ∧ d ≤ 1 ∧ Hid ((d = 0 → v8 = .slice s n2 c2 ∧ wr = w4) ∧ (d = 1 → HoS wr p w.heap.size nw2 M2 vp v8 (encL (kindL 10) (toL NN 8)) ∧ Below w.heap.size w wr))) (fun _ i _ => 1 - (intOf i).toNat)
                case atStart => exact ⟨0, _, rfl, rfl, by decide, Lib.hid ⟨fun _ => ⟨rfl, rfl⟩, fun h => by cases h⟩⟩
                case round =>
                  obtain ⟨d, v8, rfl, hv8, hd, HD⟩ := hrel
                  replace hv8 := hv8.symm
                  subst hv8
                  by_cases hd1 : d < 1
                  · obtain ⟨hv8, hwr⟩ := HD.out.1 (by omega)
                    subst hv8
                    subst hwr
                    clear HD
                    have d2 : decide ((d : Int) < 1) = true := decide_eq_true (by omega)
                    obtain ⟨x5, b5, o5, hx5, hse5, hbw5, hrg5⟩ := row_at HROWS.out d (by simpa using hd1)
                    have hxy : x5 = y := by
                      have h := List.mem_of_getElem? hx5
                      simpa using h
                    subst hxy
                    subst hse5
                    obtain ⟨hstc, K7, B7⟩ := row_made msR_ok x5 wr Tryd.zeroCells58 58 (by rw [msz]; exact msL_len hd0_is)
                    change (storeCells ⟨wr.heap.size, 0, none⟩ (msL x5.1)).run Tryd.prog _ = .ok () ((wr.alloc _).setCells wr.heap.size 0 (msL x5.1)) at hstc
                    change Bk ((wr.alloc _).setCells wr.heap.size 0 (msL x5.1)) wr.heap.size 58 (msL x5.1).toArray at K7
                    change Below wr.heap.size wr ((wr.alloc _).setCells wr.heap.size 0 (msL x5.1)) at B7
                    have hpl : (msL x5.1).length = 106 := msL_len x5.2
                    have hps : (Tryd.prog.info? 58).map (·.size) = some (msL x5.1).length := by rw [hpl]; exact msi_r
                    have HB6 := Lib.hid B7
                    obtain ⟨PL, hPL⟩ : ∃ PL, PL = msL x5.1 := ⟨_, rfl⟩
                    have hpl1 : PL[1]? = some (.int .u64 (NN : Int)) := by rw [hPL, ← HYN.out]; rfl
                    change wr.rangeAt b5 (o5 + d * 106) (msL x5.1) at hrg5
                    rw [← hPL] at hrg5 hstc K7 hpl hps HB6
                    have HP1 := Lib.hid hpl1
                    clear hPL hx5 B7 hpl1
                    go_upto_region 33 with (refine wpList_load_mid rfl 58 (.tmp 142) rfl b5 (o5 + d * 106) rfl PL _ hrg5 Tryd.underlying58 rfl hps ?_)
                    refine wp_any (fun W => Below wr.heap.size wr W ∧ Bk W wr.heap.size 58 PL.toArray) ⟨HB6.out, K7⟩ ?_
                    clear HB6 K7 hstc hpl hps hrg5 hbw5
                    rintro W6 ⟨hW6, K7⟩
                    have HBT6 : Hid (But (fun k => k = p) wsT W6) := HB4.out.step hW6
                    have HKT6 : Hid (PeK W6 p M2 vp) := HK4.out.keep hW6
                    have z7 := K7.lt
                    have c1 : W6.cell? ⟨wr.heap.size, 1, none⟩ = some (.int .u64 (NN : Int)) := (K7.cell 1).trans (by rw [List.getElem?_toArray]; exact HP1.out)
                    have HB6 := Lib.hid (below_step HBW4.out HBW4.out.size hW6)
                    have hen := mencode_any (pongM NN).1 W6 (pong_ok NN hnn W6 W6.heap.size).1 (pong_ok NN hnn W6 W6.heap.size).2 (HLD.out.below HB6.out HLO.out)
                    have HEN : Hid (Calls Tryd.prog 28 #[.agg ((Tryd.zeroCells58.setIfInBounds 0 (.int .i64 10)).setIfInBounds 1 (.int .u64 (NN : Int)))] W6 fun r w' => ∃ v', r = .returned (.tuple #[v', .int .i64 0]) ∧ Below W6.heap.size W6 w' ∧ Mine w' W6.heap.size v' (encL (kindL 10) (toL NN 8))) := by
                      rw [ms10_cells]
                      exact hen.mono fun r w' ⟨v', e, h1, h2, _⟩ => ⟨v', e, h1, h2 rfl⟩
                    generalize wr.heap.size = g9 at *
                    clear hen hW6 K7
                    go_wp2_with fail
                    refine HEN.out.mono ?_
                    rintro r w8 ⟨bv8, rfl, hb8, hm8⟩
                    obtain ⟨s8, c8, hbv⟩ := hm8.slice
                    subst hbv
                    have hB8 := below_step HB6.out HB6.out.size hb8
                    have hbt8 : But (fun k => k = p) wsT w8 := HBT6.out.step hb8
                    have hmo := HI2.out.t.but hbt8 (fun kk hk e => HI2.out.np.1 (e ▸ hk))
                    obtain ⟨v9, w9, hr9, hM9, hb9, hs9⟩ := appO [] (encL (kindL 10) (toL NN 8)) (.slice s n2 c2) (.slice s8 (encL (kindL 10) (toL NN 8)).length c8) w.heap.size w8 hmo hB8.size (hm8.bs (encL_lt _ _ (by decide) (toL_lt 8 NN))) (by have := encL_pong_len NN; show 0 + _ ≤ _; omega)
                    rw [List.nil_append] at hM9
                    have hK8 : PeK w8 p M2 vp := HKT6.out.keep hb8
                    have HN : Hid (HoS w9 p w.heap.size nw2 M2 vp v9 (encL (kindL 10) (toL NN 8))) := by
                      show HoS _ _ _ _ _ _ _ _
                      rw [HMM.out] at hK8 ⊢
                      rw [HNN.out] at hM9 ⊢
                      exact HI2.out.pinged hnw4 hK8 hbt8 hM9 hb9 hs9
                    have HB9 : Hid (Below w.heap.size w w9) := hB8.trans (hb9.below hB8.size (fun jj hjj => (hmo.slb_lo hjj).1))
                    obtain ⟨bl, hbl⟩ : ∃ bl, bl = (encL (kindL 10) (toL NN 8)).length := ⟨_, rfl⟩
                    rw [← hbl] at hr9 ⊢
                    have hd1' : Hid (d + 1 = 1) := by show _ = _; omega
                    clear hbl hb8 hm8 hB8 hbt8 hmo hM9 hb9 hs9 hK8 HEN HB6 z7 c1
                    go_wp2_with (at_builtin; refine wpList_app (v1 := .slice s n2 c2) (v2 := .slice s8 bl c8) (v := v9) rfl (.tmp 151) (.tmp 152) rfl rfl rfl rfl hr9 ?_)
                    go_roundw
                    case rel => exact ⟨d + 1, v9, by go_num, rfl, by omega, Lib.hid ⟨fun h => absurd h (Nat.succ_ne_zero d), fun _ => ⟨HN.out, HB9.out⟩⟩⟩
                    case measure => simp [intOf]; omega
                  · obtain rfl : d = 1 := by omega
                    have HIF := Lib.hid (HD.out.2 rfl).1
                    have HBF := Lib.hid (HD.out.2 rfl).2
                    have HSCF := HSC2
                    have hxl : (encL (kindL 10) (toL NN 8)).length ≤ 1000 := encL_pong_len NN
                    have d2 : decide (((1 : Nat) : Int) < 1) = false := rfl
                    clear HD
                    go_wp2_with fail
                    go_roundw
                    case rel => exact ⟨k + 1, nw2, M2, vp, encL (kindL 10) (toL NN 8), v8, by omega, rfl, rfl, by go_num, ⟨by omega, by omega⟩, hxl, HIF, HBF, HSCF⟩
                    case measure => simp [intOf]; omega
    · have j1 : decide ((k : Int) < (n : Int)) = false := decide_eq_false (by omega)
      have HSR := Lib.hid (score_any p m vp wr HI.out.kp)
      rw [HSC.out] at HSR
      have zp := HI.out.kp.lt
      go_wp2_with fail
      refine HSR.out.mono ?_
      rintro r w5 ⟨rfl, e5⟩
      subst w5
      go_wp2_with fail
      go_ret
      exact ⟨rfl, HB.out⟩
end Go.Proofs.YtkpffjcdalclmaaDoor.peerHonest
