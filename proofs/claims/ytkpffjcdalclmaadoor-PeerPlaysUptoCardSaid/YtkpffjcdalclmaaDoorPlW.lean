/- What is proved: for every nonce and every list of deeds whose strings and bytes are of 1048576 at most in all, the law PeerPlays returns true, and its arguments read behind the call as they read before it; the three listed tables, two of package hash and one of package msg, are taken to hold what the program's text lays in them, and the card ties them to it. -/
import Derived.Test.YtkpffjcdalclmaaDoorPlR
import Derived.Test.YtkpffjcdalclmaaDoorPsZ
import Derived.Test.YtkpffjcdalclmaaDoorAlk
import Derived.Test.YtkpffjcdalclmaaDoorTie
import Derived.Test.YtkpffjcdalclmaaDoorCards
import Derived.Stop.Joined
namespace Go.Proofs.YtkpffjcdalclmaaDoor.peerPlays
open Go.ChangeShapes Go.WideShapes Go.ChangeAt Go.RowKit
set_option linter.unusedVariables false
theorem own : ownKnob Tryd.prog.godebug = none := by kernel_rfl
theorem laidOut : laidOutB Tryd.prog = true := by kernel_rfl
set_option maxRecDepth 100000 in
set_option maxHeartbeats 16000000 in
theorem laterR {t0 t1 t2 t3 t4 t5 t6 t7 t9 t11 t12 t13 t14 t15 t16 t17 t18 t19 t20 t21 t22 t23 t24 t25 t26 t27 t28 t29 t30 t31 t32 t33 t34 t35 t36 t37 t38 t39 t40 t41 t42 t43 t44 t45 t46 t47 t48 t49 t50 t51 t52 t53 t54 t55 t56 t57 t58 t59 t60 t61 t62 t63 t64 t65 t66 t67 t68 t69 t70 t71 t72 t73 t74 t75 t76 t77 t78 t79 t80 t81 t82 t83 t84 t85 t86 t87 t88 t89 t90 t91 t92 t93 t94 t95 t96 t97 t98 t99 t100 t101 t102 t103 t104 t105 t106 t107 t108 t109 t110 t111 t112 t113 t114 t115 t116 t117 t118 t119 t120 t121 t122 t123 t124 t125 t126 t127 t128 t129 t130 t131 t132 t133 t134 t135 t136 t137 t138 t139 t140 t141 t142 t143 t144 t145 t146 t147 t148 t149 t150 t151 t152 t153 t154 t155 t156 t157 t158 t159 t160 t161 t162 t163 t164 t165 t166 t167 t168 t169 t170 t171 t172 t173 t174 t175 t176 t177 t178 t179 t180 t181 t182 t183 t184 t185 t186 t187 t188 t189 t190 t191 t192 t193 t194 t195 : Value} {Q : Exit → Act → World → Prop} (V : World) (g : Nat) (nw t : Int) (hn : 0 ≤ nw ∧ nw ≤ 1000000) (ht : -9223372036854775808 ≤ t ∧ t ≤ 9223372036854775807) (zg : g < V.heap.size) (hc : V.cell? ⟨g, 1, none⟩ = some (.int .i64 t))
  (hQ : ∀ (x77 x78 x79 x80 x81 x82 : Value) (z : Int), nw ≤ z ∧ z ≤ nw + 1000 → Q .normal { tmps := List.toArray (t0 :: t1 :: t2 :: t3 :: t4 :: t5 :: t6 :: t7 :: .int .i64 z :: t9 :: .pointer (some ⟨g, 0, none⟩) :: t11 :: t12 :: t13 :: t14 :: t15 :: t16 :: t17 :: t18 :: t19 :: t20 :: t21 :: t22 :: t23 :: t24 :: t25 :: t26 :: t27 :: t28 :: t29 :: t30 :: t31 :: t32 :: t33 :: t34 :: t35 :: t36 :: t37 :: t38 :: t39 :: t40 :: t41 :: t42 :: t43 :: t44 :: t45 :: t46 :: t47 :: t48 :: t49 :: t50 :: t51 :: t52 :: t53 :: t54 :: t55 :: t56 :: t57 :: t58 :: t59 :: t60 :: t61 :: t62 :: t63 :: t64 :: t65 :: t66 :: t67 :: t68 :: t69 :: t70 :: t71 :: t72 :: t73 :: t74 :: t75 :: t76 :: x77 :: x78 :: x79 :: x80 :: x81 :: x82 :: t83 :: t84 :: t85 :: t86 :: t87 :: t88 :: t89 :: t90 :: t91 :: t92 :: t93 :: t94 :: t95 :: t96 :: t97 :: t98 :: t99 :: t100 :: t101 :: t102 :: t103 :: t104 :: t105 :: t106 :: t107 :: t108 :: t109 :: t110 :: t111 :: t112 :: t113 :: t114 :: t115 :: t116 :: t117 :: t118 :: t119 :: t120 :: t121 :: t122 :: t123 :: t124 :: t125 :: t126 :: t127 :: t128 :: t129 :: t130 :: t131 :: t132 :: t133 :: t134 :: t135 :: t136 :: t137 :: t138 :: t139 :: t140 :: t141 :: t142 :: t143 :: t144 :: t145 :: t146 :: t147 :: t148 :: t149 :: t150 :: t151 :: t152 :: t153 :: t154 :: t155 :: t156 :: t157 :: t158 :: t159 :: t160 :: t161 :: t162 :: t163 :: t164 :: t165 :: t166 :: t167 :: t168 :: t169 :: t170 :: t171 :: t172 :: t173 :: t174 :: t175 :: t176 :: t177 :: t178 :: t179 :: t180 :: t181 :: t182 :: t183 :: t184 :: t185 :: t186 :: t187 :: t188 :: t189 :: t190 :: t191 :: t192 :: t193 :: t194 :: t195 :: []), defers := [] } V) :
  Code.wp Tryd.prog (Code.region 22 #[{ dst := some 77, op := Op.move (Operand.tmp 8), type := 3, pos := "law.go:170", after := #[], guard := none },
{ dst := some 78, op := Op.fieldAddr 39 (Operand.tmp 10) 1, type := 0, pos := "law.go:170", after := #[], guard := none },
{ dst := some 79, op := Op.load 3 (Operand.tmp 78), type := 3, pos := "law.go:170", after := #[{ on := 1, ground := Ground.data }], guard := none },
{ dst := some 80, op := Op.call { callee := Callee.builtin Builtin.min, args := #[Operand.tmp 79, Operand.const (Value.int IntKind.i64 1000)], argTypes := #[3, 3] }, type := 3, pos := "law.go:170", after := #[{ on := 2, ground := Ground.data }], guard := none },
{ dst := some 81, op := Op.call { callee := Callee.builtin Builtin.max, args := #[Operand.const (Value.int IntKind.i64 0), Operand.tmp 80], argTypes := #[3, 3] }, type := 3, pos := "law.go:170", after := #[{ on := 3, ground := Ground.data }], guard := none },
{ dst := some 82, op := Op.binOp BinOp.add 3 (Operand.tmp 77) (Operand.tmp 81) 3, type := 3, pos := "law.go:170", after := #[{ on := 0, ground := Ground.data }, { on := 4, ground := Ground.data }], guard := none },
{ dst := some 8, op := Op.assign (Operand.tmp 82), type := 3, pos := "law.go:170", after := #[{ on := 5, ground := Ground.data }, { on := 0, ground := Ground.phase }, { on := 1, ground := Ground.phase }, { on := 2, ground := Ground.phase }, { on := 3, ground := Ground.phase }, { on := 4, ground := Ground.phase }, { on := 5, ground := Ground.phase }], guard := none }] false) Q { tmps := List.toArray (t0 :: t1 :: t2 :: t3 :: t4 :: t5 :: t6 :: t7 :: .int .i64 nw :: t9 :: .pointer (some ⟨g, 0, none⟩) :: t11 :: t12 :: t13 :: t14 :: t15 :: t16 :: t17 :: t18 :: t19 :: t20 :: t21 :: t22 :: t23 :: t24 :: t25 :: t26 :: t27 :: t28 :: t29 :: t30 :: t31 :: t32 :: t33 :: t34 :: t35 :: t36 :: t37 :: t38 :: t39 :: t40 :: t41 :: t42 :: t43 :: t44 :: t45 :: t46 :: t47 :: t48 :: t49 :: t50 :: t51 :: t52 :: t53 :: t54 :: t55 :: t56 :: t57 :: t58 :: t59 :: t60 :: t61 :: t62 :: t63 :: t64 :: t65 :: t66 :: t67 :: t68 :: t69 :: t70 :: t71 :: t72 :: t73 :: t74 :: t75 :: t76 :: t77 :: t78 :: t79 :: t80 :: t81 :: t82 :: t83 :: t84 :: t85 :: t86 :: t87 :: t88 :: t89 :: t90 :: t91 :: t92 :: t93 :: t94 :: t95 :: t96 :: t97 :: t98 :: t99 :: t100 :: t101 :: t102 :: t103 :: t104 :: t105 :: t106 :: t107 :: t108 :: t109 :: t110 :: t111 :: t112 :: t113 :: t114 :: t115 :: t116 :: t117 :: t118 :: t119 :: t120 :: t121 :: t122 :: t123 :: t124 :: t125 :: t126 :: t127 :: t128 :: t129 :: t130 :: t131 :: t132 :: t133 :: t134 :: t135 :: t136 :: t137 :: t138 :: t139 :: t140 :: t141 :: t142 :: t143 :: t144 :: t145 :: t146 :: t147 :: t148 :: t149 :: t150 :: t151 :: t152 :: t153 :: t154 :: t155 :: t156 :: t157 :: t158 :: t159 :: t160 :: t161 :: t162 :: t163 :: t164 :: t165 :: t166 :: t167 :: t168 :: t169 :: t170 :: t171 :: t172 :: t173 :: t174 :: t175 :: t176 :: t177 :: t178 :: t179 :: t180 :: t181 :: t182 :: t183 :: t184 :: t185 :: t186 :: t187 :: t188 :: t189 :: t190 :: t191 :: t192 :: t193 :: t194 :: t195 :: []), defers := [] } V := by
 have HQ := Lib.hid hQ
 clear hQ
 go_wp2_with fail
 all_goals refine HQ.out _ _ _ _ _ _ _ ?_
 all_goals first | omega | (unfold wrap64; omega)
def KeyOk (L : List DeM) : Prop := ∀ d ∈ L, ∀ x ∈ d.list, ∀ t ∈ x.1.bk.txs, ∀ i ∈ t.ins, i.key.length ≤ 1100000
theorem tup2_inj {a b c d : Value} (h : (Ending.returned (.tuple #[a, b]) : Ending) = .returned (.tuple #[c, d])) : c = a ∧ d = b := by
 injection h with h
 injection h with h
 have h1 := congrArg (fun x : Array Value => x[0]?) h
 have h2 := congrArg (fun x : Array Value => x[1]?) h
 simp at h1 h2
 exact ⟨h1.symm, h2.symm⟩
theorem keys_pingK {L : List MsI} {n : Nat} (h : keysM L = [pingK n]) : ∃ y, L = [y] ∧ y.1.kd = 9 ∧ y.1.nc = n := by
 obtain ⟨y, rfl, hy⟩ := keys_one h
 exact ⟨y, rfl, congrArg (fun k : KeyM => k.1) hy, congrArg (fun k : KeyM => k.2.1) hy⟩
set_option maxRecDepth 100000 in
set_option maxHeartbeats 16000000 in
theorem walk (nonce : Nat) (L : List DeM) (v : Value) (w : World) (hL : LaidM w) (hR : RowV deR w w.heap.size v L) (hV : ∀ x ∈ L, DeV w w.heap.size x) (hKY : KeyOk L) :
  Calls Tryd.prog 3 #[.int .u64 (nonce : Int), v] w fun e w' => e = .returned (.bool true) ∧ Below w.heap.size w w' := by
 obtain ⟨s0, c, rfl⟩ := hR.slice
 obtain ⟨n, hnl⟩ : ∃ n, n = L.length := ⟨_, rfl⟩
 rw [← hnl] at hR ⊢
 have HN := Lib.hid hnl
 have HLD := Lib.hid hL
 have HV := Lib.hid hV
 have HKY := Lib.hid hKY
 have HRW := Lib.hid hR
 have HROW : Hid (∀ k, k < n → ∃ x b o, L[k]? = some x ∧ s0 = some ⟨b, o, none⟩ ∧ b < w.heap.size ∧ w.rangeAt b (o + k * 4) (deL x)) := by
  show ∀ k, k < n → _
  rw [hnl]
  exact row_at (show RowV deR w w.heap.size (.slice s0 L.length c) L from by rw [← hnl]; exact hR)
 have h63 : n < 9223372036854775808 := by
  obtain ⟨_, _, e, h1, h2, _⟩ := hR
  omega
 have hlo : 3 + 1 ≤ w.heap.size := hL.size
 have HLO := Lib.hid hlo
 have HSY := Lib.hid (greets_any w hL)
 clear hR hV hL hnl hlo hKY
 go_enter Tryd.func3, Tryd.ntmps3
 go_wp2_with fail
 refine HSY.out.mono ?_
 rintro e w1 ⟨rfl, hb1⟩
 have HB1 := Lib.hid hb1
 have HFT := Lib.hid (dfits_any s0 n c L w1 ((HRW.out.keep hb1 (Nat.le_refl _)).mono hb1.size) (fun x hx => ((HV.out x hx).keep hb1 (Nat.le_refl _)).mono hb1.size) HN.out)
 clear hb1 HSY
 go_wp2_with fail
 refine HFT.out.mono ?_
 rintro e w2 ⟨fb, rfl, hfb, hb2⟩
 have HB2 := Lib.hid (below_step HB1.out HB1.out.size hb2)
 cases fb
 ·clear hb2 HFT hfb
  go_wp2_with fail
  go_ret
  exact ⟨rfl, HB2.out⟩
 have hff := hfb rfl
 have hn25 := hff.1
 have HFD := Lib.hid hff.2
 have HNW : Hid (Calls Tryd.prog 12 #[.int .u64 (nonce : Int), .int .u32 1, .int .i64 0] w2 fun r w' => ∃ p b, r = .returned (.tuple #[.pointer (some ⟨p, 0, none⟩), .slice (some ⟨b, 0, none⟩) 1 1]) ∧ w2.heap.size ≤ p ∧ PeK w' p (pe0 nonce 0) (.slice none 0 0) ∧ w2.heap.size ≤ b ∧ Bk w' b 58 (msR.c (verM nonce 1)).toArray ∧ Below w2.heap.size w2 w') := new_any nonce 1 0 w2
 clear hb2 HFT hfb hff HB1
 go_wp2_with fail
 refine HNW.out.mono ?_
 rintro r w3 ⟨p, b, rfl, hp, hK, hb, hKb, hB⟩
 have HP : Hid (w.heap.size ≤ p) := Nat.le_trans HB2.out.size hp
 have HB3 := Lib.hid (below_step HB2.out HB2.out.size hB)
 have HK3 := Lib.hid hK
 clear hp hK hb hKb hB HNW HB2
 go_upto_region 7 with fail
 refine wp_any (fun W => Below w3.heap.size w3 W ∧ Bk W w3.heap.size 37 (tdA (pe0 nonce 0) 0 (.slice none 0 0))) ⟨(Below.refl _ _).alloc (Nat.le_refl _) _, Bk.new _ _ _⟩ ?_
 rintro W0 ⟨hb0, hKQ⟩
 obtain ⟨q, hq⟩ : ∃ q, q = w3.heap.size := ⟨_, rfl⟩
 rw [← hq] at hKQ ⊢
 have HPQ : Hid (p ≠ q) := by have := HK3.out.lt; show p ≠ q; omega
 have HQL : Hid (w.heap.size ≤ q) := by show _ ≤ q; rw [hq]; exact HB3.out.size
 have HI0 : Hid (PlI W0 p q w.heap.size (pe0 nonce 0) 0 0 (.slice none 0 0) (.slice none 0 0)) := {
  kp := HK3.out.keep hb0
  kq := hKQ
  mp := .inl ⟨rfl, rfl⟩
  mq := .inl ⟨rfl, rfl⟩
  ap := fun k h => absurd h (slb_none _ _ _)
  sc := pe0_sc nonce 0
  fs := pe0_fs nonce 0
  td := ⟨(fun h => by cases h), (fun h => by cases h)⟩
  si := ⟨Int.le_refl _, Int.le_refl _⟩
  s0 := fun _ => rfl }
 have HB0 := Lib.hid (below_step HB3.out HB3.out.size hb0)
 clear hb0 hKQ hq HK3 HB3
 go_wp2_with fail
 go_loopw [8, 36] (fun nw i wr => ∃ (k : Nat) (now : Int) (m : PeM) (tn : Nat) (vp vq : Value), k ≤ n ∧ nw = .int .i64 now ∧ i = .int .i64 k ∧ (0 ≤ now ∧ now ≤ 1000 * (k : Int)) ∧ Hid (PlI wr p q w.heap.size m tn now vp vq) ∧ Hid (Below w.heap.size w wr)) (fun _ i _ => n - (intOf i).toNat)
 case atStart => exact ⟨0, 0, pe0 nonce 0, 0, .slice none 0 0, .slice none 0 0, Nat.zero_le _, rfl, rfl, ⟨by omega, by omega⟩, HI0, HB0⟩
 case round =>
  clear HI0 HB0
  obtain ⟨k, now, m, tn, vp, vq, hk, rfl, rfl, hnow, HI, HB⟩ := hrel
  by_cases hlt : k < n
  ·obtain ⟨x, bb, oo, hkx, hse, hbw, hrg⟩ := HROW.out k hlt
   subst hse
   have j1 : decide ((k : Int) < (n : Int)) = true := decide_eq_true (by omega)
   have hrg := rr_below hrg HB.out hbw
   have r0 : wr.cell? ⟨bb, oo + k * 4, none⟩ = some (.int .i64 x.kd) := hrg 0 _ rfl
   have r1 : wr.cell? ⟨bb, oo + k * 4 + 1, none⟩ = some (.int .i64 x.n) := hrg 1 _ rfl
   have r2 : wr.cell? ⟨bb, oo + k * 4 + 2, none⟩ = some (.slice x.ls x.list.length x.lc) := hrg 2 _ rfl
   have r3 : wr.cell? ⟨bb, oo + k * 4 + 3, none⟩ = some (.slice x.ds x.data.length x.dc) := hrg 3 _ rfl
   have hmem := List.mem_of_getElem? hkx
   have HDV := Lib.hid ((HV.out x hmem).keep HB.out (Nat.le_refl _))
   have HDF := Lib.hid (HFD.out x hmem)
   have HDK := Lib.hid (HKY.out x hmem)
   obtain ⟨nl, hnl⟩ : ∃ nl, nl = x.list.length := ⟨_, rfl⟩
   obtain ⟨nd, hnd⟩ : ∃ nd, nd = x.data.length := ⟨_, rfl⟩
   rw [← hnl] at r2
   rw [← hnd] at r3
   have hl6 : nl ≤ 6 := by rw [hnl]; exact HDF.out.1
   obtain ⟨xk, hxk⟩ : ∃ a, a = x.kd := ⟨_, rfl⟩
   obtain ⟨xn, hxn⟩ : ∃ a, a = x.n := ⟨_, rfl⟩
   obtain ⟨xls, hxls⟩ : ∃ a, a = x.ls := ⟨_, rfl⟩
   obtain ⟨xlc, hxlc⟩ : ∃ a, a = x.lc := ⟨_, rfl⟩
   obtain ⟨xds, hxds⟩ : ∃ a, a = x.ds := ⟨_, rfl⟩
   obtain ⟨xdc, hxdc⟩ : ∃ a, a = x.dc := ⟨_, rfl⟩
   rw [← hxk] at r0
   rw [← hxn] at r1
   rw [← hxls, ← hxlc] at r2
   rw [← hxds, ← hxdc] at r3
   obtain ⟨XL, hXL⟩ : ∃ XL, XL = x.list := ⟨_, rfl⟩
   obtain ⟨XD, hXD⟩ : ∃ XD, XD = x.data := ⟨_, rfl⟩
   have HLV : Hid (RowV msR wr wr.heap.size (.slice xls nl xlc) XL) := by
    show RowV _ _ _ _ _
    rw [hnl, hxls, hxlc, hXL]
    exact HDV.out.2.2.1.mono HB.out.size
   have HMV : Hid (∀ y ∈ XL, MsV wr wr.heap.size y.1 ∧ MsFit y.1) := by
    show ∀ y ∈ XL, _
    rw [hXL]
    exact fun y hy => ⟨(HDV.out.2.2.2.1 y hy).mono HB.out.size, MsFit_of_key (HDF.out.2.2 y hy) (HDK.out y hy)⟩
   have HDA : Hid (BsV wr w.heap.size (.slice xds nd xdc) XD) := by
    show BsV _ _ _ _
    rw [hnd, hxds, hxdc, hXD]
    exact HDV.out.2.2.2.2
   have HNL : Hid (nl = XL.length) := by show nl = _; rw [hXL]; exact hnl
   have HND : Hid (XD.length ≤ 2000) := by show _ ≤ _; rw [hXD]; exact HDF.out.2.1
   have HXN : Hid (-9223372036854775808 ≤ xn ∧ xn ≤ 9223372036854775807) := by
    show _ ∧ _
    rw [hxn]
    exact HDV.out.2.1
   clear hXL hXD HDV HDF HDK hmem
   clear hrg hkx hnl hnd hxk hxn hxls hxlc hxds hxdc
   go_upto_region 11 with fail
   refine wp_any (fun W => Below wr.heap.size wr W ∧ Bk W wr.heap.size 39 #[.int .i64 xk, .int .i64 xn, .slice xls nl xlc, .slice xds nd xdc]) ⟨(Below.refl _ _).alloc (Nat.le_refl _) _, Bk.new _ _ _⟩ ?_
   clear r0 r1 r2 r3
   rintro W ⟨hb, K6⟩
   have HBW := Lib.hid (below_step HB.out HB.out.size hb)
   have HIW := Lib.hid (HI.out.keep hb)
   have HLW : Hid (RowV msR W W.heap.size (.slice xls nl xlc) XL) := (HLV.out.keep hb (Nat.le_refl _)).mono hb.size
   have HMVW : Hid (∀ y ∈ XL, MsV W W.heap.size y.1 ∧ MsFit y.1) := fun y hy => ⟨((HMV.out y hy).1.keep hb (Nat.le_refl _)).mono hb.size, (HMV.out y hy).2⟩
   have HDW : Hid (BsV W w.heap.size (.slice xds nd xdc) XD) := HDA.out.keep hb HB.out.size
   have h10 : nl ≤ 10 := by omega
   have c0 := K6.cell 0
   have c1 := K6.cell 1
   have c2 := K6.cell 2
   have c3 := K6.cell 3
   have z6 := K6.lt
   have hnb : n ≤ 25 := hn25
   have HK6 := Lib.hid K6
   have HNP : Hid (wr.heap.size ≠ p ∧ wr.heap.size ≠ q) := ⟨by have := HI.out.kp.lt; omega, by have := HI.out.kq.lt; omega⟩
   generalize wr.heap.size = p6 at *
   clear hb K6 HLV HMV HDA HI HB
   have HN5 : Hid (now ≤ 1000000) := by show _ ≤ _; omega
   by_cases k0 : xk = 0
   ·subst k0
    have HBY := Lib.hid (bytesL_any xls nl xlc XL W HLW.out HMVW.out h10 (HLD.out.below HBW.out HLO.out))
    go_wp2_with fail
    refine HBY.out.mono ?_
    rintro r W1 ⟨u, rfl, hM, hb1⟩
    obtain ⟨sb, cb, rfl⟩ := hM.slice
    have HB1 := Lib.hid (below_step HBW.out HBW.out.size hb1)
    have I1 := Lib.hid (HIW.out.keep hb1)
    have HBX : Hid (∀ z ∈ allB XL, z < 256) := allB_lt (fun y hy => (HMVW.out y hy).1)
    have HBL : Hid ((allB XL).length ≤ 1000000) := by
     have h1 := allB_len XL
     have h2 := HNL.out
     show _ ≤ _
     omega
    have HBN : Hid (BsN W1 (fun k => k = p ∨ slb vp k ∨ k = q ∨ slb vq k) (.slice sb (allB XL).length cb) (allB XL)) := bsn_mine hM HBX.out (fun j hj h => by
     rcases h with h | h | h | h
     ·have := HIW.out.kp.lt; omega
     ·have := (HIW.out.mp.slb_lo h).2.1; omega
     ·have := HIW.out.kq.lt; omega
     ·have := (HIW.out.mq.slb_lo h).2.1; omega)
    clear hM hb1 HBY HIW HLW HMVW HDW HBW c0 c1 c2 c3 z6
    obtain ⟨BX, hBX⟩ : ∃ B, B = allB XL := ⟨_, rfl⟩
    rw [← hBX] at HBX HBL HBN ⊢
    obtain ⟨nb, hnb2⟩ : ∃ a, a = BX.length := ⟨_, rfl⟩
    rw [← hnb2] at HBN ⊢
    clear hBX hnb2
    have HHE := Lib.hid (hear_any p w.heap.size m vp BX sb nb cb W1 (HLD.out.below HB1.out HLO.out) HLO.out HP.out I1.out.kp I1.out.mp I1.out.sc I1.out.fs HB1.out.size (HBN.out.mono (fun k _ h => h.elim (fun h => .inl h) (fun h => .inr (.inl h)))) (Nat.le_trans HBL.out (by decide)))
    go_wp2_with fail
    refine HHE.out.mono ?_
    rintro r w4 h4
    have h4' := h4
    obtain ⟨vp0, vs, va, S0, A0, rfl, hK4, hM4, hS4, hA4, _, _, hbt4, hsl4⟩ := h4'
    have hmid := I1.out.mid HPQ.out hbt4
    have hB4 : Below w.heap.size w w4 := HB1.out.trans (hbt4.below HB1.out.size (fun j hj => by
     rcases hj with h | h
     ·rw [h]; exact HP.out
     ·exact (I1.out.mp.slb_lo h).1))
    have HTE := Lib.hid (thear_any q w.heap.size tn m vq BX sb nb cb w4 (HLD.out.below hB4 HLO.out) HLO.out HQL.out hmid.1 hmid.2 I1.out.sc I1.out.td I1.out.fs hB4.size (((HBN.out.mono (S' := fun k => (k = p ∨ slb vp k) ∨ (k = q ∨ slb vq k)) (fun k _ h => h.elim (fun h => h.elim .inl (fun h => .inr (.inl h))) (fun h => h.elim (fun h => .inr (.inr (.inl h))) (fun h => .inr (.inr (.inr h)))))).but (hbt4.mono (fun k _ h => .inl h))).mono (fun k _ h => .inr h)) HBL.out)
    have H4 := Lib.hid h4
    have HB4 := Lib.hid hB4
    clear h4 hK4 hM4 hS4 hA4 hbt4 hsl4 hmid hB4 HHE
    go_wp2_with fail
    refine HTE.out.mono ?_
    rintro r w5 h6
    have h6' := h6
    obtain ⟨vq0, ws, wa, S1, A1, rfl, hK5, hM5, hS5, hA5, _, _, hbt5, hsl5⟩ := h6'
    have hB5 : Below w.heap.size w w5 := HB4.out.trans (hbt5.below HB4.out.size (fun j hj => by
     rcases hj with h | h
     ·rw [h]; exact HQL.out
     ·exact (I1.out.mq.slb_lo h).1))
    obtain ⟨vs2, va2, ws2, wa2, vp2, vq2, S2, A2, S3, A3, e1, e2, rS2, rA2, rS3, rA3, kS, kA, I5, _⟩ := I1.out.heard HPQ.out HBX.out H4.out h6
    obtain ⟨rfl, rfl⟩ := tup2_inj e1
    obtain ⟨rfl, rfl⟩ := tup2_inj e2
    obtain ⟨s2, c2, hv2⟩ := rS2.slice
    obtain ⟨s3, c3, hv3⟩ := rA2.slice
    obtain ⟨s4, c4, hv4⟩ := rS3.slice
    obtain ⟨s5, c5, hv5⟩ := rA3.slice
    subst hv2
    subst hv3
    subst hv4
    subst hv5
    have HA1 := Lib.hid (alike_any s2 s4 S2.length S3.length c2 c4 S2 S3 w5 (rS2.rows msR_ok) (rS3.rows msR_ok) kS)
    have HA2 : Hid (∀ W, Below w5.heap.size w5 W → Calls Tryd.prog 16 #[.slice s3 A2.length c3, .slice s5 A3.length c5] W fun r w' => r = .returned (.bool true) ∧ Below W.heap.size W w') := fun W hb => alike_any s3 s5 A2.length A3.length c3 c5 A2 A3 W ((rA2.keep hb).rows msR_ok) ((rA3.keep hb).rows msR_ok) kA
    have HI5 := Lib.hid I5
    have HB5 := Lib.hid hB5
    obtain ⟨n2, hn2⟩ : ∃ a, a = S2.length := ⟨_, rfl⟩
    obtain ⟨n3, hn3⟩ : ∃ a, a = A2.length := ⟨_, rfl⟩
    obtain ⟨n4, hn4⟩ : ∃ a, a = S3.length := ⟨_, rfl⟩
    obtain ⟨n5, hn5⟩ : ∃ a, a = A3.length := ⟨_, rfl⟩
    rw [← hn2, ← hn4] at HA1
    rw [← hn3, ← hn5] at HA2
    rw [← hn2, ← hn3, ← hn4, ← hn5]
    clear h6 hK5 hM5 hS5 hA5 hbt5 hsl5 e1 e2 rS2 rA2 rS3 rA3 kS kA I5 hB5 hn2 hn3 hn4 hn5 H4 HTE HB4
    go_wp2_with fail
    refine HA1.out.mono ?_
    rintro r w6 ⟨rfl, hb6⟩
    have HA3 := Lib.hid (HA2.out w6 hb6)
    have HB6 := Lib.hid hb6
    clear HA1 HA2 hb6
    go_wp2_with fail
    refine HA3.out.mono ?_
    rintro r w7 ⟨rfl, hb7⟩
    have HI := Lib.hid (HI5.out.keep (below_step HB6.out HB6.out.size hb7))
    have HBE : Hid (Below w.heap.size w w7) := below_step (below_step HB5.out HB5.out.size HB6.out) (Nat.le_trans HB5.out.size HB6.out.size) hb7
    clear HA3 hb7 HI5 HB6 HB5
    go_wp2_with fail
    obtain ⟨mm, hmm⟩ : ∃ mm, mm = (hearM m BX).1 := ⟨_, rfl⟩
    rw [← hmm] at HI
    clear hmm
    go_upto_region 30 with fail
    refine playsE w7 p q w.heap.size mm tn now vp2 vq2 _ _ _ _ _ _ _ _ _ _ _ _ _ _ _ _ _ _ _ _ _ _ _ _ _ _ _ _ _ _ _ _ _ _ _ _ _ _ _ _ _ _ _ _ _ _ _ _ _ _ _ _ _ _ _ _ _ _ _ _ _ _ _ _ _ _ _ _ _ _ _ _ _ _ _ _ _ _ _ _ _ _ _ _ _ _ _ _ _ _ _ _ _ _ _ _ _ _ _ _ _ _ _ _ _ _ _ _ _ _ _ _ _ _ _ _ _ _ _ _ _ _ _ _ _ _ _ _ _ _ _ _ _ _ _ _ _ _ _ _ _ _ _ _ _ _ _ _ _ _ _ _ _ _ _ _ _ _ _ _ _ _ _ _ _ _ _ _ _ _ _ _ _ _ _ _ _ _ _ _ _ _ _ _ _ _ _ _ _ _ _ _ _ _ _ HI (Lib.hid (fun y0 y1 y2 y3 y4 y5 y6 y7 y8 y9 y10 y11 y12 y13 y14 y15 y16 y17 y18 y19 y20 y21 y22 y23 y24 y25 y26 y27 y28 y29 y30 y31 y32 y33 y34 y35 y36 y37 y38 y39 y40 y41 y42 y43 y44 y45 y46 y47 y48 y49 y50 y51 y52 w20 hb20 => ?_))
    have HIF := Lib.hid (HI.out.keep hb20)
    have HBF : Hid (Below w.heap.size w w20) := below_step HBE.out HBE.out.size hb20
    clear hb20
    go_wp2_with fail
    go_roundw
    case rel => exact ⟨k + 1, now, mm, tn, vp2, vq2, by omega, rfl, by go_num, ⟨by omega, by omega⟩, HIF, HBF⟩
    case measure => simp [intOf]; omega
   have d0 : (xk == 0) = false := by rw [beq_eq_false_iff_ne]; exact k0
   by_cases k1 : xk = 1
   ·subst k1
    have HB1 := HBW
    have I1 := HIW
    have HBX : Hid (∀ z ∈ XD, z < 256) := by obtain ⟨_, _, _, _, _, h5, _⟩ := HDW.out; exact h5
    have HBL : Hid (XD.length ≤ 1000000) := Nat.le_trans HND.out (by decide)
    have HBN : Hid (BsN W (fun k => k = p ∨ slb vp k ∨ k = q ∨ slb vq k) (.slice xds nd xdc) XD) := BsN.of_bs HDW.out HBW.out.size (fun j hj h => by
     rcases h with h | h | h | h
     ·have := HP.out; omega
     ·have := (HIW.out.mp.slb_lo h).1; omega
     ·have := HQL.out; omega
     ·have := (HIW.out.mq.slb_lo h).1; omega)
    clear HLW HMVW HDW k0
    have HHE := Lib.hid (hear_any p w.heap.size m vp XD xds nd xdc W (HLD.out.below HB1.out HLO.out) HLO.out HP.out I1.out.kp I1.out.mp I1.out.sc I1.out.fs HB1.out.size (HBN.out.mono (fun k _ h => h.elim (fun h => .inl h) (fun h => .inr (.inl h)))) (Nat.le_trans HBL.out (by decide)))
    go_wp2_with fail
    refine HHE.out.mono ?_
    rintro r w4 h4
    have h4' := h4
    obtain ⟨vp0, vs, va, S0, A0, rfl, hK4, hM4, hS4, hA4, _, _, hbt4, hsl4⟩ := h4'
    have hmid := I1.out.mid HPQ.out hbt4
    have hB4 : Below w.heap.size w w4 := HB1.out.trans (hbt4.below HB1.out.size (fun j hj => by
     rcases hj with h | h
     ·rw [h]; exact HP.out
     ·exact (I1.out.mp.slb_lo h).1))
    have HTE := Lib.hid (thear_any q w.heap.size tn m vq XD xds nd xdc w4 (HLD.out.below hB4 HLO.out) HLO.out HQL.out hmid.1 hmid.2 I1.out.sc I1.out.td I1.out.fs hB4.size (((HBN.out.mono (S' := fun k => (k = p ∨ slb vp k) ∨ (k = q ∨ slb vq k)) (fun k _ h => h.elim (fun h => h.elim .inl (fun h => .inr (.inl h))) (fun h => h.elim (fun h => .inr (.inr (.inl h))) (fun h => .inr (.inr (.inr h)))))).but (hbt4.mono (fun k _ h => .inl h))).mono (fun k _ h => .inr h)) HBL.out)
    have H4 := Lib.hid h4
    have HB4 := Lib.hid hB4
    clear h4 hK4 hM4 hS4 hA4 hbt4 hsl4 hmid hB4 HHE
    go_wp2_with fail
    refine HTE.out.mono ?_
    rintro r w5 h6
    have h6' := h6
    obtain ⟨vq0, ws, wa, S1, A1, rfl, hK5, hM5, hS5, hA5, _, _, hbt5, hsl5⟩ := h6'
    have hB5 : Below w.heap.size w w5 := HB4.out.trans (hbt5.below HB4.out.size (fun j hj => by
     rcases hj with h | h
     ·rw [h]; exact HQL.out
     ·exact (I1.out.mq.slb_lo h).1))
    obtain ⟨vs2, va2, ws2, wa2, vp2, vq2, S2, A2, S3, A3, e1, e2, rS2, rA2, rS3, rA3, kS, kA, I5, _⟩ := I1.out.heard HPQ.out HBX.out H4.out h6
    obtain ⟨rfl, rfl⟩ := tup2_inj e1
    obtain ⟨rfl, rfl⟩ := tup2_inj e2
    obtain ⟨s2, c2, hv2⟩ := rS2.slice
    obtain ⟨s3, c3, hv3⟩ := rA2.slice
    obtain ⟨s4, c4, hv4⟩ := rS3.slice
    obtain ⟨s5, c5, hv5⟩ := rA3.slice
    subst hv2
    subst hv3
    subst hv4
    subst hv5
    have HA1 := Lib.hid (alike_any s2 s4 S2.length S3.length c2 c4 S2 S3 w5 (rS2.rows msR_ok) (rS3.rows msR_ok) kS)
    have HA2 : Hid (∀ W, Below w5.heap.size w5 W → Calls Tryd.prog 16 #[.slice s3 A2.length c3, .slice s5 A3.length c5] W fun r w' => r = .returned (.bool true) ∧ Below W.heap.size W w') := fun W hb => alike_any s3 s5 A2.length A3.length c3 c5 A2 A3 W ((rA2.keep hb).rows msR_ok) ((rA3.keep hb).rows msR_ok) kA
    have HI5 := Lib.hid I5
    have HB5 := Lib.hid hB5
    obtain ⟨n2, hn2⟩ : ∃ a, a = S2.length := ⟨_, rfl⟩
    obtain ⟨n3, hn3⟩ : ∃ a, a = A2.length := ⟨_, rfl⟩
    obtain ⟨n4, hn4⟩ : ∃ a, a = S3.length := ⟨_, rfl⟩
    obtain ⟨n5, hn5⟩ : ∃ a, a = A3.length := ⟨_, rfl⟩
    rw [← hn2, ← hn4] at HA1
    rw [← hn3, ← hn5] at HA2
    rw [← hn2, ← hn3, ← hn4, ← hn5]
    clear h6 hK5 hM5 hS5 hA5 hbt5 hsl5 e1 e2 rS2 rA2 rS3 rA3 kS kA I5 hB5 hn2 hn3 hn4 hn5 H4 HTE HB4
    go_wp2_with fail
    refine HA1.out.mono ?_
    rintro r w6 ⟨rfl, hb6⟩
    have HA3 := Lib.hid (HA2.out w6 hb6)
    have HB6 := Lib.hid hb6
    clear HA1 HA2 hb6
    go_wp2_with fail
    refine HA3.out.mono ?_
    rintro r w7 ⟨rfl, hb7⟩
    have HI := Lib.hid (HI5.out.keep (below_step HB6.out HB6.out.size hb7))
    have HBE : Hid (Below w.heap.size w w7) := below_step (below_step HB5.out HB5.out.size HB6.out) (Nat.le_trans HB5.out.size HB6.out.size) hb7
    clear HA3 hb7 HI5 HB6 HB5
    go_wp2_with fail
    obtain ⟨mm, hmm⟩ : ∃ mm, mm = (hearM m XD).1 := ⟨_, rfl⟩
    rw [← hmm] at HI
    clear hmm
    go_upto_region 30 with fail
    refine playsE w7 p q w.heap.size mm tn now vp2 vq2 _ _ _ _ _ _ _ _ _ _ _ _ _ _ _ _ _ _ _ _ _ _ _ _ _ _ _ _ _ _ _ _ _ _ _ _ _ _ _ _ _ _ _ _ _ _ _ _ _ _ _ _ _ _ _ _ _ _ _ _ _ _ _ _ _ _ _ _ _ _ _ _ _ _ _ _ _ _ _ _ _ _ _ _ _ _ _ _ _ _ _ _ _ _ _ _ _ _ _ _ _ _ _ _ _ _ _ _ _ _ _ _ _ _ _ _ _ _ _ _ _ _ _ _ _ _ _ _ _ _ _ _ _ _ _ _ _ _ _ _ _ _ _ _ _ _ _ _ _ _ _ _ _ _ _ _ _ _ _ _ _ _ _ _ _ _ _ _ _ _ _ _ _ _ _ _ _ _ _ _ _ _ _ _ _ _ _ _ _ _ _ _ _ _ _ HI (Lib.hid (fun y0 y1 y2 y3 y4 y5 y6 y7 y8 y9 y10 y11 y12 y13 y14 y15 y16 y17 y18 y19 y20 y21 y22 y23 y24 y25 y26 y27 y28 y29 y30 y31 y32 y33 y34 y35 y36 y37 y38 y39 y40 y41 y42 y43 y44 y45 y46 y47 y48 y49 y50 y51 y52 w20 hb20 => ?_))
    have HIF := Lib.hid (HI.out.keep hb20)
    have HBF : Hid (Below w.heap.size w w20) := below_step HBE.out HBE.out.size hb20
    clear hb20
    go_wp2_with fail
    go_roundw
    case rel => exact ⟨k + 1, now, mm, tn, vp2, vq2, by omega, rfl, by go_num, ⟨by omega, by omega⟩, HIF, HBF⟩
    case measure => simp [intOf]; omega
   have d1 : (xk == 1) = false := by rw [beq_eq_false_iff_ne]; exact k1
   by_cases k2 : xk = 2
   ·subst k2
    go_upto_region 22 with fail
    refine laterR W p6 now xn ⟨hnow.1, HN5.out⟩ HXN.out z6 c1 (fun l1 l2 l3 l4 l5 l6 nw2 hnw2 => ?_)
    have hn2 : 0 ≤ nw2 ∧ nw2 ≤ 1000 * ((k : Int) + 1) := ⟨by omega, by omega⟩
    have I2 : Hid (PlI W p q w.heap.size m tn nw2 vp vq) := HIW.out.later hnw2.1
    have HTK := Lib.hid (tickw_any p m vp nw2 W I2.out.kp ⟨I2.out.si.1, I2.out.si.2, by omega⟩)
    have HTT : Hid (∀ W1, TdK W1 q m tn vq → Calls Tryd.prog 18 #[.pointer (some ⟨q, 0, none⟩), .int .i64 nw2] W1 fun r w' => r = .returned (.tuple #[.int .u64 ((if tickP m nw2 = true then pnN m.nc nw2 else 0 : Nat) : Int), .bool (tickP m nw2), .bool (!(tickW m nw2).2.2)]) ∧ TdK w' q (tickW m nw2).1 (tickN m tn nw2) vq ∧ But (fun k => k = q) W1 w') := fun W1 hK => ttick_any q tn m vq nw2 W1 hK ⟨I2.out.si.1, I2.out.si.2, by omega⟩ I2.out.s0 I2.out.td.1
    clear HLW HMVW HDW HIW k0 k1 c0 c1 c2 c3 hnow HN5 hnw2
    have hnow := hn2
    have HNC : Hid (((k + 1 : Nat) : Int) = (k : Int) + 1) := by show _ = _; omega
    go_wp2_with fail
    refine HTK.out.mono ?_
    rintro r w4 ⟨vl, TL, rfl, hK4, hM4, hk4, hb4⟩
    have hmid := I2.out.mid HPQ.out (hb4.mono (fun k _ h => .inl h))
    have HT4 := Lib.hid (HTT.out w4 hmid.1)
    have HK4 := Lib.hid hK4
    have HM4 := Lib.hid hM4
    have HB4 := Lib.hid hb4
    clear HTK HTT hmid hK4 hM4 hb4
    obtain ⟨ss, cc, hvl⟩ := HM4.out.slice
    obtain ⟨okb, hokb⟩ : ∃ b, b = (tickW m nw2).2.2 := ⟨_, rfl⟩
    obtain ⟨pgb, hpgb⟩ : ∃ b, b = tickP m nw2 := ⟨_, rfl⟩
    obtain ⟨pn, hpn⟩ : ∃ a : Nat, a = (if tickP m nw2 = true then pnN m.nc nw2 else 0 : Nat) := ⟨_, rfl⟩
    rw [← hokb, ← hpgb] at HT4
    rw [← hpgb] at hpn
    rw [← hpn] at HT4
    rw [← hokb]
    have hcs := tickW_cases m tn nw2
    rw [← hpgb] at hcs
    subst hvl
    rcases hcs with ⟨hpf, e1, e2, e3⟩ | ⟨hpt, hrd, e1, e2, e3⟩
    ·subst hpf
     obtain rfl : TL = [] := List.map_eq_nil_iff.1 (hk4.trans e3)
     clear hk4 e3 hpn hpgb hokb
     cases okb
     ·go_wp2_with fail
      refine HT4.out.mono ?_
      rintro r w5 ⟨rfl, hK5, hb5⟩
      have HI := Lib.hid (I2.out.ticked HPQ.out hn2.1 HK4.out HB4.out hK5 hb5)
      rw [e1, e2] at HI
      have HBE : Hid (Below w.heap.size w w5) := (HBW.out.trans (HB4.out.below HBW.out.size (fun j hj => by have e : j = p := hj; rw [e]; exact HP.out))).trans (hb5.below (Nat.le_trans HBW.out.size HB4.out.size) (fun j hj => by have e : j = q := hj; rw [e]; exact HQL.out))
      clear HT4 hK5 hb5 HK4 HM4 HB4 e1 e2
      go_wp2_with fail
      go_upto_region 30 with fail
      refine playsE w5 p q w.heap.size m tn nw2 vp vq _ _ _ _ _ _ _ _ _ _ _ _ _ _ _ _ _ _ _ _ _ _ _ _ _ _ _ _ _ _ _ _ _ _ _ _ _ _ _ _ _ _ _ _ _ _ _ _ _ _ _ _ _ _ _ _ _ _ _ _ _ _ _ _ _ _ _ _ _ _ _ _ _ _ _ _ _ _ _ _ _ _ _ _ _ _ _ _ _ _ _ _ _ _ _ _ _ _ _ _ _ _ _ _ _ _ _ _ _ _ _ _ _ _ _ _ _ _ _ _ _ _ _ _ _ _ _ _ _ _ _ _ _ _ _ _ _ _ _ _ _ _ _ _ _ _ _ _ _ _ _ _ _ _ _ _ _ _ _ _ _ _ _ _ _ _ _ _ _ _ _ _ _ _ _ _ _ _ _ _ _ _ _ _ _ _ _ _ _ _ _ _ _ _ _ HI (Lib.hid (fun y0 y1 y2 y3 y4 y5 y6 y7 y8 y9 y10 y11 y12 y13 y14 y15 y16 y17 y18 y19 y20 y21 y22 y23 y24 y25 y26 y27 y28 y29 y30 y31 y32 y33 y34 y35 y36 y37 y38 y39 y40 y41 y42 y43 y44 y45 y46 y47 y48 y49 y50 y51 y52 w20 hb20 => ?_))
      have HIF := Lib.hid (HI.out.keep hb20)
      have HBF : Hid (Below w.heap.size w w20) := below_step HBE.out HBE.out.size hb20
      clear hb20
      go_wp2_with fail
      go_roundw
      case rel => exact ⟨k + 1, nw2, m, tn, vp, vq, by omega, rfl, by go_num, ⟨by omega, by omega⟩, HIF, HBF⟩
      case measure => simp [intOf]; omega
     ·go_wp2_with fail
      refine HT4.out.mono ?_
      rintro r w5 ⟨rfl, hK5, hb5⟩
      have HI := Lib.hid (I2.out.ticked HPQ.out hn2.1 HK4.out HB4.out hK5 hb5)
      rw [e1, e2] at HI
      have HBE : Hid (Below w.heap.size w w5) := (HBW.out.trans (HB4.out.below HBW.out.size (fun j hj => by have e : j = p := hj; rw [e]; exact HP.out))).trans (hb5.below (Nat.le_trans HBW.out.size HB4.out.size) (fun j hj => by have e : j = q := hj; rw [e]; exact HQL.out))
      clear HT4 hK5 hb5 HK4 HM4 HB4 e1 e2
      go_wp2_with fail
      go_upto_region 30 with fail
      refine playsE w5 p q w.heap.size m tn nw2 vp vq _ _ _ _ _ _ _ _ _ _ _ _ _ _ _ _ _ _ _ _ _ _ _ _ _ _ _ _ _ _ _ _ _ _ _ _ _ _ _ _ _ _ _ _ _ _ _ _ _ _ _ _ _ _ _ _ _ _ _ _ _ _ _ _ _ _ _ _ _ _ _ _ _ _ _ _ _ _ _ _ _ _ _ _ _ _ _ _ _ _ _ _ _ _ _ _ _ _ _ _ _ _ _ _ _ _ _ _ _ _ _ _ _ _ _ _ _ _ _ _ _ _ _ _ _ _ _ _ _ _ _ _ _ _ _ _ _ _ _ _ _ _ _ _ _ _ _ _ _ _ _ _ _ _ _ _ _ _ _ _ _ _ _ _ _ _ _ _ _ _ _ _ _ _ _ _ _ _ _ _ _ _ _ _ _ _ _ _ _ _ _ _ _ _ _ HI (Lib.hid (fun y0 y1 y2 y3 y4 y5 y6 y7 y8 y9 y10 y11 y12 y13 y14 y15 y16 y17 y18 y19 y20 y21 y22 y23 y24 y25 y26 y27 y28 y29 y30 y31 y32 y33 y34 y35 y36 y37 y38 y39 y40 y41 y42 y43 y44 y45 y46 y47 y48 y49 y50 y51 y52 w20 hb20 => ?_))
      have HIF := Lib.hid (HI.out.keep hb20)
      have HBF : Hid (Below w.heap.size w w20) := below_step HBE.out HBE.out.size hb20
      clear hb20
      go_wp2_with fail
      go_roundw
      case rel => exact ⟨k + 1, nw2, m, tn, vp, vq, by omega, rfl, by go_num, ⟨by omega, by omega⟩, HIF, HBF⟩
      case measure => simp [intOf]; omega
    ·subst hpt
     have hok : okb = true := by rw [hokb, e3]
     subst hok
     have hk5 : keysM TL = [pingK (pnN m.nc nw2)] := by rw [hk4, e3]
     obtain ⟨y, rfl, hy1, hy2⟩ := keys_pingK hk5
     have hpn2 : pn = y.1.nc := by rw [hpn, hy2]; rfl
     have HPN := Lib.hid hpn2
     have HY1 := Lib.hid hy1
     clear hpn hpn2 hk4 hk5 e3 hokb hpgb hy1 hy2 hrd
     go_wp2_with fail
     refine HT4.out.mono ?_
     rintro r w5 ⟨rfl, hK5, hb5⟩
     have HI := Lib.hid (I2.out.ticked HPQ.out hn2.1 HK4.out HB4.out hK5 hb5)
     rw [e1, e2] at HI
     have HBE : Hid (Below w.heap.size w w5) := (HBW.out.trans (HB4.out.below HBW.out.size (fun j hj => by have e : j = p := hj; rw [e]; exact HP.out))).trans (hb5.below (Nat.le_trans HBW.out.size HB4.out.size) (fun j hj => by have e : j = q := hj; rw [e]; exact HQL.out))
     have HM5 : Hid (MineR msR w5 W.heap.size (.slice ss [y].length cc) [y]) := HM4.out.but_ hb5 (fun j hj e => by
      have h1 := (HM4.out.slb_lo hj).1
      have h2 := I2.out.kq.lt
      have h3 : j = q := e
      omega)
     clear HT4 hK5 hb5 HK4 HM4 HB4 e1 e2
     obtain ⟨x5, b5, o5, hx5, hse5, hbw5, hrg5⟩ := row_at (show RowV msR w5 w5.heap.size (.slice ss [y].length cc) [y] from HM5.out.rows msR_ok) 0 (by simp)
     have hxy : y = x5 := by simpa using hx5
     subst hxy
     subst hse5
     have t0 : w5.cell? ⟨b5, o5, none⟩ = some (.int .i64 y.1.kd) := hrg5 0 _ rfl
     have t1 : w5.cell? ⟨b5, o5 + 1, none⟩ = some (.int .u64 (y.1.nc : Int)) := hrg5 1 _ rfl
     rw [HY1.out] at t0
     rw [← HPN.out] at t1
     have q5 : ((pn : Int) != (pn : Int)) = false := by simp
     clear hx5 hrg5 HM5
     go_wp2_with fail
     go_upto_region 30 with fail
     refine playsE w5 p q w.heap.size ({ m with si := nw2, wt := true } : PeM) (pnN m.nc nw2) nw2 vp vq _ _ _ _ _ _ _ _ _ _ _ _ _ _ _ _ _ _ _ _ _ _ _ _ _ _ _ _ _ _ _ _ _ _ _ _ _ _ _ _ _ _ _ _ _ _ _ _ _ _ _ _ _ _ _ _ _ _ _ _ _ _ _ _ _ _ _ _ _ _ _ _ _ _ _ _ _ _ _ _ _ _ _ _ _ _ _ _ _ _ _ _ _ _ _ _ _ _ _ _ _ _ _ _ _ _ _ _ _ _ _ _ _ _ _ _ _ _ _ _ _ _ _ _ _ _ _ _ _ _ _ _ _ _ _ _ _ _ _ _ _ _ _ _ _ _ _ _ _ _ _ _ _ _ _ _ _ _ _ _ _ _ _ _ _ _ _ _ _ _ _ _ _ _ _ _ _ _ _ _ _ _ _ _ _ _ _ _ _ _ _ _ _ _ _ HI (Lib.hid (fun y0 y1 y2 y3 y4 y5 y6 y7 y8 y9 y10 y11 y12 y13 y14 y15 y16 y17 y18 y19 y20 y21 y22 y23 y24 y25 y26 y27 y28 y29 y30 y31 y32 y33 y34 y35 y36 y37 y38 y39 y40 y41 y42 y43 y44 y45 y46 y47 y48 y49 y50 y51 y52 w20 hb20 => ?_))
     have HIF := Lib.hid (HI.out.keep hb20)
     have HBF : Hid (Below w.heap.size w w20) := below_step HBE.out HBE.out.size hb20
     clear hb20
     go_wp2_with fail
     go_roundw
     case rel => exact ⟨k + 1, nw2, ({ m with si := nw2, wt := true } : PeM), (pnN m.nc nw2), vp, vq, by omega, rfl, by go_num, ⟨by omega, by omega⟩, HIF, HBF⟩
     case measure => simp [intOf]; omega
   have d2 : (xk == 2) = false := by rw [beq_eq_false_iff_ne]; exact k2
   by_cases k3 : xk = 3
   ·subst k3
    have HBM := Lib.hid (blame_any p m vp xn W.drew (HIW.out.kp.keep (Below.refl _ _).drew) HIW.out.sc HXN.out)
    have HTM : Hid (∀ W1, TdK W1 q m tn vq → Calls Tryd.prog 20 #[.pointer (some ⟨q, 0, none⟩), .int .i64 xn] W1 fun r w' => r = .returned (.tuple #[]) ∧ TdK w' q { m with sc := blI m.sc xn } tn vq ∧ But (fun k => k = q) W1 w') := fun W1 hK => tblame_any q tn m vq xn W1 hK HIW.out.sc HXN.out
    go_upto_region 28 with fail
    clear k0 k1 k2 c0 c2 c3
    go_still_tail 5, (by kernel_rfl)
    change wpList _ _ _ _ _ W.drew
    go_wp2_with fail
    refine HBM.out.mono ?_
    rintro r w4 ⟨rfl, hK4, hb4⟩
    have hbW : But (fun k => k = p) W w4 := ((But.refl (fun k => k = p) W).drew).trans hb4 (fun i _ h => h)
    have c1 := (hbW.keep HK6.out HNP.out.1).cell 1
    have hmid := HIW.out.mid HPQ.out (hbW.mono (fun k _ h => .inl h))
    have HT4 := Lib.hid (HTM.out w4 hmid.1)
    have HK4 := Lib.hid hK4
    have HB4 := Lib.hid hbW
    have z6 := (hbW.keep HK6.out HNP.out.1).lt
    clear hmid hK4 hb4 hbW HBM HTM
    go_wp2_with fail
    refine HT4.out.mono ?_
    rintro r w5 ⟨rfl, hK5, hb5⟩
    have HI := Lib.hid (HIW.out.blamed HPQ.out HK4.out HB4.out hK5 hb5)
    have HBE : Hid (Below w.heap.size w w5) := (HBW.out.trans (HB4.out.below HBW.out.size (fun j hj => by have e : j = p := hj; rw [e]; exact HP.out))).trans (hb5.below (Nat.le_trans HBW.out.size HB4.out.size) (fun j hj => by have e : j = q := hj; rw [e]; exact HQL.out))
    clear HT4 hK5 hb5 HK4 HB4 HIW HBW HLW HMVW HDW
    go_upto_region 30 with fail
    refine playsE w5 p q w.heap.size ({ m with sc := blI m.sc xn } : PeM) tn now vp vq _ _ _ _ _ _ _ _ _ _ _ _ _ _ _ _ _ _ _ _ _ _ _ _ _ _ _ _ _ _ _ _ _ _ _ _ _ _ _ _ _ _ _ _ _ _ _ _ _ _ _ _ _ _ _ _ _ _ _ _ _ _ _ _ _ _ _ _ _ _ _ _ _ _ _ _ _ _ _ _ _ _ _ _ _ _ _ _ _ _ _ _ _ _ _ _ _ _ _ _ _ _ _ _ _ _ _ _ _ _ _ _ _ _ _ _ _ _ _ _ _ _ _ _ _ _ _ _ _ _ _ _ _ _ _ _ _ _ _ _ _ _ _ _ _ _ _ _ _ _ _ _ _ _ _ _ _ _ _ _ _ _ _ _ _ _ _ _ _ _ _ _ _ _ _ _ _ _ _ _ _ _ _ _ _ _ _ _ _ _ _ _ _ _ _ HI (Lib.hid (fun y0 y1 y2 y3 y4 y5 y6 y7 y8 y9 y10 y11 y12 y13 y14 y15 y16 y17 y18 y19 y20 y21 y22 y23 y24 y25 y26 y27 y28 y29 y30 y31 y32 y33 y34 y35 y36 y37 y38 y39 y40 y41 y42 y43 y44 y45 y46 y47 y48 y49 y50 y51 y52 w20 hb20 => ?_))
    have HIF := Lib.hid (HI.out.keep hb20)
    have HBF : Hid (Below w.heap.size w w20) := below_step HBE.out HBE.out.size hb20
    clear hb20
    go_wp2_with fail
    go_roundw
    case rel => exact ⟨k + 1, now, ({ m with sc := blI m.sc xn } : PeM), tn, vp, vq, by omega, rfl, by go_num, ⟨by omega, by omega⟩, HIF, HBF⟩
    case measure => simp [intOf]; omega
   have d3 : (xk == 3) = false := by rw [beq_eq_false_iff_ne]; exact k3
   have HI := HIW
   have HBE := HBW
   clear HIW HBW HLW HMVW HDW
   go_upto_region 30 with fail
   refine playsE W p q w.heap.size m tn now vp vq _ _ _ _ _ _ _ _ _ _ _ _ _ _ _ _ _ _ _ _ _ _ _ _ _ _ _ _ _ _ _ _ _ _ _ _ _ _ _ _ _ _ _ _ _ _ _ _ _ _ _ _ _ _ _ _ _ _ _ _ _ _ _ _ _ _ _ _ _ _ _ _ _ _ _ _ _ _ _ _ _ _ _ _ _ _ _ _ _ _ _ _ _ _ _ _ _ _ _ _ _ _ _ _ _ _ _ _ _ _ _ _ _ _ _ _ _ _ _ _ _ _ _ _ _ _ _ _ _ _ _ _ _ _ _ _ _ _ _ _ _ _ _ _ _ _ _ _ _ _ _ _ _ _ _ _ _ _ _ _ _ _ _ _ _ _ _ _ _ _ _ _ _ _ _ _ _ _ _ _ _ _ _ _ _ _ _ _ _ _ _ _ _ _ _ HI (Lib.hid (fun y0 y1 y2 y3 y4 y5 y6 y7 y8 y9 y10 y11 y12 y13 y14 y15 y16 y17 y18 y19 y20 y21 y22 y23 y24 y25 y26 y27 y28 y29 y30 y31 y32 y33 y34 y35 y36 y37 y38 y39 y40 y41 y42 y43 y44 y45 y46 y47 y48 y49 y50 y51 y52 w20 hb20 => ?_))
   have HIF := Lib.hid (HI.out.keep hb20)
   have HBF : Hid (Below w.heap.size w w20) := below_step HBE.out HBE.out.size hb20
   clear hb20
   go_wp2_with fail
   go_roundw
   case rel => exact ⟨k + 1, now, m, tn, vp, vq, by omega, rfl, by go_num, ⟨by omega, by omega⟩, HIF, HBF⟩
   case measure => simp [intOf]; omega
  ·have j1 : decide ((k : Int) < (n : Int)) = false := decide_eq_false (by omega)
   go_wp2_with fail
   go_ret
   exact ⟨rfl, HB.out⟩
end Go.Proofs.YtkpffjcdalclmaaDoor.peerPlays
