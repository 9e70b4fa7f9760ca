/-
  What is proved: for every list of deeds and of cuts, the strings and bytes of which are of 1048576 at most in all, the law PeerPieces returns true, and its arguments read behind the call as they read before it; the three listed tables, two of package hash and one of package msg, are taken to hold what the program's text lays in them, and the card ties them to it.
-/
import Derived.Test.YtjnbdajdllpchaaDoorPpZ
import Derived.Test.YtjnbdajdllpchaaDoorTie
import Derived.Test.YtjnbdajdllpchaaDoorCards
import Derived.Stop.Joined
namespace Go.Proofs.YtjnbdajdllpchaaDoor.peerPieces
open Go.ChangeShapes Go.WideShapes Go.ChangeAt Go.RowKit
set_option linter.unusedVariables false

theorem own : ownKnob Tryd.prog.godebug = none := by kernel_rfl
theorem laidOut : laidOutB Tryd.prog = true := by kernel_rfl
def KeyOk (L : List DeM) : Prop := ∀ d ∈ L, ∀ x ∈ d.list, ∀ t ∈ x.1.bk.txs, ∀ i ∈ t.ins, i.key.length ≤ 1100000
set_option maxRecDepth 100000 in
set_option maxHeartbeats 16000000 in
theorem cutR {t0 t1 t2 t3 t4 t6 t7 t8 t9 t10 t11 t12 t13 t14 t15 t17 t19 t20 t21 t22 t23 t24 t25 t26 t27 t28 t29 t30 t31 t32 t33 t34 t35 t36 t37 t38 t39 t40 t41 t42 t43 t44 t45 t46 t47 t48 t49 t50 t51 t52 t53 t54 t55 t56 t57 t58 t59 t60 t61 t62 t63 t64 t65 t66 t67 t68 t69 t70 t71 t72 t73 t74 t75 t76 t77 t78 t79 t80 t81 t82 t83 t84 t85 t86 t87 t88 t89 t90 t91 t92 t93 t94 t95 t96 t97 t98 t99 t100 t101 t102 t103 t104 t105 t106 t107 t108 t109 t110 t111 t112 t113 t114 t115 t116 t117 t118 t119 t120 t121 t122 t123 t124 t125 t126 t127 t128 t129 t130 t131 t132 : Value} {Q : Exit → Act → World → Prop} (V : World) (z : Int) (sb : Option Addr) (cb nb a : Nat) (ha : a ≤ nb) (hnb : nb ≤ 1400000) (hz : -9223372036854775808 ≤ z ∧ z ≤ 9223372036854775807)
    (hQ : ∀ (x72 x73 x74 x75 x76 x77 x78 : Value) (zz : Int), zz = max 0 (min z ((nb : Int) - (a : Int))) → Q .normal { tmps := List.toArray (t0 :: t1 :: t2 :: t3 :: t4 :: .slice sb nb cb :: t6 :: t7 :: t8 :: t9 :: t10 :: t11 :: t12 :: t13 :: t14 :: t15 :: .int .i64 (a : Int) :: t17 :: .int .i64 zz :: t19 :: t20 :: t21 :: t22 :: t23 :: t24 :: t25 :: t26 :: t27 :: t28 :: t29 :: t30 :: t31 :: t32 :: t33 :: t34 :: t35 :: t36 :: t37 :: t38 :: t39 :: t40 :: t41 :: t42 :: t43 :: t44 :: t45 :: t46 :: t47 :: t48 :: t49 :: t50 :: t51 :: t52 :: t53 :: t54 :: t55 :: t56 :: t57 :: t58 :: t59 :: t60 :: t61 :: t62 :: t63 :: t64 :: t65 :: t66 :: t67 :: t68 :: t69 :: t70 :: t71 :: x72 :: x73 :: x74 :: x75 :: x76 :: x77 :: x78 :: t79 :: t80 :: t81 :: t82 :: t83 :: t84 :: t85 :: t86 :: t87 :: t88 :: t89 :: t90 :: t91 :: t92 :: t93 :: t94 :: t95 :: t96 :: t97 :: t98 :: t99 :: t100 :: t101 :: t102 :: t103 :: t104 :: t105 :: t106 :: t107 :: t108 :: t109 :: t110 :: t111 :: t112 :: t113 :: t114 :: t115 :: t116 :: t117 :: t118 :: t119 :: t120 :: t121 :: t122 :: t123 :: t124 :: t125 :: t126 :: t127 :: t128 :: t129 :: t130 :: t131 :: t132 :: []), defers := [] } V) :
    Code.wp Tryd.prog (Code.region 19 #[{ dst := some 72, op := Op.move (Operand.tmp 18), type := 3, pos := "law.go:295", after := #[], guard := none },
{ dst := some 73, op := Op.move (Operand.tmp 5), type := 32, pos := "law.go:295", after := #[], guard := none },
{ dst := some 74, op := Op.call { callee := Callee.builtin Builtin.len, args := #[Operand.tmp 73], argTypes := #[32] }, type := 3, pos := "law.go:295", after := #[{ on := 1, ground := Ground.data }], guard := none },
{ dst := some 75, op := Op.move (Operand.tmp 16), type := 3, pos := "law.go:295", after := #[], guard := none },
{ dst := some 76, op := Op.binOp BinOp.sub 3 (Operand.tmp 74) (Operand.tmp 75) 3, type := 3, pos := "law.go:295", after := #[{ on := 2, ground := Ground.data }, { on := 3, ground := Ground.data }], guard := none },
{ dst := some 77, op := Op.call { callee := Callee.builtin Builtin.min, args := #[Operand.tmp 72, Operand.tmp 76], argTypes := #[3, 3] }, type := 3, pos := "law.go:295", after := #[{ on := 0, ground := Ground.data }, { on := 4, ground := Ground.data }], guard := none },
{ dst := some 78, op := Op.call { callee := Callee.builtin Builtin.max, args := #[Operand.const (Value.int IntKind.i64 0), Operand.tmp 77], argTypes := #[3, 3] }, type := 3, pos := "law.go:295", after := #[{ on := 5, ground := Ground.data }], guard := none },
{ dst := some 18, op := Op.assign (Operand.tmp 78), type := 3, pos := "law.go:295", after := #[{ on := 6, ground := Ground.data }, { on := 0, ground := Ground.phase }, { on := 1, ground := Ground.phase }, { on := 2, ground := Ground.phase }, { on := 3, ground := Ground.phase }, { on := 4, ground := Ground.phase }, { on := 5, ground := Ground.phase }, { on := 6, ground := Ground.phase }], guard := none }] false) Q { tmps := List.toArray (t0 :: t1 :: t2 :: t3 :: t4 :: .slice sb nb cb :: t6 :: t7 :: t8 :: t9 :: t10 :: t11 :: t12 :: t13 :: t14 :: t15 :: .int .i64 (a : Int) :: t17 :: .int .i64 z :: t19 :: t20 :: t21 :: t22 :: t23 :: t24 :: t25 :: t26 :: t27 :: t28 :: t29 :: t30 :: t31 :: t32 :: t33 :: t34 :: t35 :: t36 :: t37 :: t38 :: t39 :: t40 :: t41 :: t42 :: t43 :: t44 :: t45 :: t46 :: t47 :: t48 :: t49 :: t50 :: t51 :: t52 :: t53 :: t54 :: t55 :: t56 :: t57 :: t58 :: t59 :: t60 :: t61 :: t62 :: t63 :: t64 :: t65 :: t66 :: t67 :: t68 :: t69 :: t70 :: t71 :: t72 :: t73 :: t74 :: t75 :: t76 :: t77 :: t78 :: t79 :: t80 :: t81 :: t82 :: t83 :: t84 :: t85 :: t86 :: t87 :: t88 :: t89 :: t90 :: t91 :: t92 :: t93 :: t94 :: t95 :: t96 :: t97 :: t98 :: t99 :: t100 :: t101 :: t102 :: t103 :: t104 :: t105 :: t106 :: t107 :: t108 :: t109 :: t110 :: t111 :: t112 :: t113 :: t114 :: t115 :: t116 :: t117 :: t118 :: t119 :: t120 :: t121 :: t122 :: t123 :: t124 :: t125 :: t126 :: t127 :: t128 :: t129 :: t130 :: t131 :: t132 :: []), defers := [] } V := by
  have HQ := Lib.hid hQ
  clear hQ
  have hw : IntKind.i64.wrap ((nb : Int) - (a : Int)) = (nb : Int) - (a : Int) := IntWalk.i64_in _ (by omega)
  go_wp2_with fail
  all_goals refine HQ.out _ _ _ _ _ _ _ _ ?_
  all_goals first | omega | (unfold wrap64; omega)
set_option maxRecDepth 100000 in
set_option maxHeartbeats 16000000 in
theorem walk (L : List DeM) (C : List Int) (v u0 : Value) (w : World) (hL : LaidM w) (hR : RowV deR w w.heap.size v L) (hV : ∀ x ∈ L, DeV w w.heap.size x) (hKY : KeyOk L) (hC : RowV intR w w.heap.size u0 C) (hCi : ∀ z ∈ C, -9223372036854775808 ≤ z ∧ z ≤ 9223372036854775807) :
    Calls Tryd.prog 7 #[v, u0] w fun e w' => e = .returned (.bool true) ∧ Below w.heap.size w w' := by
  obtain ⟨sc0, cc0, rfl⟩ := hC.slice
  obtain ⟨nc, hnc⟩ : ∃ nc, nc = C.length := ⟨_, rfl⟩
  rw [← hnc] at hC ⊢
  have HNC := Lib.hid hnc
  have HC := Lib.hid hC
  have HCI := Lib.hid hCi
  clear hnc hC hCi
  obtain ⟨s0, c, rfl⟩ := hR.slice
  obtain ⟨n, hnl⟩ : ∃ n, n = L.length := ⟨_, rfl⟩
  rw [← hnl] at hR ⊢
  have HN := Lib.hid hnl
  have HLD := Lib.hid hL
  have HV := Lib.hid hV
  have HKY := Lib.hid hKY
  have HRW := Lib.hid hR
  have HROW : Hid (∀ k, k < n → ∃ x b o, L[k]? = some x ∧ s0 = some ⟨b, o, none⟩ ∧ b < w.heap.size ∧ w.rangeAt b (o + k * 4) (deL x)) := by
    show ∀ k, k < n → _
    rw [hnl]
    exact row_at (show RowV deR w w.heap.size (.slice s0 L.length c) L from by rw [← hnl]; exact hR)
  have h63 : n < 9223372036854775808 := by
    obtain ⟨_, _, e, h1, h2, _⟩ := hR
    omega
  have hlo : 3 + 1 ≤ w.heap.size := hL.size
  have HLO := Lib.hid hlo
  have HSY := Lib.hid (greets_any w hL)
  clear hR hV hL hnl hlo hKY
  go_enter Tryd.func7, Tryd.ntmps7
  go_wp2_with fail
  refine HSY.out.mono ?_
  rintro e w1 ⟨rfl, hb1⟩
  have HB1 := Lib.hid hb1
  have HFT := Lib.hid (dfits_any s0 n c L w1 ((HRW.out.keep hb1 (Nat.le_refl _)).mono hb1.size) (fun x hx => ((HV.out x hx).keep hb1 (Nat.le_refl _)).mono hb1.size) HN.out)
  clear hb1 HSY
  go_wp2_with fail
  refine HFT.out.mono ?_
  rintro e w2 ⟨fb, rfl, hfb, hb2⟩
  have HB2 := Lib.hid (below_step HB1.out HB1.out.size hb2)
  cases fb
  · clear hb2 HFT hfb
    go_wp2_with fail
    go_ret
    exact ⟨rfl, HB2.out⟩
  have hff := hfb rfl
  have hn25 := hff.1
  have HFD := Lib.hid hff.2
  by_cases h60 : 60 < nc
  · have d60 : decide ((60 : Int) < (nc : Int)) = true := decide_eq_true (by omega)
    clear hb2 HFT hfb hff HB1
    go_wp2_with fail
    go_ret
    exact ⟨rfl, HB2.out⟩
  have d60 : decide ((60 : Int) < (nc : Int)) = false := decide_eq_false (by omega)
  clear hb2 HFT hfb hff HB1
  go_wp2_with fail
  go_loopw [5, 33] (fun bv i wr => ∃ (k : Nat) (v' : Value), k ≤ n ∧ bv = v' ∧ i = .int .i64 k ∧ Hid (Mine wr w.heap.size v' (bytesD (L.take k))) ∧ Hid (Below w.heap.size w wr)) (fun _ i _ => n - (intOf i).toNat)
  case atStart => exact ⟨0, .slice none 0 0, Nat.zero_le _, rfl, rfl, .inl ⟨rfl, rfl⟩, HB2.out⟩
  case round =>
    clear HB2
    obtain ⟨k, bv, hk, hbv, rfl, HM, HB⟩ := hrel
    replace hbv := hbv.symm
    subst hbv
    by_cases hlt : k < n
    · obtain ⟨x, bb, oo, hkx, hse, hbw, hrg⟩ := HROW.out k hlt
      subst hse
      have j1 : decide ((k : Int) < (n : Int)) = true := decide_eq_true (by omega)
      have hrg := rr_below hrg HB.out hbw
      have r0 : wr.cell? ⟨bb, oo + k * 4, none⟩ = some (.int .i64 x.kd) := hrg 0 _ rfl
      have r1 : wr.cell? ⟨bb, oo + k * 4 + 1, none⟩ = some (.int .i64 x.n) := hrg 1 _ rfl
      have r2 : wr.cell? ⟨bb, oo + k * 4 + 2, none⟩ = some (.slice x.ls x.list.length x.lc) := hrg 2 _ rfl
      have r3 : wr.cell? ⟨bb, oo + k * 4 + 3, none⟩ = some (.slice x.ds x.data.length x.dc) := hrg 3 _ rfl
      have hmem := List.mem_of_getElem? hkx
      have HDV := Lib.hid ((HV.out x hmem).keep HB.out (Nat.le_refl _))
      have HDF := Lib.hid (HFD.out x hmem)
      have HDK := Lib.hid (HKY.out x hmem)
      obtain ⟨nl, hnl⟩ : ∃ nl, nl = x.list.length := ⟨_, rfl⟩
      obtain ⟨nd, hnd⟩ : ∃ nd, nd = x.data.length := ⟨_, rfl⟩
      rw [← hnl] at r2
      rw [← hnd] at r3
      have hl6 : nl ≤ 6 := by rw [hnl]; exact HDF.out.1
      obtain ⟨xk, hxk⟩ : ∃ a, a = x.kd := ⟨_, rfl⟩
      obtain ⟨xn, hxn⟩ : ∃ a, a = x.n := ⟨_, rfl⟩
      obtain ⟨xls, hxls⟩ : ∃ a, a = x.ls := ⟨_, rfl⟩
      obtain ⟨xlc, hxlc⟩ : ∃ a, a = x.lc := ⟨_, rfl⟩
      obtain ⟨xds, hxds⟩ : ∃ a, a = x.ds := ⟨_, rfl⟩
      obtain ⟨xdc, hxdc⟩ : ∃ a, a = x.dc := ⟨_, rfl⟩
      rw [← hxk] at r0
      rw [← hxn] at r1
      rw [← hxls, ← hxlc] at r2
      rw [← hxds, ← hxdc] at r3
      obtain ⟨XL, hXL⟩ : ∃ XL, XL = x.list := ⟨_, rfl⟩
      obtain ⟨XD, hXD⟩ : ∃ XD, XD = x.data := ⟨_, rfl⟩
      have HLV0 : Hid (RowV msR wr w.heap.size (.slice xls nl xlc) XL) := by
        show RowV _ _ _ _ _
        rw [hnl, hxls, hxlc, hXL]
        exact HDV.out.2.2.1
      have HMV0 : Hid (∀ y ∈ XL, MsV wr w.heap.size y.1 ∧ MsFit y.1) := by
        show ∀ y ∈ XL, _
        rw [hXL]
        exact fun y hy => ⟨HDV.out.2.2.2.1 y hy, MsFit_of_key (HDF.out.2.2 y hy) (HDK.out y hy)⟩
      have HDA0 : Hid (BsV wr w.heap.size (.slice xds nd xdc) XD) := by
        show BsV _ _ _ _
        rw [hnd, hxds, hxdc, hXD]
        exact HDV.out.2.2.2.2
      have HLV : Hid (RowV msR wr wr.heap.size (.slice xls nl xlc) XL) := by
        show RowV _ _ _ _ _
        rw [hnl, hxls, hxlc, hXL]
        exact HDV.out.2.2.1.mono HB.out.size
      have HMV : Hid (∀ y ∈ XL, MsV wr wr.heap.size y.1 ∧ MsFit y.1) := by
        show ∀ y ∈ XL, _
        rw [hXL]
        exact fun y hy => ⟨(HDV.out.2.2.2.1 y hy).mono HB.out.size, MsFit_of_key (HDF.out.2.2 y hy) (HDK.out y hy)⟩
      have HDA : Hid (BsV wr wr.heap.size (.slice xds nd xdc) XD) := by
        show BsV _ _ _ _
        rw [hnd, hxds, hxdc, hXD]
        exact HDV.out.2.2.2.2.mono HB.out.size
      have HNL : Hid (nl = XL.length) := by show nl = _; rw [hXL]; exact hnl
      have HND : Hid (XD.length ≤ 2000) := by show _ ≤ _; rw [hXD]; exact HDF.out.2.1
      have HXN : Hid (-9223372036854775808 ≤ xn ∧ xn ≤ 9223372036854775807) := by
        show _ ∧ _
        rw [hxn]
        exact HDV.out.2.1
      have HST : Hid (bytesD (L.take (k + 1)) = (bytesD (L.take k) ++ allB XL) ++ XD) := by
        show _ = _
        rw [hXL, hXD]
        exact bytesD_take L k x hkx
      have HBL : Hid ((bytesD (L.take k)).length ≤ 51296 * 25) := by
        have h1 := bytesD_len (L.take k) (fun d hd => ⟨(HFD.out d (List.mem_of_mem_take hd)).1, (HFD.out d (List.mem_of_mem_take hd)).2.1⟩)
        have h2 := List.length_take_le k L
        have h3 : (L.take k).length ≤ 25 := by have := HN.out; omega
        show _ ≤ _
        omega
      clear hXL hXD HDV HDF HDK hmem
      clear hrg hkx hnl hnd hxk hxn hxls hxlc hxds hxdc
      go_upto_region 9 with fail
      refine wp_any (fun W => Below wr.heap.size wr W ∧ Bk W wr.heap.size 39 #[.int .i64 xk, .int .i64 xn, .slice xls nl xlc, .slice xds nd xdc]) ⟨(Below.refl _ _).alloc (Nat.le_refl _) _, Bk.new _ _ _⟩ ?_
      clear r0 r1 r2 r3
      rintro W ⟨hb, K6⟩
      have HBW := Lib.hid (below_step HB.out HB.out.size hb)
      have HK6 := Lib.hid K6
      obtain ⟨s5, c5, hbv⟩ := HM.out.slice
      have HNE : Hid (¬ slb bv wr.heap.size) := fun h => by have := (HM.out.slb_lo h).2.1; omega
      have HMW := Lib.hid (HM.out.keep hb)
      subst hbv
      have HWB : Hid (Below w.heap.size wr W) := hb.mono HB.out.size
      have h10 : nl ≤ 10 := by omega
      have hl1 : (bytesD (L.take k)).length + (allB XL).length ≤ 1500000 := by
        have h1 := allB_len XL
        have h2 := HNL.out
        have h4 := HBL.out
        omega
      have hl2 : (bytesD (L.take k) ++ allB XL).length + XD.length ≤ 1500000 := by
        have h1 := allB_len XL
        have h2 := HNL.out
        have h3 := HND.out
        have h4 := HBL.out
        rw [List.length_append]
        omega
      have hYx : ∀ z ∈ allB XL, z < 256 := allB_lt (fun y hy => (HMV.out y hy).1)
      have HDA9 : Hid (∀ W1, Below w.heap.size W W1 → BsV W1 W1.heap.size (.slice xds nd xdc) XD) := fun W1 h1 => (HDA0.out.keep (HWB.out.trans h1) (Nat.le_refl _)).mono (Nat.le_trans HB.out.size (Nat.le_trans HWB.out.size h1.size))
      have HBY : Hid (∀ W1, Below w.heap.size W W1 → Calls Tryd.prog 12 #[.slice xls nl xlc] W1 fun r w' => ∃ u, r = .returned u ∧ ∃ s c, u = .slice s (allB XL).length c ∧ Mine w' W1.heap.size (.slice s (allB XL).length c) (allB XL) ∧ Below W1.heap.size W1 w') := fun W1 h1 =>
        (bytesL_any xls nl xlc XL W1 ((HLV0.out.keep (HWB.out.trans h1) (Nat.le_refl _)).mono (Nat.le_trans HB.out.size (Nat.le_trans HWB.out.size h1.size))) (fun y hy => ⟨((HMV0.out y hy).1.keep (HWB.out.trans h1) (Nat.le_refl _)).mono (Nat.le_trans HB.out.size (Nat.le_trans HWB.out.size h1.size)), (HMV0.out y hy).2⟩) h10 (HLD.out.below (HBW.out.trans h1) HLO.out)).mono (by
          rintro r w' ⟨u, rfl, hM, hb⟩
          obtain ⟨s, c, rfl⟩ := hM.slice
          exact ⟨_, rfl, s, c, rfl, hM, hb⟩)
      have HRA := Lib.hid (pieceA wr.heap.size w.heap.size (bytesD (L.take k)).length c5 nl xlc nd xdc (allB XL).length xk xn s5 xls xds (bytesD (L.take k)) (allB XL) XD W)
      have HLW : Hid (w.heap.size ≤ W.heap.size) := HBW.out.size
      obtain ⟨X0, hX0⟩ : ∃ X0, X0 = bytesD (L.take k) := ⟨_, rfl⟩
      obtain ⟨Y, hY⟩ : ∃ Y, Y = allB XL := ⟨_, rfl⟩
      rw [← hX0] at HMW HRA hl1 hl2 HST HNE ⊢
      rw [← hY] at HBY HRA hl1 hl2 hYx HST
      clear hX0 hY
      generalize wr.heap.size = p6 at *
      generalize X0.length = x0l at *
      generalize Y.length = yl at *
      clear hb K6 HLV HMV HDA HLV0 HMV0 HDA0 HM HB
      refine HRA.out _ _ _ _ _ _ _ _ _ _ _ _ _ _ _ _ _ _ _ _ _ _ _ _ _ _ _ _ _ _ _ _ _ _ _ _ _ _ _ _ _ _ _ _ _ _ _ _ _ _ _ _ _ _ _ _ _ _ _ _ _ _ _ _ _ _ _ _ _ _ _ _ _ _ _ _ _ _ _ _ _ _ _ _ _ _ _ _ _ _ _ _ _ _ _ _ _ _ _ _ _ _ _ _ _ _ _ _ _ _ _ _ _ _ _ _ _ _ _ _ _ _ _ _ _ _ _ _ _ _ _ _ HK6 HMW HLW.out HDA9 hl1 hl2 hYx HNE HBY (Lib.hid (fun x0 x1 x2 x3 x4 x5 x6 x7 v7 w9 hM9 hB9 => ?_))
      rw [← HST.out] at hM9
      have HM9 := Lib.hid hM9
      have HB9 := Lib.hid (HBW.out.trans hB9)
      clear hM9 hB9 HRA HBY HDA9 HMW HK6 HWB HBW hl1 hl2 hYx
      go_wp2_with fail
      go_roundw
      case rel => exact ⟨k + 1, v7, by omega, rfl, by go_num, HM9, HB9⟩
      case measure => simp [intOf]; omega
    · have j1 : decide ((k : Int) < (n : Int)) = false := decide_eq_false (by omega)
      have hkn : k = n := by omega
      have HX : Hid (Mine wr w.heap.size bv (bytesD L)) := by
        have h := HM.out
        rw [hkn, HN.out, List.take_length] at h
        exact h
      obtain ⟨X, hXe⟩ : ∃ X, X = bytesD L := ⟨_, rfl⟩
      have HXL : Hid (X.length ≤ 1400000) := by
        have h1 := bytesD_len L (fun d hd => ⟨(HFD.out d hd).1, (HFD.out d hd).2.1⟩)
        rw [← hXe] at h1
        show _ ≤ _
        have := HN.out
        omega
      have HXB : Hid (∀ x ∈ X, x < 256) := by
        show ∀ x ∈ X, _
        rw [hXe]
        exact bytesD_lt HV.out
      rw [← hXe] at HX
      obtain ⟨sb, cb, hbv⟩ := HX.out.slice
      obtain ⟨nb, hnb⟩ : ∃ nb, nb = X.length := ⟨_, rfl⟩
      have HNB := Lib.hid hnb
      have HBV : Hid (BsV wr wr.heap.size (.slice sb nb cb) X) := by
        show BsV _ _ _ _
        rw [hnb, ← hbv]
        exact HX.out.bs HXB.out
      rw [← hnb] at hbv
      subst hbv
      have hnbl : nb ≤ 1400000 := by rw [hnb]; exact HXL.out
      have HNW : Hid (∀ W, Calls Tryd.prog 11 #[.int .u64 3, .int .u32 1, .int .i64 0] W fun r w' => ∃ p b, r = .returned (.tuple #[.pointer (some ⟨p, 0, none⟩), .slice (some ⟨b, 0, none⟩) 1 1]) ∧ W.heap.size ≤ p ∧ PeK w' p (pe0 3 0) (.slice none 0 0) ∧ W.heap.size ≤ b ∧ Bk w' b 58 (msR.c (verM 3 1)).toArray ∧ Below W.heap.size W w') := fun W => new_any 3 1 0 W
      clear HM HX hXe hnb hkn
      go_wp2_with fail
      refine (HNW.out _).mono ?_
      rintro r w6 ⟨p, b1, rfl, hp, hKp, hb1, hKb1, hB6⟩
      have HP := Lib.hid hp
      have HKP6 := Lib.hid hKp
      have HB6 := Lib.hid hB6
      clear hp hKp hb1 hKb1 hB6
      go_wp2_with fail
      refine (HNW.out _).mono ?_
      rintro r w7 ⟨q, b2, rfl, hq, hKq, hb2, hKb2, hB7⟩
      have HKQ7 := Lib.hid hKq
      have HKP7 := Lib.hid (HKP6.out.keep hB7)
      have HB7 := Lib.hid (below_step HB6.out HB6.out.size hB7)
      have HPQ : Hid (p < q) := Nat.lt_of_lt_of_le HKP6.out.lt hq
      have HBW7 := Lib.hid (below_step HB.out HB.out.size HB7.out)
      have HLO2 : Hid (3 + 1 ≤ wr.heap.size) := Nat.le_trans HLO.out HB.out.size
      have hhe := hear_any p wr.heap.size (pe0 3 0) (.slice none 0 0) X sb nb cb w7 (HLD.out.below HBW7.out HLO.out) HLO2.out HP.out HKP7.out (.inl ⟨rfl, rfl⟩) (pe0_sc 3 0) (pe0_fs 3 0) HB7.out.size (BsN.of_bs (HBV.out.keep HB7.out (Nat.le_refl _)) HB7.out.size (fun k hk h => by
        rcases h with h | h
        · have := HP.out; omega
        · exact slb_none _ _ _ h)) HXL.out
      have HHE := Lib.hid hhe
      clear hq hKq hb2 hKb2 hB7 hhe HNW HB6 HKP6
      go_wp2_with fail
      refine HHE.out.mono ?_
      rintro r w8 ⟨v8, vs, va, S, A, rfl, hK8, hM8, hS8, hA8, hkS, hkA, hbt, hsl⟩
      have HKP8 := Lib.hid hK8
      have HKQ8 : Hid (PeK w8 q (pe0 3 0) (.slice none 0 0)) := hbt.keep HKQ7.out (fun h => by
        rcases h with h | h
        · have := HPQ.out; omega
        · exact slb_none _ _ _ h)
      have HS8 := Lib.hid hS8
      have HA8 := Lib.hid hA8
      have HKS := Lib.hid hkS
      have HKA := Lib.hid hkA
      have HB8 : Hid (Below wr.heap.size wr w8) := HB7.out.trans (hbt.below HB7.out.size (fun j hj => by
        rcases hj with h | h
        · rw [h]; exact HP.out
        · exact absurd h (slb_none _ _ _)))
      have HBW8 := Lib.hid (below_step HB.out HB.out.size HB8.out)
      -- the cuts, and the end
      have bA0 : Below w8.heap.size w8 (w8.alloc (.cells #[] 3)) := (Below.refl _ _).alloc (Nat.le_refl _) _
      have m0 : MineR intR (w8.alloc (.cells #[] 3)) w8.heap.size (.slice (some ⟨w8.heap.size, 0, none⟩) 0 0) [] := .inr ⟨w8.heap.size, 0, 0, rfl, rfl, by decide, Nat.le_refl _, Bk.new _ _ _⟩
      have hBWa := below_step HBW8.out HBW8.out.size bA0
      obtain ⟨va1, Wb, hrA, MA, bA, oA⟩ := appB intR_ok [] C _ (.slice sc0 nc cc0) w8.heap.size _ m0 bA0.size ((HC.out.keep hBWa (Nat.le_refl _)).mono hBWa.size) (by have := HNC.out; show 0 + C.length ≤ _; omega)
      have hBb : Below w8.heap.size w8 Wb := bA0.trans (bA.below bA0.size (fun j hj => (m0.slb_lo hj).1))
      obtain ⟨s1, c1, hva1⟩ := MA.slice
      rw [List.nil_append] at MA hva1
      rw [← HNC.out] at hva1
      subst hva1
      have bC0 : Below Wb.heap.size Wb (Wb.alloc (.cells #[.int .i64 (nb : Int)] 3)) := (Below.refl _ _).alloc (Nat.le_refl _) _
      have hBc := below_step hBb hBb.size bC0
      have MA2 := MA.keep bC0
      obtain ⟨v2, Wd, hrB, MB, bB, oB⟩ := appB intR_ok C [(nb : Int)] (.slice s1 nc c1) (.slice (some ⟨Wb.heap.size, 0, none⟩) 1 1) w8.heap.size _ MA2 hBc.size (row_built intR_ok (n := 1) (L := [(nb : Int)]) (Bk.new Wb 3 _) rfl (by decide)) (by have := HNC.out; show C.length + 1 ≤ _; omega)
      have hBd : Below w8.heap.size w8 Wd := hBc.trans (bB.below hBc.size (fun j hj => (MA2.slb_lo hj).1))
      obtain ⟨s2, c2, hv2⟩ := MB.slice
      obtain ⟨nd, hnd⟩ : ∃ nd, nd = (C ++ [(nb : Int)]).length := ⟨_, rfl⟩
      have hnd1 : nd = nc + 1 := by rw [hnd, List.length_append, HNC.out]; rfl
      rw [← hnd] at hv2
      subst hv2
      have HMB := Lib.hid MB
      have HBD := Lib.hid hBd
      have HND := Lib.hid hnd
      have HQD : Hid (q < Wd.heap.size) := Nat.lt_of_lt_of_le HKQ8.out.lt hBd.size
      have HI0 : Hid (PpI Wd Wd q wr.heap.size X 0 (.slice none 0 0) (.slice none 0 0) (.slice none 0 0) (pe0 3 0) [] []) := {
        k := HKQ8.out.keep hBd
        m := .inl ⟨rfl, rfl⟩
        own := fun k h => absurd h (slb_none _ _ _)
        sc := pe0_sc 3 0
        fs := pe0_fs 3 0
        e := by rw [List.take_zero]; rfl
        r1 := .inl ⟨rfl, rfl⟩
        r2 := .inl ⟨rfl, rfl⟩
        ap := fun k h => absurd h (slb_none _ _ _)
        b := But.refl _ _ }
      clear hK8 hM8 hS8 hA8 hkS hkA hbt hsl HHE HKQ7 HKP7 HB7 HBW7 bA0 m0 hBWa MA bA oA hBb bC0 hBc MA2 MB bB oB hBd hnd
      go_wp2_with (first | refine wpList_appR (v1 := .slice (some ⟨w8.heap.size, 0, none⟩) 0 0) (v2 := .slice sc0 nc cc0) 69 rfl (.tmp 60) (.tmp 61) rfl rfl rfl rfl hrA ?_ | refine wpList_appR (v1 := .slice s1 nc c1) (v2 := .slice (some ⟨Wb.heap.size, 0, none⟩) 1 1) 69 rfl (.tmp 62) (.tmp 65) rfl rfl rfl rfl hrB ?_)
      clear hrA hrB
      obtain ⟨lo, hlo⟩ : ∃ lo, lo = wr.heap.size := ⟨_, rfl⟩
      have HLO3 := Lib.hid hlo
      obtain ⟨w5, hw5⟩ : ∃ w5, w5 = wr := ⟨_, rfl⟩
      rw [← hlo] at HI0
      rw [← hw5] at HB HBV HP HB8 HLO2 HLO3
      clear hlo hw5 j1 hlt hk
      clear wr
      go_loopw [14, 15, 16, 68] (fun m14 m15 m16 i wr => ∃ (k a : Nat) (mv ov vq : Value) (mq : PeM) (M O : List MsI), k ≤ nd ∧ a ≤ nb ∧ (k = nd → a = nb) ∧ mv = m14 ∧ ov = m15 ∧ m16 = .int .i64 (a : Int) ∧ i = .int .i64 (k : Int) ∧ Hid (PpI Wd wr q lo X a mv ov vq mq M O)) (fun _ _ _ i _ => nd - (intOf i).toNat)
      case atStart => exact ⟨0, 0, _, _, _, _, [], [], Nat.zero_le _, Nat.zero_le _, fun h => by omega, rfl, rfl, rfl, rfl, HI0.out⟩
      case round =>
        clear HI0
        obtain ⟨k, a, mv, ov, vq, mq, M, O, hk, ha, hka, rfl, rfl, rfl, rfl, HI⟩ := hrel
        have hqw : w5.heap.size ≤ q := Nat.le_trans HP.out (Nat.le_of_lt HPQ.out)
        have HB5 : Hid (Below w5.heap.size w5 wr) := (below_step HB8.out HB8.out.size HBD.out).trans (HI.out.b.below (Nat.le_trans HB8.out.size HBD.out.size) (fun j hj => by have e : j = q := hj; rw [e]; exact hqw))
        have HBWr : Hid (Below w.heap.size w wr) := below_step HB.out HB.out.size HB5.out
        by_cases hlt : k < nd
        · have j1 : decide ((k : Int) < (nd : Int)) = true := decide_eq_true (by omega)
          have hrow := row_at (show RowV intR wr wr.heap.size (.slice s2 (C ++ [(nb : Int)]).length c2) (C ++ [(nb : Int)]) from by rw [← HND.out]; exact ((HMB.out.but' HI.out.b (HKQ8.out.keep HBD.out) (by decide)).rows intR_ok)) k (by rw [← HND.out]; exact hlt)
          obtain ⟨z, bt, ot, hkz, hse, hbt, hrg⟩ := hrow
          subst hse
          have r0 : wr.cell? ⟨bt, ot + k * 1, none⟩ = some (.int .i64 z) := hrg 0 _ rfl
          rw [Nat.mul_one] at r0
          have hzr : -9223372036854775808 ≤ z ∧ z ≤ 9223372036854775807 := by
            rcases List.mem_append.1 (List.mem_of_getElem? hkz) with h | h
            · exact HCI.out z h
            · rw [List.mem_singleton.1 h]; omega
          have hlast : k + 1 = nd → z = (nb : Int) := fun h => by
            have h1 : k = C.length := by have := HNC.out; omega
            rw [h1, List.getElem?_append_right (Nat.le_refl _), Nat.sub_self] at hkz
            exact (Option.some.inj hkz).symm
          clear hrg hkz
          go_upto_region 19 with fail
          refine cutR wr z sb cb nb a ha hnbl hzr (fun x72 x73 x74 x75 x76 x77 x78 zz hzz => ?_)
          obtain ⟨j, hj⟩ : ∃ j : Nat, zz = (j : Int) := ⟨zz.toNat, by omega⟩
          subst hj
          have haj : a + j ≤ nb := by omega
          have hal : k + 1 = nd → a + j = nb := fun h => by have := hlast h; omega
          obtain ⟨s3, c3, hs3, hbs3⟩ := mid_slice (HBV.out.keep HB5.out (Nat.le_refl _)) a j (by rw [← HNB.out]; exact haj)
          have hhe := hear_any q lo mq vq ((X.drop a).take j) s3 j c3 wr (HLD.out.below HBWr.out HLO.out) (by rw [HLO3.out]; exact HLO2.out) (by rw [HLO3.out]; exact hqw) HI.out.k HI.out.m HI.out.sc HI.out.fs (by rw [HLO3.out]; exact HB5.out.size) (BsN.of_bs hbs3 HB5.out.size (fun i hi h => by
            rcases h with h | h
            · omega
            · have := HI.out.own i h
              have := HB8.out.size
              have := HBD.out.size
              omega)) (by rw [List.length_take]; have := HNB.out; omega)
          have HHE : Hid (Calls Tryd.prog 13 #[.pointer (some ⟨q, 0, none⟩), .slice s3 j c3] wr fun r w' => ∃ u, r = .returned u ∧ HearP wr w' q lo vq mq ((X.drop a).take j) (.returned u)) := hhe.mono (by
            rintro r w' h
            have h2 := h
            obtain ⟨_, vs, va, _, _, rfl, _⟩ := h2
            exact ⟨_, rfl, h⟩)
          have hwr : IntKind.i64.wrap ((a : Int) + (j : Int)) = (a : Int) + (j : Int) := IntWalk.i64_in _ (by omega)
          clear hhe hzz r0 hbs3 hzr hlast hbt
          go_wp2_with fail
          refine HHE.out.mono ?_
          rintro r w9 ⟨u, rfl, hh⟩
          obtain ⟨x, y, W6, W7, v6, v7, vq5, mq5, M5, O5, rfl, hr6, hr7, I7⟩ := HI.out.next HQD.out HXL.out HXB.out hh
          have HI7 := Lib.hid I7
          clear hh I7 HHE HI hs3
          go_wp2_with (first | refine wpList_appR (v1 := mv) (v2 := x) 27 rfl (.tmp 90) (.tmp 91) rfl rfl rfl rfl hr6 ?_ | refine wpList_appR (v1 := ov) (v2 := y) 27 rfl (.tmp 93) (.tmp 94) rfl rfl rfl rfl hr7 ?_)
          go_roundw
          case rel => exact ⟨k + 1, a + j, v6, v7, vq5, mq5, M5, O5, by omega, haj, hal, rfl, rfl, by go_num, by go_num, HI7.out⟩
          case measure => simp [intOf]; omega
        · have j1 : decide ((k : Int) < (nd : Int)) = false := decide_eq_false (by omega)
          have hE := HI.out.e
          rw [hka (by omega), HNB.out, List.take_length] at hE
          have hmq : mq = (hearM (pe0 3 0) X).1 := by rw [hE]
          have hkM : keysM S = keysM M := by rw [HKS.out, hE]
          have hkO : keysM A = keysM O := by rw [HKA.out, hE]
          have hKp : PeK wr p mq v8 := by
            rw [hmq]
            exact HI.out.b.keep (HKP8.out.keep HBD.out) (by have := HPQ.out; omega)
          have hKq := HI.out.k
          have rS := ((HS8.out.keep HBD.out).but' HI.out.b (HKQ8.out.keep HBD.out) (by decide)).rows msR_ok
          have rA := ((HA8.out.keep HBD.out).but' HI.out.b (HKQ8.out.keep HBD.out) (by decide)).rows msR_ok
          have rM := HI.out.r1.rows msR_ok
          have rO := HI.out.r2.rows msR_ok
          obtain ⟨ss, cs, hvs⟩ := HS8.out.slice
          obtain ⟨sa, ca, hva⟩ := HA8.out.slice
          obtain ⟨sm, cm, hmv⟩ := HI.out.r1.slice
          obtain ⟨so, co, hov⟩ := HI.out.r2.slice
          have HA1 : Hid (∀ W, Below wr.heap.size wr W → Calls Tryd.prog 15 #[vs, mv] W fun r w' => r = .returned (.bool true) ∧ Below W.heap.size W w') := fun W h => by
            have h1 := (rS.keep h (Nat.le_refl _)).mono h.size
            have h2 := (rM.keep h (Nat.le_refl _)).mono h.size
            rw [hvs] at h1 ⊢
            rw [hmv] at h2 ⊢
            exact alike_any ss sm _ _ cs cm S M W h1 h2 hkM
          have HA2 : Hid (∀ W, Below wr.heap.size wr W → Calls Tryd.prog 15 #[va, ov] W fun r w' => r = .returned (.bool true) ∧ Below W.heap.size W w') := fun W h => by
            have h1 := (rA.keep h (Nat.le_refl _)).mono h.size
            have h2 := (rO.keep h (Nat.le_refl _)).mono h.size
            rw [hva] at h1 ⊢
            rw [hov] at h2 ⊢
            exact alike_any sa so _ _ ca co A O W h1 h2 hkO
          have HZ := Lib.hid (fun (Q0 : Exit → Act → World → Prop) => pieceZ p q mq.ht mq.sc mq.rd vs va mv ov wr)
          have HR1 := Lib.hid (fun W (h : Below wr.heap.size wr W) => (ready_any p mq v8 W (hKp.keep h)).mono (R' := fun r w' => r = .returned (.bool mq.rd) ∧ Below W.heap.size W w') (by rintro r w' ⟨rfl, rfl⟩; exact ⟨rfl, Below.refl _ _⟩))
          have HR2 := Lib.hid (fun W (h : Below wr.heap.size wr W) => (ready_any q mq vq W (hKq.keep h)).mono (R' := fun r w' => r = .returned (.bool mq.rd) ∧ Below W.heap.size W w') (by rintro r w' ⟨rfl, rfl⟩; exact ⟨rfl, Below.refl _ _⟩))
          have HT1 := Lib.hid (fun W (h : Below wr.heap.size wr W) => (height_any p mq v8 W (hKp.keep h)).mono (R' := fun r w' => r = .returned (.int .u32 (mq.ht : Int)) ∧ Below W.heap.size W w') (by rintro r w' ⟨rfl, rfl⟩; exact ⟨rfl, Below.refl _ _⟩))
          have HT2 := Lib.hid (fun W (h : Below wr.heap.size wr W) => (height_any q mq vq W (hKq.keep h)).mono (R' := fun r w' => r = .returned (.int .u32 (mq.ht : Int)) ∧ Below W.heap.size W w') (by rintro r w' ⟨rfl, rfl⟩; exact ⟨rfl, Below.refl _ _⟩))
          have HS1 := Lib.hid (fun W (h : Below wr.heap.size wr W) => (score_any p mq v8 W (hKp.keep h)).mono (R' := fun r w' => r = .returned (.int .i64 mq.sc) ∧ Below W.heap.size W w') (by rintro r w' ⟨rfl, rfl⟩; exact ⟨rfl, Below.refl _ _⟩))
          have HS2 := Lib.hid (fun W (h : Below wr.heap.size wr W) => (score_any q mq vq W (hKq.keep h)).mono (R' := fun r w' => r = .returned (.int .i64 mq.sc) ∧ Below W.heap.size W w') (by rintro r w' ⟨rfl, rfl⟩; exact ⟨rfl, Below.refl _ _⟩))
          have zp := hKp.lt
          have zq := hKq.lt
          clear hE hmq hkM hkO hKp hKq rS rA rM rO hvs hva hmv hov HI
          go_upto_region 24 with fail
          refine HZ.out (fun _ _ _ => True) _ _ _ _ _ _ _ _ _ _ _ _ _ _ _ _ _ _ _ _ _ _ _ _ _ _ _ _ _ _ _ _ _ _ _ _ _ _ _ _ _ _ _ _ _ _ _ _ _ _ _ _ _ _ _ _ _ _ _ _ _ _ _ _ _ _ _ _ _ _ _ _ _ _ _ _ _ _ _ _ _ _ _ _ _ _ _ _ _ _ _ _ _ _ _ _ _ _ _ _ _ _ _ _ _ _ _ _ _ _ _ _ _ _ _ _ _ _ _ _ _ _ _ _ _ _ _ _ zp zq (by simp) (by simp) (by simp) HA1 HA2 HR1 HR2 HS1 HS2 HT1 HT2 (Lib.hid (fun x0 x1 x2 x3 x4 x5 x6 x7 x8 x9 x10 x11 x12 x13 x14 x15 x16 x17 x18 x19 x20 x21 x22 x23 x24 x25 x26 x27 x28 x29 x30 x31 x32 w9 hB9 => ?_))
          have HB9 : Hid (Below w.heap.size w w9) := below_step HBWr.out HBWr.out.size hB9
          clear hB9
          go_wp2_with fail
          go_ret
          exact ⟨rfl, HB9.out⟩
end Go.Proofs.YtjnbdajdllpchaaDoor.peerPieces
