/-
  What is proved: for every list of deeds whose strings and bytes are of 1048576 at most in all, the law PeerSmall returns true, and its argument reads behind the call as it read before it; the three listed tables, two of package hash and one of package msg, are taken to hold what the program's text lays in them, and the card ties them to it.
-/
import Derived.Test.YtjnbdajdllpchaaDoorPsZ
import Derived.Test.YtjnbdajdllpchaaDoorTie
import Derived.Test.YtjnbdajdllpchaaDoorCards
import Derived.Stop.Joined
namespace Go.Proofs.YtjnbdajdllpchaaDoor.peerSmall
open Go.ChangeShapes Go.WideShapes Go.ChangeAt Go.RowKit
set_option linter.unusedVariables false

theorem own : ownKnob Tryd.prog.godebug = none := by kernel_rfl
theorem laidOut : laidOutB Tryd.prog = true := by kernel_rfl
theorem wf_i64 {z : Int} (h : (Lit.int .i64 z).wf = true) : -9223372036854775808 ≤ z ∧ z ≤ 9223372036854775807 := by
  simp [Lit.wf, IntKind.min, IntKind.max, IntKind.signed, IntKind.bits] at h
  omega
def KeyOk (L : List DeM) : Prop := ∀ d ∈ L, ∀ x ∈ d.list, ∀ t ∈ x.1.bk.txs, ∀ i ∈ t.ins, i.key.length ≤ 1100000
set_option maxRecDepth 100000 in
set_option maxHeartbeats 16000000 in
theorem walk (L : List DeM) (v : Value) (w : World) (hL : LaidM w) (hR : RowV deR w w.heap.size v L) (hV : ∀ x ∈ L, DeV w w.heap.size x) (hKY : KeyOk L) :
    Calls Tryd.prog 5 #[v] w fun e w' => e = .returned (.bool true) ∧ Below w.heap.size w w' := by
  obtain ⟨s0, c, rfl⟩ := hR.slice
  obtain ⟨n, hnl⟩ : ∃ n, n = L.length := ⟨_, rfl⟩
  rw [← hnl] at hR ⊢
  have HN := Lib.hid hnl
  have HLD := Lib.hid hL
  have HV := Lib.hid hV
  have HKY := Lib.hid hKY
  have HRW := Lib.hid hR
  have HROW : Hid (∀ k, k < n → ∃ x b o, L[k]? = some x ∧ s0 = some ⟨b, o, none⟩ ∧ b < w.heap.size ∧ w.rangeAt b (o + k * 4) (deL x)) := by
    show ∀ k, k < n → _
    rw [hnl]
    exact row_at (show RowV deR w w.heap.size (.slice s0 L.length c) L from by rw [← hnl]; exact hR)
  have h63 : n < 9223372036854775808 := by
    obtain ⟨_, _, e, h1, h2, _⟩ := hR
    omega
  have hlo : 3 + 1 ≤ w.heap.size := hL.size
  have HLO := Lib.hid hlo
  have HSY := Lib.hid (greets_any w hL)
  clear hR hV hL hnl hlo hKY
  go_enter Tryd.func5, Tryd.ntmps5
  go_wp2_with fail
  refine HSY.out.mono ?_
  rintro e w1 ⟨rfl, hb1⟩
  have HB1 := Lib.hid hb1
  have HFT := Lib.hid (dfits_any s0 n c L w1 ((HRW.out.keep hb1 (Nat.le_refl _)).mono hb1.size) (fun x hx => ((HV.out x hx).keep hb1 (Nat.le_refl _)).mono hb1.size) HN.out)
  clear hb1 HSY
  go_wp2_with fail
  refine HFT.out.mono ?_
  rintro e w2 ⟨fb, rfl, hfb, hb2⟩
  have HB2 := Lib.hid (below_step HB1.out HB1.out.size hb2)
  cases fb
  · clear hb2 HFT hfb
    go_wp2_with fail
    go_ret
    exact ⟨rfl, HB2.out⟩
  have hff := hfb rfl
  have hn25 := hff.1
  have HFD := Lib.hid hff.2
  have HNW : Hid (Calls Tryd.prog 11 #[.int .u64 3, .int .u32 1, .int .i64 0] w2 fun r w' => ∃ p b, r = .returned (.tuple #[.pointer (some ⟨p, 0, none⟩), .slice (some ⟨b, 0, none⟩) 1 1]) ∧ w2.heap.size ≤ p ∧ PeK w' p (pe0 3 0) (.slice none 0 0) ∧ w2.heap.size ≤ b ∧ Bk w' b 58 (msR.c (verM 3 1)).toArray ∧ Below w2.heap.size w2 w') := new_any 3 1 0 w2
  clear hb2 HFT hfb hff HB1
  go_wp2_with fail
  refine HNW.out.mono ?_
  rintro r w3 ⟨p, b, rfl, hp, hK, hb, hKb, hB⟩
  have HP : Hid (w.heap.size ≤ p) := Nat.le_trans HB2.out.size hp
  have HB3 := Lib.hid (below_step HB2.out HB2.out.size hB)
  have HK3 := Lib.hid hK
  have HSC3 : Hid (ScOk (pe0 3 0)) := pe0_sc 3 0
  have HFS3 : Hid (FsOk ⟨(pe0 3 0).h, (pe0 3 0).e, []⟩) := pe0_fs 3 0
  clear hp hK hb hKb hB HNW HB2
  go_wp2_with fail
  go_loopw [5, 19] (fun vv i wr => ∃ (k : Nat) (m : PeM) (v' : Value), k ≤ n ∧ vv = .int .i64 m.sc ∧ i = .int .i64 k ∧ Hid (PeK wr p m v') ∧ Hid (Mine wr w.heap.size v' m.h) ∧ Hid (ScOk m) ∧ Hid (FsOk ⟨m.h, m.e, []⟩) ∧ Hid (Below w.heap.size w wr)) (fun _ i _ => n - (intOf i).toNat)
  case atStart => exact ⟨0, pe0 3 0, .slice none 0 0, Nat.zero_le _, rfl, rfl, HK3.out, .inl ⟨rfl, rfl⟩, HSC3.out, HFS3.out, HB3.out⟩
  case round =>
    clear HK3 HSC3 HFS3 HB3
    obtain ⟨k, m, v', hk, rfl, rfl, HK, HM, HSC, HFS, HB⟩ := hrel
    by_cases hlt : k < n
    · obtain ⟨x, bb, oo, hkx, hse, hbw, hrg⟩ := HROW.out k hlt
      subst hse
      have j1 : decide ((k : Int) < (n : Int)) = true := decide_eq_true (by omega)
      have hrg := rr_below hrg HB.out hbw
      have r0 : wr.cell? ⟨bb, oo + k * 4, none⟩ = some (.int .i64 x.kd) := hrg 0 _ rfl
      have r1 : wr.cell? ⟨bb, oo + k * 4 + 1, none⟩ = some (.int .i64 x.n) := hrg 1 _ rfl
      have r2 : wr.cell? ⟨bb, oo + k * 4 + 2, none⟩ = some (.slice x.ls x.list.length x.lc) := hrg 2 _ rfl
      have r3 : wr.cell? ⟨bb, oo + k * 4 + 3, none⟩ = some (.slice x.ds x.data.length x.dc) := hrg 3 _ rfl
      have hmem := List.mem_of_getElem? hkx
      have HDV := Lib.hid ((HV.out x hmem).keep HB.out (Nat.le_refl _))
      have HDF := Lib.hid (HFD.out x hmem)
      have HDK := Lib.hid (HKY.out x hmem)
      obtain ⟨nl, hnl⟩ : ∃ nl, nl = x.list.length := ⟨_, rfl⟩
      obtain ⟨nd, hnd⟩ : ∃ nd, nd = x.data.length := ⟨_, rfl⟩
      rw [← hnl] at r2
      rw [← hnd] at r3
      have hl6 : nl ≤ 6 := by rw [hnl]; exact HDF.out.1
      obtain ⟨xk, hxk⟩ : ∃ a, a = x.kd := ⟨_, rfl⟩
      obtain ⟨xn, hxn⟩ : ∃ a, a = x.n := ⟨_, rfl⟩
      obtain ⟨xls, hxls⟩ : ∃ a, a = x.ls := ⟨_, rfl⟩
      obtain ⟨xlc, hxlc⟩ : ∃ a, a = x.lc := ⟨_, rfl⟩
      obtain ⟨xds, hxds⟩ : ∃ a, a = x.ds := ⟨_, rfl⟩
      obtain ⟨xdc, hxdc⟩ : ∃ a, a = x.dc := ⟨_, rfl⟩
      rw [← hxk] at r0
      rw [← hxn] at r1
      rw [← hxls, ← hxlc] at r2
      rw [← hxds, ← hxdc] at r3
      obtain ⟨XL, hXL⟩ : ∃ XL, XL = x.list := ⟨_, rfl⟩
      obtain ⟨XD, hXD⟩ : ∃ XD, XD = x.data := ⟨_, rfl⟩
      have HLV : Hid (RowV msR wr wr.heap.size (.slice xls nl xlc) XL) := by
        show RowV _ _ _ _ _
        rw [hnl, hxls, hxlc, hXL]
        exact HDV.out.2.2.1.mono HB.out.size
      have HMV : Hid (∀ y ∈ XL, MsV wr wr.heap.size y.1 ∧ MsFit y.1) := by
        show ∀ y ∈ XL, _
        rw [hXL]
        exact fun y hy => ⟨(HDV.out.2.2.2.1 y hy).mono HB.out.size, MsFit_of_key (HDF.out.2.2 y hy) (HDK.out y hy)⟩
      have HDA : Hid (BsV wr wr.heap.size (.slice xds nd xdc) XD) := by
        show BsV _ _ _ _
        rw [hnd, hxds, hxdc, hXD]
        exact HDV.out.2.2.2.2.mono HB.out.size
      have HNL : Hid (nl = XL.length) := by show nl = _; rw [hXL]; exact hnl
      have HND : Hid (XD.length ≤ 2000) := by show _ ≤ _; rw [hXD]; exact HDF.out.2.1
      have HXN : Hid (-9223372036854775808 ≤ xn ∧ xn ≤ 9223372036854775807) := by
        show _ ∧ _
        rw [hxn]
        exact HDV.out.2.1
      have HSL : Hid (∀ j, slb v' j → w.heap.size ≤ j ∧ j < wr.heap.size) := fun j hj => ⟨(HM.out.slb_lo hj).1, (HM.out.slb_lo hj).2.1⟩
      obtain ⟨sc0, hsc0⟩ : ∃ a, a = m.sc := ⟨_, rfl⟩
      have HS0 := Lib.hid hsc0
      rw [← hsc0]
      clear hsc0 hXL hXD HDV HDF HDK hmem
      clear hrg hkx hnl hnd hxk hxn hxls hxlc hxds hxdc
      go_upto_region 10 with fail
      refine wp_any (fun W => Below wr.heap.size wr W ∧ Bk W wr.heap.size 39 #[.int .i64 xk, .int .i64 xn, .slice xls nl xlc, .slice xds nd xdc]) ⟨(Below.refl _ _).alloc (Nat.le_refl _) _, Bk.new _ _ _⟩ ?_
      clear r0 r1 r2 r3
      rintro W ⟨hb, K6⟩
      have HBW := Lib.hid (below_step HB.out HB.out.size hb)
      have HKW := Lib.hid (HK.out.keep hb)
      have HMW := Lib.hid (HM.out.keep hb)
      have HK6 := Lib.hid K6
      have HNE : Hid (¬ (wr.heap.size = p ∨ slb v' wr.heap.size)) := by
        rintro (h | h)
        · have := HK.out.lt; omega
        · have := (HSL.out _ h).2; omega
      have HNP : Hid (¬ (wr.heap.size = p)) := fun h => HNE.out (.inl h)
      have HLW : Hid (RowV msR W W.heap.size (.slice xls nl xlc) XL) := (HLV.out.keep hb (Nat.le_refl _)).mono hb.size
      have HMVW : Hid (∀ y ∈ XL, MsV W W.heap.size y.1 ∧ MsFit y.1) := fun y hy => ⟨((HMV.out y hy).1.keep hb (Nat.le_refl _)).mono hb.size, (HMV.out y hy).2⟩
      have HDW : Hid (BsV W W.heap.size (.slice xds nd xdc) XD) := (HDA.out.keep hb (Nat.le_refl _)).mono hb.size
      have h10 : nl ≤ 10 := by omega
      have hlen : (allB XL).length + XD.length ≤ 1048576 := by
        have h1 := allB_len XL
        have h2 := HNL.out
        have h3 := HND.out
        omega
      have hle9 : (allB XL ++ XD).length ≤ 1000000 := by
        have h1 := allB_len XL
        have h2 := HNL.out
        have h3 := HND.out
        rw [List.length_append]
        omega
      have HBX : Hid (∀ z ∈ allB XL ++ XD, z < 256) := by
        intro z hz
        rcases List.mem_append.1 hz with h | h
        · exact allB_lt (fun y hy => (HMVW.out y hy).1) z h
        · obtain ⟨_, _, _, _, _, h5, _⟩ := HDW.out
          exact h5 z h
      have HBY : Hid (∀ W1, Below W.heap.size W W1 → Calls Tryd.prog 12 #[.slice xls nl xlc] W1 fun r w' => ∃ u, r = .returned u ∧ ∃ s c, u = .slice s (allB XL).length c ∧ Mine w' W1.heap.size (.slice s (allB XL).length c) (allB XL) ∧ Below W1.heap.size W1 w') := fun W1 hW1 =>
        (bytesL_any xls nl xlc XL W1 ((HLW.out.keep hW1 (Nat.le_refl _)).mono hW1.size) (fun y hy => ⟨((HMVW.out y hy).1.keep hW1 (Nat.le_refl _)).mono hW1.size, (HMVW.out y hy).2⟩) h10 (HLD.out.below (below_step HBW.out HBW.out.size hW1) HLO.out)).mono (by
          rintro r w' ⟨u, rfl, hM, hb⟩
          obtain ⟨s, c, rfl⟩ := hM.slice
          exact ⟨_, rfl, s, c, rfl, hM, hb⟩)
      have HHE : Hid (∀ W1 v8, Below W.heap.size W W1 → Mine W1 W.heap.size v8 (allB XL ++ XD) → Calls Tryd.prog 13 #[.pointer (some ⟨p, 0, none⟩), v8] W1 fun r w' => ∃ u, r = .returned u ∧ HearP W1 w' p w.heap.size v' m (allB XL ++ XD) (.returned u)) := fun W1 v8 hW1 hM8 => by
        obtain ⟨s8, c8, rfl⟩ := hM8.slice
        have hB1 := below_step HBW.out HBW.out.size hW1
        refine (hear_any p w.heap.size m v' (allB XL ++ XD) s8 _ c8 W1 (HLD.out.below hB1 HLO.out) HLO.out HP.out (HKW.out.keep hW1) (HMW.out.keep hW1) HSC.out HFS.out hB1.size (bsn_mine hM8 HBX.out (fun j hj h => by
          rcases h with h | h
          · have := HKW.out.lt; omega
          · have := (HSL.out _ h).2; have := hb.size; omega)) hle9).mono ?_
        rintro r w' h
        have h2 := h
        obtain ⟨_, vs, va, _, _, rfl, _⟩ := h2
        exact ⟨_, rfl, h⟩
      have hRA := smallA p wr.heap.size w.heap.size nl xlc nd xdc (allB XL).length xk xn xls xds (allB XL) XD m v' W
      have HRA := Lib.hid hRA
      obtain ⟨Y, hY⟩ : ∃ Y, Y = allB XL := ⟨_, rfl⟩
      rw [← hY] at HBY HHE HRA hlen hle9 HBX
      clear hRA hY
      generalize wr.heap.size = p6 at *
      generalize Y.length = yl at *
      clear hb K6 HLV HMV HDA HK HM HB
      refine HRA.out _ _ _ _ _ _ _ _ _ _ _ _ _ _ _ _ _ _ _ _ _ _ _ _ _ _ _ _ _ _ _ _ _ _ _ _ _ _ _ _ _ _ _ _ _ _ _ _ _ _ _ _ _ _ _ _ _ _ _ HK6 HDW hlen HNE HBY HHE (Lib.hid (fun x0 x1 x2 x3 x4 x5 x6 x7 u w9 hD9 hH9 => ?_))
      obtain ⟨W1, hb1, v9, vs9, va9, S9, A9, hu, hK9, hM9, hS9, hA9, hkS, hkA, hbt, hsl⟩ := hH9
      injection hu with hu
      subst hu
      obtain ⟨H, hH⟩ : ∃ H, H = (hearM m (Y ++ XD)).1 := ⟨_, rfl⟩
      have hsc9 := hearM_sc (Y ++ XD) HSC.out
      have hh9 := hearM_h m (Y ++ XD)
      have hfs9 := feedL_fs (Y ++ XD) HFS.out HBX.out
      rw [← hH] at hK9 hM9 hsc9 hh9
      have HFS9 : Hid (FsOk ⟨H.h, H.e, []⟩) := by
        show FsOk _
        rw [hh9.1, hh9.2.1]
        exact ⟨hfs9.1, hfs9.2.1, (by intro x hx; cases hx)⟩
      have HSC9 : Hid (ScOk H) := hsc9.1
      have hle1 : sc0 ≤ H.sc := by rw [HS0.out]; exact hsc9.2
      have hB1 := below_step HBW.out HBW.out.size hb1
      have HB9 : Hid (Below w.heap.size w w9) := hB1.trans (hbt.below hB1.size (fun j hj => by
        rcases hj with h | h
        · rw [h]; exact HP.out
        · exact (HSL.out j h).1))
      have HK9 := Lib.hid hK9
      have HM9 := Lib.hid hM9
      have HD9 := Lib.hid hD9
      have HLE := Lib.hid hle1
      have HBM : Hid (∀ W, PeK W p H v9 → Calls Tryd.prog 18 #[.pointer (some ⟨p, 0, none⟩), .int .i64 xn] W fun r w' => ∃ u, r = .returned u ∧ PeK w' p { H with sc := blI H.sc xn } v9 ∧ But (fun k => k = p) W w') := fun W hK => (blame_any p H v9 xn W hK HSC9.out HXN.out).mono (by
        rintro r w' ⟨rfl, h1, h2⟩
        exact ⟨_, rfl, h1, h2⟩)
      have HRB := Lib.hid (smallB p p6 nl xlc nd xdc xk xn xls xds H { H with sc := blI H.sc xn } v9 w9)
      clear hK9 hM9 hS9 hA9 hkS hkA hbt hsl hb1 hB1 hH hsc9 hh9 hfs9 hD9 hle1 HRA HBY HHE HK6 HKW HMW HLW HMVW HDW HBW hlen hle9
      go_upto_region 11 with fail
      refine HRB.out _ _ _ _ _ _ _ _ _ _ _ _ _ _ _ _ _ _ _ _ _ _ _ _ _ _ _ _ _ _ _ _ _ _ _ _ _ _ _ _ _ _ _ _ _ _ _ _ _ _ _ _ _ _ _ _ _ _ _ HD9 HK9 HNP HBM (Lib.hid (fun y0 y1 y2 y3 y4 y5 u w10 hD10 hK10 hb10 => ?_))
      obtain ⟨M2, hM2⟩ : ∃ M2 : PeM, M2 = { H with sc := blI H.sc xn } := ⟨_, rfl⟩
      rw [← hM2] at hK10
      have hin := blI_in xn HSC9.out
      have HSC2 : Hid (ScOk M2) := by rw [hM2]; exact ⟨hin.1, hin.2.1⟩
      have HFS2 : Hid (FsOk ⟨M2.h, M2.e, []⟩) := by rw [hM2]; exact HFS9.out
      have hM10 : Mine w10 w.heap.size v9 M2.h := by rw [hM2]; exact HM9.out.but' hb10 HK9.out (by decide)
      have HB10 : Hid (Below w.heap.size w w10) := HB9.out.trans (hb10.below HB9.out.size (fun j hj => by have e : j = p := hj; rw [e]; exact HP.out))
      obtain ⟨sc2, hsc2⟩ : ∃ a, a = M2.sc := ⟨_, rfl⟩
      have hl2 : sc0 ≤ sc2 ∧ sc2 ≤ 100 := by
        rw [hsc2]
        refine ⟨Int.le_trans HLE.out ?_, HSC2.out.2⟩
        rw [hM2]
        exact hin.2.2
      obtain ⟨hl, hhl⟩ : ∃ a, a = M2.h.length := ⟨_, rfl⟩
      have hl3 : hl < 16408 := by rw [hhl]; exact HFS2.out.room
      have HHD := Lib.hid (held_any p w.heap.size M2 v9 w10 hK10 hM10)
      have HSR := Lib.hid (score_any p M2 v9 w10 hK10)
      rw [← hhl] at HHD
      rw [← hsc2] at HSR
      have HK10 := Lib.hid hK10
      have HM10 := Lib.hid hM10
      have HS2 := Lib.hid hsc2
      have zp := hK10.lt
      have d1 : decide ((16408 : Int) < (hl : Int)) = false := decide_eq_false (by omega)
      have d2 : decide (sc2 < sc0) = false := decide_eq_false (by omega)
      have d3 : decide ((100 : Int) < sc2) = false := decide_eq_false (by omega)
      clear hK10 hM10 hsc2 hhl hM2 hin hD10 hb10 HRB HBM HK9 HM9 HD9 HB9 HLE HFS9 HSC9
      go_wp2_with fail
      refine HHD.out.mono ?_
      rintro r w11 ⟨rfl, e11⟩
      subst w11
      go_wp2_with fail
      refine HSR.out.mono ?_
      rintro r w11 ⟨rfl, e11⟩
      subst w11
      go_wp2_with fail
      refine HSR.out.mono ?_
      rintro r w11 ⟨rfl, e11⟩
      subst w11
      go_wp2_with fail
      refine HSR.out.mono ?_
      rintro r w11 ⟨rfl, e11⟩
      subst w11
      go_wp2_with fail
      go_roundw
      case rel => exact ⟨k + 1, M2, v9, by omega, by rw [HS2.out], by go_num, HK10, HM10, HSC2, HFS2, HB10⟩
      case measure => simp [intOf]; omega
    · have j1 : decide ((k : Int) < (n : Int)) = false := decide_eq_false (by omega)
      go_wp2_with fail
      go_ret
      exact ⟨rfl, HB.out⟩
end Go.Proofs.YtjnbdajdllpchaaDoor.peerSmall
