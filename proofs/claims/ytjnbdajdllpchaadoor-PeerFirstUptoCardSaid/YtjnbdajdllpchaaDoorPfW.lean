/-
  What is proved: for every list of deeds the law PeerFirst returns true, and its argument reads behind the call as it read before it; the three listed tables, two of package hash and one of package msg, are taken to hold what the program's text lays in them, and the card ties them to it.
-/
import Derived.Test.YtjnbdajdllpchaaDoorPfA
import Derived.Test.YtjnbdajdllpchaaDoorTie
import Derived.Test.YtjnbdajdllpchaaDoorCards
import Derived.Stop.Joined
namespace Go.Proofs.YtjnbdajdllpchaaDoor.peerFirst
open Go.ChangeShapes Go.WideShapes Go.ChangeAt Go.RowKit
set_option linter.unusedVariables false

theorem own : ownKnob Tryd.prog.godebug = none := by kernel_rfl
theorem laidOut : laidOutB Tryd.prog = true := by kernel_rfl
theorem wf_i64 {z : Int} (h : (Lit.int .i64 z).wf = true) : -9223372036854775808 ≤ z ∧ z ≤ 9223372036854775807 := by
  simp [Lit.wf, IntKind.min, IntKind.max, IntKind.signed, IntKind.bits] at h
  omega
theorem verN_take (l : List KeyM) (i : Nat) (k : KeyM) (h : l[i]? = some k) : verN (l.take (i + 1)) = verN (l.take i) + (if k.1 = 2 then 1 else 0) := by
  unfold verN
  rw [List.take_add_one, h, List.filter_append, List.length_append]
  congr 1
  by_cases h2 : k.1 = 2
  · simp [h2]
  · simp [h2]
def KeyOk (L : List DeM) : Prop := ∀ d ∈ L, ∀ x ∈ d.list, ∀ t ∈ x.1.bk.txs, ∀ i ∈ t.ins, i.key.length ≤ 1100000
theorem fit_of {x : MsI} (h : MgFit x) (hk : ∀ t ∈ x.1.bk.txs, ∀ i ∈ t.ins, i.key.length ≤ 1100000) : MsFit x.1 :=
  ⟨Nat.le_trans h.1 (by decide), Nat.le_trans h.2.1 (by decide), fun _ => ⟨Nat.le_trans h.2.2.1 (by decide), fun t ht => ⟨Nat.le_trans (h.2.2.2 t ht).1 (by decide), Nat.le_trans (h.2.2.2 t ht).2 (by decide), fun i hi => hk t ht i hi⟩⟩⟩
theorem enc_facts {w : World} {B : Nat} {x : MsM} (hV : MsV w B x) (hm : msE x = 0) : (dataL x).length ≤ 16384 ∧ WordOk (kindL x.kd.toNat) ∧ ∀ b ∈ dataL x, b < 256 := by
  unfold msE at hm
  by_cases hk : x.kd < 1 ∨ 10 < x.kd
  · rw [if_pos hk] at hm
    cases hm
  · rw [if_neg hk] at hm
    by_cases hl : MsLong x
    · rw [if_pos hl] at hm
      cases hm
    · exact ⟨Nat.le_trans (dataL_short hl) (by decide), kind_ok (by omega) (by omega), dataL_lt hV⟩
theorem encB_lt {w : World} {B : Nat} {x : MsM} (hV : MsV w B x) : ∀ b ∈ encB x, b < 256 := by
  unfold encB
  split
  · rename_i hm
    obtain ⟨_, h2, h3⟩ := enc_facts hV hm
    exact encL_lt _ _ (fun y hy => (word_lt h2 y hy).1) h3
  · intro b hb
    cases hb
theorem encB_len {w : World} {B : Nat} {x : MsM} (hV : MsV w B x) : (encB x).length ≤ 1000000 := by
  unfold encB
  split
  · rename_i hm
    obtain ⟨h1, h2, h3⟩ := enc_facts hV hm
    rw [encL_len _ _ h2.2.1]
    omega
  · exact Nat.zero_le _
set_option maxRecDepth 100000 in
set_option maxHeartbeats 16000000 in
theorem walk (L : List DeM) (v : Value) (w : World) (hL : LaidM w) (hR : RowV deR w w.heap.size v L) (hV : ∀ x ∈ L, DeV w w.heap.size x) (hKY : KeyOk L) :
    Calls Tryd.prog 6 #[v] w fun e w' => e = .returned (.bool true) ∧ Below w.heap.size w w' := by
  obtain ⟨s0, c, rfl⟩ := hR.slice
  obtain ⟨n, hnl⟩ : ∃ n, n = L.length := ⟨_, rfl⟩
  rw [← hnl] at hR ⊢
  have HN := Lib.hid hnl
  have HLD := Lib.hid hL
  have HV := Lib.hid hV
  have HKY := Lib.hid hKY
  have HRW := Lib.hid hR
  have HROW : Hid (∀ k, k < n → ∃ x b o, L[k]? = some x ∧ s0 = some ⟨b, o, none⟩ ∧ b < w.heap.size ∧ w.rangeAt b (o + k * 4) (deL x)) := by
    show ∀ k, k < n → _
    rw [hnl]
    exact row_at (show RowV deR w w.heap.size (.slice s0 L.length c) L from by rw [← hnl]; exact hR)
  have h63 : n < 9223372036854775808 := by
    obtain ⟨_, _, e, h1, h2, _⟩ := hR
    omega
  have hlo : 3 + 1 ≤ w.heap.size := hL.size
  have HLO := Lib.hid hlo
  have HSY := Lib.hid (greets_any w hL)
  clear hR hV hL hnl hlo hKY
  go_enter Tryd.func6, Tryd.ntmps6
  go_wp2_with fail
  refine HSY.out.mono ?_
  rintro e w1 ⟨rfl, hb1⟩
  have HB1 := Lib.hid hb1
  have HFT := Lib.hid (dfits_any s0 n c L w1 ((HRW.out.keep hb1 (Nat.le_refl _)).mono hb1.size) (fun x hx => ((HV.out x hx).keep hb1 (Nat.le_refl _)).mono hb1.size) HN.out)
  clear hb1 HSY
  go_wp2_with fail
  refine HFT.out.mono ?_
  rintro e w2 ⟨fb, rfl, hfb, hb2⟩
  have HB2 := Lib.hid (below_step HB1.out HB1.out.size hb2)
  cases fb
  · clear hb2 HFT hfb
    go_wp2_with fail
    go_ret
    exact ⟨rfl, HB2.out⟩
  have hff := hfb rfl
  have hn25 := hff.1
  have HFD := Lib.hid hff.2
  have HNW : Hid (Calls Tryd.prog 11 #[.int .u64 3, .int .u32 1, .int .i64 0] w2 fun r w' => ∃ p b, r = .returned (.tuple #[.pointer (some ⟨p, 0, none⟩), .slice (some ⟨b, 0, none⟩) 1 1]) ∧ w2.heap.size ≤ p ∧ PeK w' p (pe0 3 0) (.slice none 0 0) ∧ w2.heap.size ≤ b ∧ Bk w' b 58 (msR.c (verM 3 1)).toArray ∧ Below w2.heap.size w2 w') := new_any 3 1 0 w2
  clear hb2 HFT hfb hff HB1
  go_wp2_with fail
  refine HNW.out.mono ?_
  rintro r w3 ⟨p, b, rfl, hp, hK, hb, hKb, hB⟩
  have HP : Hid (w.heap.size ≤ p) := Nat.le_trans HB2.out.size hp
  have HB3 := Lib.hid (below_step HB2.out HB2.out.size hB)
  have HK3 := Lib.hid hK
  have HI3 : Hid (FstI (pe0 3 0) 0) := ⟨rfl, rfl, pe0_sc 3 0, (fun h => by cases h), rfl⟩
  clear hp hK hb hKb hB HNW HB2
  go_wp2_with fail
  go_loopw [5, 28] (fun vv i wr => ∃ (k vk : Nat) (m : PeM) (v' : Value), k ≤ n ∧ vv = .int .i64 vk ∧ i = .int .i64 k ∧ Hid (PeK wr p m v') ∧ Hid (Mine wr w.heap.size v' m.h) ∧ Hid (FstI m vk) ∧ Hid (Below w.heap.size w wr)) (fun _ i _ => n - (intOf i).toNat)
  case atStart => exact ⟨0, 0, pe0 3 0, .slice none 0 0, Nat.zero_le _, rfl, rfl, HK3.out, .inl ⟨rfl, rfl⟩, HI3.out, HB3.out⟩
  case round =>
    clear HK3 HI3 HB3
    obtain ⟨k, vk, m, v', hk, rfl, rfl, HK, HM, HI, HB⟩ := hrel
    by_cases hlt : k < n
    · obtain ⟨x, bb, oo, hkx, hse, hbw, hrg⟩ := HROW.out k hlt
      subst hse
      have j1 : decide ((k : Int) < (n : Int)) = true := decide_eq_true (by omega)
      have hrg := rr_below hrg HB.out hbw
      have r0 : wr.cell? ⟨bb, oo + k * 4, none⟩ = some (.int .i64 x.kd) := hrg 0 _ rfl
      have r1 : wr.cell? ⟨bb, oo + k * 4 + 1, none⟩ = some (.int .i64 x.n) := hrg 1 _ rfl
      have r2 : wr.cell? ⟨bb, oo + k * 4 + 2, none⟩ = some (.slice x.ls x.list.length x.lc) := hrg 2 _ rfl
      have r3 : wr.cell? ⟨bb, oo + k * 4 + 3, none⟩ = some (.slice x.ds x.data.length x.dc) := hrg 3 _ rfl
      have hmem := List.mem_of_getElem? hkx
      have HDV := Lib.hid ((HV.out x hmem).keep HB.out (Nat.le_refl _))
      have HDF := Lib.hid (HFD.out x hmem)
      have HDK := Lib.hid (HKY.out x hmem)
      obtain ⟨nl, hnl⟩ : ∃ nl, nl = x.list.length := ⟨_, rfl⟩
      obtain ⟨nd, hnd⟩ : ∃ nd, nd = x.data.length := ⟨_, rfl⟩
      rw [← hnl] at r2
      rw [← hnd] at r3
      have hl6 : nl ≤ 6 := by rw [hnl]; exact HDF.out.1
      obtain ⟨xk, hxk⟩ : ∃ a, a = x.kd := ⟨_, rfl⟩
      obtain ⟨xn, hxn⟩ : ∃ a, a = x.n := ⟨_, rfl⟩
      obtain ⟨xls, hxls⟩ : ∃ a, a = x.ls := ⟨_, rfl⟩
      obtain ⟨xlc, hxlc⟩ : ∃ a, a = x.lc := ⟨_, rfl⟩
      obtain ⟨xds, hxds⟩ : ∃ a, a = x.ds := ⟨_, rfl⟩
      obtain ⟨xdc, hxdc⟩ : ∃ a, a = x.dc := ⟨_, rfl⟩
      rw [← hxk] at r0
      rw [← hxn] at r1
      rw [← hxls, ← hxlc] at r2
      rw [← hxds, ← hxdc] at r3
      have HML : Hid (∀ j, j < nl → ∃ y b o, x.list[j]? = some y ∧ xls = some ⟨b, o, none⟩ ∧ b < w.heap.size ∧ wr.rangeAt b (o + j * 106) (msL y.1)) := by
        show ∀ j, j < nl → _
        rw [hnl, hxls]
        exact row_at HDV.out.2.2.1
      clear hrg hkx hmem hnl hnd hxk hxn hxls hxlc hxds hxdc
      go_upto_region 10 with fail
      refine wp_any (fun W => Below wr.heap.size wr W ∧ Bk W wr.heap.size 39 #[.int .i64 xk, .int .i64 xn, .slice xls nl xlc, .slice xds nd xdc]) ⟨(Below.refl _ _).alloc (Nat.le_refl _) _, Bk.new _ _ _⟩ ?_
      clear r0 r1 r2 r3
      rintro W ⟨hb, K6⟩
      have HBW := Lib.hid (below_step HB.out HB.out.size hb)
      have HWB : Hid (Below w.heap.size wr W) := hb.mono HB.out.size
      have HKW := Lib.hid (HK.out.keep hb)
      have HMW := Lib.hid (HM.out.keep hb)
      have c2 := K6.cell 2
      have z6 := K6.lt
      generalize wr.heap.size = p6 at *
      clear hb K6
      go_wp2_with fail
      clear c2 z6
      obtain ⟨wr0, hwr0⟩ : ∃ a, a = wr := ⟨_, rfl⟩
      rw [← hwr0] at HML HDV HWB
      clear HB HK HM
      clear hwr0
      clear wr
      go_loopw [5, 35] (fun vv i wr => ∃ (j vk : Nat) (m : PeM) (v' : Value), j ≤ nl ∧ vv = .int .i64 vk ∧ i = .int .i64 j ∧ Hid (PeK wr p m v') ∧ Hid (Mine wr w.heap.size v' m.h) ∧ Hid (FstI m vk) ∧ Hid (Below w.heap.size w wr) ∧ Hid (Below w.heap.size wr0 wr)) (fun _ i _ => nl - (intOf i).toNat)
      case atStart => exact ⟨0, vk, m, v', Nat.zero_le _, rfl, rfl, HKW.out, HMW.out, HI.out, HBW.out, HWB.out⟩
      case round =>
        clear HBW HWB HKW HMW HI
        obtain ⟨j, vk, m, v', hj, rfl, rfl, HK, HM, HI, HBW, HWB⟩ := hrel
        by_cases hlt2 : j < nl
        · obtain ⟨y, b2, o2, hjy, hse2, hbw2, hrg2⟩ := HML.out j hlt2
          subst hse2
          have j2 : decide ((j : Int) < (nl : Int)) = true := decide_eq_true (by omega)
          replace hrg2 := rr_below hrg2 HWB.out hbw2
          have hbr : b2 < wr.heap.size := Nat.lt_of_lt_of_le hbw2 HBW.out.size
          have hmem2 := List.mem_of_getElem? hjy
          have HMV := Lib.hid ((HDV.out.2.2.2.1 y hmem2).keep HWB.out (Nat.le_refl _))
          have HMF := Lib.hid (fit_of (HDF.out.2.2 y hmem2) (HDK.out y hmem2))
          obtain ⟨hstc, K7, B7⟩ := row_made msR_ok y wr Tryd.zeroCells58 58 (by rw [msz]; exact msL_len hd0_is)
          change (storeCells ⟨wr.heap.size, 0, none⟩ (msL y.1)).run Tryd.prog _ = .ok () ((wr.alloc _).setCells wr.heap.size 0 (msL y.1)) at hstc
          change Bk ((wr.alloc _).setCells wr.heap.size 0 (msL y.1)) wr.heap.size 58 (msL y.1).toArray at K7
          change Below wr.heap.size wr ((wr.alloc _).setCells wr.heap.size 0 (msL y.1)) at B7
          have hpl : (msL y.1).length = 106 := msL_len y.2
          have hps : (Tryd.prog.info? 58).map (·.size) = some (msL y.1).length := by rw [hpl]; exact msi_r
          have HB6 := Lib.hid B7
          obtain ⟨PL, hPL⟩ : ∃ PL, PL = msL y.1 := ⟨_, rfl⟩
          have HPL := Lib.hid hPL
          rw [← hPL] at hrg2 hstc K7 hpl hps HB6
          have HPS := Lib.hid hps
          clear hPL hjy hmem2 B7
          go_upto_region 13 with (refine wpList_load_mid rfl 58 (.tmp 37) rfl b2 (o2 + j * 106) rfl PL _ hrg2 Tryd.underlying58 rfl hps ?_)
          refine wp_any (fun W => Below wr.heap.size wr W ∧ Bk W wr.heap.size 58 PL.toArray) ⟨HB6.out, K7⟩ ?_
          clear HB6 K7 hstc hpl hps hrg2 hbr
          rintro W6 ⟨hW6, K7⟩
          have HB6 := Lib.hid (below_step HBW.out HBW.out.size hW6)
          have HB60 : Hid (Below w.heap.size wr0 W6) := HWB.out.trans (hW6.mono HBW.out.size)
          have HK6 := Lib.hid (HK.out.keep hW6)
          have HM6 := Lib.hid (HM.out.keep hW6)
          have HMV6 : Hid (MsV W6 W6.heap.size y.1) := (HMV.out.keep (hW6.mono HBW.out.size) (Nat.le_refl _)).mono HB6.out.size
          have HK7 := Lib.hid K7
          have z7 := K7.lt
          have HRD := Lib.hid (ready_any p m v' W6 HK6.out)
          have zp := HK6.out.lt
          generalize wr.heap.size = g9 at *
          clear hW6 K7 HBW HWB HK HM HMV
          go_wp2_with fail
          refine HRD.out.mono ?_
          rintro r w7 ⟨rfl, e7⟩
          subst w7
          have hps := HPS.out
          have hrg := hd_range HK7.out
          have HEN : Hid (Calls Tryd.prog 27 #[.agg PL.toArray] W6 fun r w' => ∃ s c, r = .returned (.tuple #[.slice s (encB y.1).length c, .int .i64 ((msE y.1 : Nat) : Int)]) ∧ Below W6.heap.size W6 w' ∧ Mine w' W6.heap.size (.slice s (encB y.1).length c) (encB y.1)) := by
            show Calls _ _ _ _ _
            rw [HPL.out]
            refine (mencode_any y.1 W6 HMV6.out HMF.out (HLD.out.below HB6.out HLO.out)).mono ?_
            rintro r w' ⟨v8, rfl, hb8, hg, hbad⟩
            by_cases hm : msE y.1 = 0
            · have hM := hg hm
              have e : encB y.1 = encL (kindL y.1.kd.toNat) (dataL y.1) := by unfold encB; rw [if_pos hm]
              rw [← e] at hM
              obtain ⟨s, c, rfl⟩ := hM.slice
              exact ⟨s, c, rfl, hb8, hM⟩
            · have e : encB y.1 = [] := by unfold encB; rw [if_neg hm]
              rw [e, hbad hm]
              exact ⟨none, 0, rfl, hb8, .inl ⟨rfl, rfl⟩⟩
          clear HRD
          go_wp2_with (refine wpList_load_mid rfl 58 (.tmp 9) rfl g9 0 rfl PL _ hrg Tryd.underlying58 rfl hps ?_)
          refine HEN.out.mono ?_
          rintro r w8 ⟨s8, c8, rfl, hb8, hM8⟩
          have hst := fst_step m vk y.1 HI.out (fun hm => enc_facts HMV6.out hm)
          have hK8 := HK6.out.keep hb8
          have hM8' := HM6.out.keep hb8
          have hB8 := below_step HB6.out HB6.out.size hb8
          have hfs : FsOk ⟨m.h, m.e, []⟩ := by rw [HI.out.1, HI.out.2.1]; exact ⟨FOk.zero [], (by intro x hx; cases hx), (by intro x hx; cases hx)⟩
          have hhe := hear_any p w.heap.size m v' (encB y.1) s8 (encB y.1).length c8 w8 (HLD.out.below hB8 HLO.out) HLO.out HP.out hK8 hM8' HI.out.2.2.1 hfs hB8.size (bsn_mine hM8 (encB_lt HMV6.out) (fun j hj h => by
            rcases h with h | h
            · have := HK6.out.lt; omega
            · have := (HM6.out.slb_lo h).2.1; omega)) (encB_len HMV6.out)
          have HHE := Lib.hid hhe
          have HB8 := Lib.hid hB8
          have HB80 : Hid (Below w.heap.size wr0 w8) := HB60.out.trans (hb8.mono HB6.out.size)
          have HST := Lib.hid hst
          have HM8 := Lib.hid hM8'
          clear hrg hps hM8 hK8 hB8 hM8' hfs hhe hb8 hst HEN HB6 HB60 HPS z7
          obtain ⟨bl, hbl⟩ : ∃ bl, bl = (encB y.1).length := ⟨_, rfl⟩
          rw [← hbl] at HHE ⊢
          clear hbl
          go_wp2_with fail
          refine HHE.out.mono ?_
          rintro r w9 ⟨v9, vs9, va9, S9, A9, rfl, hK9, hM9, hS9, hA9, hkS, hkA, hbt, hsl⟩
          have HB9o : Below w.heap.size w8 w9 := hbt.below HB8.out.size (fun j hj => by
            rcases hj with h | h
            · rw [h]; exact HP.out
            · exact (HM8.out.slb_lo h).1)
          have HB9 := Lib.hid (HB8.out.trans HB9o)
          have HB90 : Hid (Below w.heap.size wr0 w9) := HB80.out.trans HB9o
          obtain ⟨H, hH⟩ : ∃ H, H = hearM m (encB y.1) := ⟨_, rfl⟩
          rw [← hH] at hK9 hM9 hkS hkA HST
          have HK9 := Lib.hid hK9
          have HM9 := Lib.hid hM9
          obtain ⟨ss, cs, hvs⟩ := hS9.slice
          obtain ⟨sa, ca, hva⟩ := hA9.slice
          subst hvs
          subst hva
          obtain ⟨ns, hns⟩ : ∃ ns, ns = S9.length := ⟨_, rfl⟩
          obtain ⟨na, hna⟩ : ∃ na, na = A9.length := ⟨_, rfl⟩
          have HRA : Hid (∀ i, i < na → ∃ z b o, A9[i]? = some z ∧ sa = some ⟨b, o, none⟩ ∧ b < w9.heap.size ∧ w9.rangeAt b (o + i * 106) (msL z.1)) := by
            show ∀ i, i < na → _
            rw [hna]
            exact row_at (hA9.rows msR_ok)
          have hna1 : na ≤ 1 := by
            have h1 := HST.out.2.2
            rw [← hkA] at h1
            unfold keysM at h1
            rw [List.length_map] at h1
            omega
          have HKA := Lib.hid hkA
          have HNA := Lib.hid hna
          have HNS : Hid (m.rd = false → ns = 0) := fun h => by
            have h1 := (HST.out.2.1 h).1
            rw [← hkS] at h1
            rw [hns, keys_nil h1]
            rfl
          obtain ⟨rd, hrd⟩ : ∃ rd, rd = m.rd := ⟨_, rfl⟩
          have HRD2 : Hid (rd = false → ∀ z ∈ A9, z.1.kd = 2) := fun h z hz => by
            have h1 := (HST.out.2.1 (by rw [← hrd]; exact h)).2
            rw [← hkA] at h1
            exact h1 _ (List.mem_map_of_mem (f := fun y : MsI => keyM y.1) hz)
          rw [← hrd] at HNS ⊢
          rw [← hns, ← hna]
          clear hK9 hM9 hS9 hA9 hkS hkA hbt hsl HB9o hH hns hna hrd HHE HB8 HB80 HM8 HK6 HM6 HMV6 HMF HK7 HPL zp
          go_wp2_with fail
          obtain ⟨vk0, hvk0⟩ : ∃ a, a = vk := ⟨_, rfl⟩
          rw [← hvk0] at HST HI
          go_loopw [5, 54] (fun vv i wr => ∃ (q vq : Nat), q ≤ na ∧ vv = .int .i64 vq ∧ i = .int .i64 q ∧ Hid (vq = vk0 + verN ((keysM A9).take q)) ∧ Hid (Below w9.heap.size w9 wr)) (fun _ i _ => na - (intOf i).toNat)
          case atStart => exact ⟨0, vk, Nat.zero_le _, rfl, rfl, (by show vk = vk0 + 0; omega), Below.refl _ _⟩
          case round =>
            obtain ⟨q, vq, hq, rfl, rfl, HVQ, HBQ⟩ := hrel
            by_cases hlt3 : q < na
            · obtain ⟨z, b3, o3, hqz, hse3, hbw3, hrg3⟩ := HRA.out q hlt3
              subst hse3
              have j3 : decide ((q : Int) < (na : Int)) = true := decide_eq_true (by omega)
              replace hrg3 := rr_below hrg3 HBQ.out hbw3
              have hbr : b3 < wr.heap.size := Nat.lt_of_lt_of_le hbw3 HBQ.out.size
              obtain ⟨hstc, K7, B7⟩ := row_made msR_ok z wr Tryd.zeroCells58 58 (by rw [msz]; exact msL_len hd0_is)
              change (storeCells ⟨wr.heap.size, 0, none⟩ (msL z.1)).run Tryd.prog _ = .ok () ((wr.alloc _).setCells wr.heap.size 0 (msL z.1)) at hstc
              change Bk ((wr.alloc _).setCells wr.heap.size 0 (msL z.1)) wr.heap.size 58 (msL z.1).toArray at K7
              change Below wr.heap.size wr ((wr.alloc _).setCells wr.heap.size 0 (msL z.1)) at B7
              have hpl : (msL z.1).length = 106 := msL_len z.2
              have hps : (Tryd.prog.info? 58).map (·.size) = some (msL z.1).length := by rw [hpl]; exact msi_r
              have HB6 := Lib.hid (below_step HBQ.out HBQ.out.size B7)
              have a0 : (msL z.1).toArray[0]? = some (.int .i64 z.1.kd) := rfl
              obtain ⟨zk, hzk⟩ : ∃ zk, zk = z.1.kd := ⟨_, rfl⟩
              rw [← hzk] at a0
              have HVN : Hid (verN ((keysM A9).take (q + 1)) = verN ((keysM A9).take q) + (if zk = 2 then 1 else 0)) := by
                show _ = _
                rw [hzk]
                exact verN_take (keysM A9) q (keyM z.1) (by unfold keysM; rw [List.getElem?_map, hqz]; rfl)
              have HZ2 : Hid (rd = false → zk = 2) := fun h => by rw [hzk]; exact HRD2.out h z (List.mem_of_getElem? hqz)
              obtain ⟨PL, hPL⟩ : ∃ PL, PL = msL z.1 := ⟨_, rfl⟩
              rw [← hPL] at hrg3 hstc K7 hpl hps HB6 a0
              have HA0 := Lib.hid a0
              clear hPL hqz B7 a0 hzk
              go_upto_region 19 with (refine wpList_load_mid rfl 58 (.tmp 56) rfl b3 (o3 + q * 106) rfl PL _ hrg3 Tryd.underlying58 rfl hps ?_)
              refine wp_any (fun W => Below w9.heap.size w9 W ∧ Bk W wr.heap.size 58 PL.toArray) ⟨HB6.out, K7⟩ ?_
              clear HB6 K7 hstc hpl hps hrg3 hbr HBQ
              generalize wr.heap.size = g16 at *
              rintro W6 ⟨hW6, K7⟩
              have HBQ := Lib.hid hW6
              have c0 := (K7.cell 0).trans HA0.out
              have z7 := K7.lt
              clear hW6 K7
              by_cases hz2 : zk = 2
              · subst hz2
                have HV2 : Hid (vq + 1 = vk0 + verN ((keysM A9).take (q + 1))) := by
                  have h1 := HVQ.out
                  have h2 := HVN.out
                  rw [if_pos rfl] at h2
                  show _ = _
                  omega
                have hvb : vq ≤ 100 := by
                  have h1 := HVQ.out
                  have h2 := HI.out.2.2.2.2
                  have h3 : verN ((keysM A9).take q) ≤ ((keysM A9).take q).length := List.length_filter_le _ _
                  rw [List.length_take] at h3
                  split at h2 <;> omega
                clear HVQ HVN HZ2
                go_wp2_with fail
                go_roundw
                case rel => exact ⟨q + 1, vq + 1, by omega, by go_num, by go_num, HV2, HBQ⟩
                case measure => simp [intOf]; omega
              · have q2 : (zk == 2) = false := by rw [beq_eq_false_iff_ne]; exact hz2
                have HV2 : Hid (vq = vk0 + verN ((keysM A9).take (q + 1))) := by
                  have h1 := HVQ.out
                  have h2 := HVN.out
                  rw [if_neg hz2] at h2
                  show _ = _
                  omega
                have hrt : rd = true := by
                  cases rd
                  · exact absurd (HZ2.out rfl) hz2
                  · rfl
                subst hrt
                clear HVQ HVN HZ2
                go_wp2_with fail
                go_roundw
                case rel => exact ⟨q + 1, vq, by omega, rfl, by go_num, HV2, HBQ⟩
                case measure => simp [intOf]; omega
            · have j3 : decide ((q : Int) < (na : Int)) = false := decide_eq_false (by omega)
              have hvq : FstI H.1 vq := by
                have h1 := HVQ.out
                rw [List.take_of_length_le (by unfold keysM; rw [List.length_map, ← HNA.out]; omega), HKA.out] at h1
                rw [h1]
                exact HST.out.1
              have HFI := Lib.hid hvq
              have hv1 : vq ≤ 1 := by
                have h2 := hvq.2.2.2.2
                split at h2 <;> omega
              have HRE := Lib.hid (ready_any p H.1 v9 wr (HK9.out.keep HBQ.out))
              have HKQ := Lib.hid (HK9.out.keep HBQ.out)
              have HMQ := Lib.hid (HM9.out.keep HBQ.out)
              have HBA := Lib.hid (below_step HB9.out HB9.out.size HBQ.out)
              have HBB : Hid (Below w.heap.size wr0 wr) := HB90.out.trans (HBQ.out.mono HB9.out.size)
              have hr0 : H.1.rd = true → vq = 1 := fun h => by
                have h2 := hvq.2.2.2.2
                rw [if_pos (hvq.2.2.2.1 h)] at h2
                exact h2
              obtain ⟨rr, hrr⟩ : ∃ rr, rr = H.1.rd := ⟨_, rfl⟩
              rw [← hrr] at HRE hr0
              have d1 : decide ((1 : Int) < (vq : Int)) = false := decide_eq_false (by omega)
              have HR0 := Lib.hid hr0
              clear hvq HVQ hrr hr0
              cases rd
              · have hns := HNS.out rfl
                subst hns
                go_wp2_with fail
                refine HRE.out.mono ?_
                rintro r w7 ⟨rfl, e7⟩
                subst w7
                cases rr
                · go_wp2_with fail
                  go_roundw
                  case rel => exact ⟨j + 1, vq, H.1, v9, by omega, rfl, by go_num, HKQ, HMQ, HFI, HBA, HBB⟩
                  case measure => simp [intOf]; omega
                · have h1 := HR0.out rfl
                  subst h1
                  go_wp2_with fail
                  go_roundw
                  case rel => exact ⟨j + 1, 1, H.1, v9, by omega, rfl, by go_num, HKQ, HMQ, HFI, HBA, HBB⟩
                  case measure => simp [intOf]; omega
              · go_wp2_with fail
                refine HRE.out.mono ?_
                rintro r w7 ⟨rfl, e7⟩
                subst w7
                cases rr
                · go_wp2_with fail
                  go_roundw
                  case rel => exact ⟨j + 1, vq, H.1, v9, by omega, rfl, by go_num, HKQ, HMQ, HFI, HBA, HBB⟩
                  case measure => simp [intOf]; omega
                · have h1 := HR0.out rfl
                  subst h1
                  go_wp2_with fail
                  go_roundw
                  case rel => exact ⟨j + 1, 1, H.1, v9, by omega, rfl, by go_num, HKQ, HMQ, HFI, HBA, HBB⟩
                  case measure => simp [intOf]; omega
        · have j2 : decide ((j : Int) < (nl : Int)) = false := decide_eq_false (by omega)
          go_wp2_with fail
          go_roundw
          case rel => exact ⟨k + 1, vk, m, v', by omega, rfl, by go_num, HK, HM, HI, HBW⟩
          case measure => simp [intOf]; omega
    · have j1 : decide ((k : Int) < (n : Int)) = false := decide_eq_false (by omega)
      go_wp2_with fail
      go_ret
      exact ⟨rfl, HB.out⟩
end Go.Proofs.YtjnbdajdllpchaaDoor.peerFirst
