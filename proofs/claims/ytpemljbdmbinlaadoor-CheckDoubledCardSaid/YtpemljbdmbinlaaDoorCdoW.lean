/-
  What is proved: CheckDoubled holds for every input; the two listed tables of package hash are taken to hold what the program's text lays in them, and the card ties them to it.
-/
import Derived.Test.YtpemljbdmbinlaaDoorCdoR
import Derived.Test.YtpemljbdmbinlaaDoorTie
import Derived.Test.YtpemljbdmbinlaaDoorCards
import Derived.Stop.Joined
namespace Go.Proofs.YtpemljbdmbinlaaDoor.checkDoubled
open Go.ChangeShapes Go.WideShapes Go.ChangeAt Go.RowKit
set_option linter.unusedVariables false

theorem own : ownKnob Tryd.prog.godebug = none := by kernel_rfl
theorem laidOut : laidOutB Tryd.prog = true := by kernel_rfl
theorem wf_i64 {z : Int} (h : (Lit.int .i64 z).wf = true) : -9223372036854775808 ≤ z ∧ z ≤ 9223372036854775807 := by
  simp [Lit.wf, IntKind.min, IntKind.max, IntKind.signed, IntKind.bits] at h
  omega
set_option maxRecDepth 100000 in
set_option maxHeartbeats 8000000 in
theorem walk (L : List TxM) (sl : Option Addr) (lc : Nat) (w : World) (hLd : Laid w) (hL : RowV txR w w.heap.size (.slice sl L.length lc) L) (hV : ∀ t ∈ L, TxV w w.heap.size t) :
    Calls Tryd.prog 7 #[.slice sl L.length lc] w fun e w' => e = .returned (.bool true) ∧ Below w.heap.size w w' := by
  obtain ⟨n, hn⟩ : ∃ n, n = L.length := ⟨_, rfl⟩
  have HRL := Lib.hid hL
  have HV := Lib.hid hV
  have HLD := Lib.hid hLd
  have HN := Lib.hid hn
  have h63 : n < 9223372036854775808 := by
    obtain ⟨_, _, e, h1, h2, _⟩ := hL
    omega
  have hrow := row_at hL
  rw [← hn] at hrow ⊢
  have HL := Lib.hid hrow
  clear hLd hL hV hn hrow
  go_enter Tryd.func7, Tryd.ntmps7
  go_wp2_with fail
  refine (asks_any w HLD.out).mono ?_
  rintro e w1 ⟨rfl, hb1⟩
  have HB1 := Lib.hid hb1
  clear hb1
  by_cases h8 : 8 < n
  · have d8 : decide ((8 : Int) < (n : Int)) = true := decide_eq_true (by omega)
    go_wp2_with fail
    go_ret
    exact ⟨rfl, HB1.out⟩
  have d8 : decide ((8 : Int) < (n : Int)) = false := decide_eq_false (by omega)
  go_wp2_with fail
  go_loopw [15] (fun i wr => ∃ (k : Nat), k ≤ n ∧ i = .int .i64 k ∧ Hid (∀ t ∈ L.take k, TxFit t) ∧ Hid (Below w.heap.size w wr)) (fun i _ => n - (intOf i).toNat)
  case atStart => exact ⟨0, Nat.zero_le _, rfl, (fun t ht => by cases ht), HB1.out⟩
  case round =>
    clear HB1
    obtain ⟨k, hk, rfl, HF, HB⟩ := hrel
    by_cases hlt : k < n
    · obtain ⟨t, bb, oo, hkt, hse, hbw, hrg⟩ := HL.out k hlt
      subst hse
      have j1 : decide ((k : Int) < (n : Int)) = true := decide_eq_true (by omega)
      have hrg := rr_below hrg HB.out hbw
      have r0 := hrg 0 _ rfl
      have r1 := hrg 1 _ rfl
      change wr.cell? ⟨bb, oo + k * 2 + 0, none⟩ = some t.iv at r0
      change wr.cell? ⟨bb, oo + k * 2 + 1, none⟩ = some t.ov at r1
      rw [Nat.add_zero] at r0
      have hmem := List.mem_of_getElem? hkt
      have HX := Lib.hid hkt
      have HTV := Lib.hid (HV.out t hmem)
      obtain ⟨sa, na, ca, ea⟩ : ∃ s n c, t.iv = .slice s n c := ⟨_, _, _, rfl⟩
      obtain ⟨sb, nb, cb, eb⟩ : ∃ s n c, t.ov = .slice s n c := ⟨_, _, _, rfl⟩
      rw [ea] at r0
      rw [eb] at r1
      have HEA := Lib.hid ea
      have HEB := Lib.hid eb
      clear hrg hkt hmem ea eb
      go_upto_region 8 with fail
      refine wp_any (fun W => Below wr.heap.size wr W ∧ Bk W wr.heap.size 32 #[.slice sa na ca, .slice sb nb cb]) ⟨(Below.refl _ _).alloc (Nat.le_refl _) _, Bk.new _ _ _⟩ ?_
      clear r0 r1
      rintro W ⟨hb, K6⟩
      have HB7 := Lib.hid (below_step HB.out HB.out.size hb)
      have c0 := K6.cell 0
      have c1 := K6.cell 1
      have z6 := K6.lt
      generalize wr.heap.size = p6 at *
      have hft := fits_any t W ((HTV.out.keep HB7.out (Nat.le_refl _)).mono HB7.out.size)
      change Calls _ _ #[.agg #[t.iv, t.ov]] _ _ at hft
      rw [HEA.out, HEB.out] at hft
      have HFI := Lib.hid (fitB_iff t)
      generalize fitB t = fb at *
      clear hb K6 HB
      by_cases ha : 3 < na
      · have da : decide ((3 : Int) < (na : Int)) = true := decide_eq_true (by omega)
        clear hft
        go_wp2_with fail
        go_ret
        exact ⟨rfl, HB7.out⟩
      have da : decide ((3 : Int) < (na : Int)) = false := decide_eq_false (by omega)
      by_cases hb : 3 < nb
      · have db : decide ((3 : Int) < (nb : Int)) = true := decide_eq_true (by omega)
        clear hft
        go_wp2_with fail
        go_ret
        exact ⟨rfl, HB7.out⟩
      have db : decide ((3 : Int) < (nb : Int)) = false := decide_eq_false (by omega)
      cases fb
      · go_wp2_with fail
        refine hft.mono ?_
        rintro e w8 ⟨rfl, hb8⟩
        have HB8 := Lib.hid (below_step HB7.out HB7.out.size hb8)
        clear hb8 hft
        go_wp2_with fail
        go_ret
        exact ⟨rfl, HB8.out⟩
      · have HFT : Hid (TxFit t) := HFI.out.1 rfl
        go_wp2_with fail
        refine hft.mono ?_
        rintro e w8 ⟨rfl, hb8⟩
        have HB8 := Lib.hid (below_step HB7.out HB7.out.size hb8)
        clear hb8 hft c0 c1 z6 da db ha hb
        go_wp2_with fail
        go_roundw
        case rel =>
          refine ⟨k + 1, by omega, by simp, (show ∀ t ∈ L.take (k + 1), _ from fun x hx => ?_), HB8.out⟩
          rw [List.take_add_one, HX.out] at hx
          rcases List.mem_append.1 hx with h | h
          · exact HF.out x h
          · have : x = t := by simpa using h
            rw [this]
            exact HFT.out
        case measure => simp [intOf]; omega
    · have j1 : decide ((k : Int) < (n : Int)) = false := decide_eq_false (by omega)
      have HFA : Hid (∀ t ∈ L, TxFit t) := by
        have h := HF.out
        rw [List.take_of_length_le (by have := HN.out; omega)] at h
        exact h
      have HN8 : Hid (n ≤ 8) := (by show n ≤ 8; omega)
      have hfi := first_any' 1 wr (by unfold OutOk out1; decide)
      clear HF hk h63 h8
      go_wp2_with fail
      refine hfi.mono ?_
      rintro e w2 ⟨s1, c1, s2, c2, t, rfl, hFV⟩
      have HFV := Lib.hid hFV
      have HB2 := Lib.hid (below_step HB.out HB.out.size hFV.B)
      clear hFV hfi j1 d8 hlt
      obtain ⟨lo, hlo⟩ : ∃ lo, lo = w2.heap.size := ⟨_, rfl⟩
      have HLO := Lib.hid hlo
      have Bs : Below w2.heap.size w2 (w2.alloc (.cells #[.slice s1 1 c1, .slice s2 1 c2] 32)) := (Below.refl _ _).alloc (Nat.le_refl _) _
      have Ks : Bk (w2.alloc (.cells #[.slice s1 1 c1, .slice s2 1 c2] 32)) lo 32 (txR.flat ([t] ++ List.replicate 0 txR.z)).toArray := by
        have e : (txR.flat ([t] ++ List.replicate 0 txR.z)).toArray = #[.slice s1 1 c1, .slice s2 1 c2] := by
          rw [← HFV.out.iv, ← HFV.out.ov]
          rfl
        rw [e, hlo]
        exact Bk.new _ _ _
      have Ms : MineR txR (w2.alloc (.cells #[.slice s1 1 c1, .slice s2 1 c2] 32)) lo (.slice (some ⟨lo, 0, none⟩) 1 1) [t] := .inr ⟨lo, 1, 0, rfl, rfl, by decide, Nat.le_refl _, Ks⟩
      have hw12 : Below w.heap.size w (w2.alloc (.cells #[.slice s1 1 c1, .slice s2 1 c2] 32)) := below_step HB2.out HB2.out.size Bs
      obtain ⟨v', W2, hrun, hM, hBl, hBut⟩ := appR txR_ok [t] L _ (.slice sl n lc) lo _ Ms (by rw [hlo]; exact Bs.size) (by rw [HN.out]; exact (HRL.out.keep hw12 (Nat.le_refl _)).mono hw12.size) (by have := HN8.out; have := HN.out; simp; omega)
      rw [hlo] at hrun
      have HB3 := Lib.hid (below_step HB2.out HB2.out.size ((show Below w2.heap.size w2 _ from Bs).trans (show Below w2.heap.size _ W2 from by rw [← hlo]; exact hBl)))
      have HBlo := Lib.hid (show Below lo w2 W2 from by rw [hlo] at hBl ⊢; exact Bs.trans hBl)
      obtain ⟨M, hMM⟩ : ∃ M, M = [t] ++ L := ⟨_, rfl⟩
      rw [← hMM] at hM
      obtain ⟨m, hm⟩ : ∃ m, m = M.length := ⟨_, rfl⟩
      have hmn : m = n + 1 := by rw [hm, hMM, HN.out, List.length_append, List.length_cons, List.length_nil]; omega
      have HM := Lib.hid hm
      have HMN := Lib.hid hmn
      have HMM := Lib.hid hMM
      have hne : M ≠ [] := by rw [hMM]; simp
      rcases hM with ⟨_, h0⟩ | ⟨T, cap, z, hv', hcz, hcm, hTlo, KT⟩
      · exact absurd h0 hne
      rw [← hm] at hv' hcz
      subst hv'
      have HKT := Lib.hid KT
      have HCZ := Lib.hid (show cap = m + z ∧ cap < 9223372036854775808 ∧ lo ≤ T from ⟨hcz, hcm, hTlo⟩)
      have hlo2 := hlo
      clear hne hcz hcm hTlo KT Ks Ms hw12 hBl hBut hMM hm hmn hlo Bs
      obtain ⟨ZC, hZC⟩ : ∃ Z, Z = Tryd.zeroCells49 := ⟨_, rfl⟩
      obtain ⟨BL, hBL⟩ : ∃ l, l = hdL hd0 ++ [Value.slice (some ⟨T, 0, none⟩) m cap] := ⟨_, rfl⟩
      have hset : ZC.toList.set 68 (.slice (some ⟨T, 0, none⟩) m cap) = BL := by rw [hZC, hBL]; exact zblk_set _ _ _
      have hlen : BL.length = 69 := by rw [hBL, List.length_append, hdL_length hd0_is]; rfl
      have hzs : ZC.size = BL.length := by rw [hZC, zblk_size, hlen]
      have hone : ∀ v ∈ BL, v.oneCell' = true := by
        intro v hv
        rw [hBL] at hv
        rcases List.mem_append.1 hv with h | h
        · exact hdL_one _ v h
        · rw [List.mem_singleton.1 h]; rfl
      obtain ⟨hst, KB, BB⟩ := row_put W2 49 ZC BL hzs hone
      obtain ⟨W3, hW3⟩ : ∃ W3, W3 = (W2.alloc (.cells ZC 49)).setCells W2.heap.size 0 BL := ⟨_, rfl⟩
      rw [← hW3] at hst KB BB
      have hst2 : (storeCells ⟨W2.heap.size, 0, none⟩ (Tryd.zeroCells49.toList.set 68 (.slice (some ⟨T, 0, none⟩) m cap))).run Tryd.prog (W2.alloc (.cells Tryd.zeroCells49 49)) = .ok () W3 := by
        rw [← hZC, hset]
        exact hst
      have hA0 : BL.toArray = (blkL ⟨hd0, some ⟨T, 0, none⟩, cap, M⟩).toArray := by
        rw [hBL]
        unfold blkL BlkM.lv
        rw [← HM.out]
      rw [hA0] at KB
      obtain ⟨A0, hA0'⟩ : ∃ A, A = (blkL ⟨hd0, some ⟨T, 0, none⟩, cap, M⟩).toArray := ⟨_, rfl⟩
      rw [← hA0'] at KB
      have HA0 := Lib.hid hA0'
      have HT2 : Hid (T < W2.heap.size) := HKT.out.lt
      have HK3 := Lib.hid (HKT.out.keep BB)
      have HKB := Lib.hid KB
      have HB4 := Lib.hid (below_step HB3.out HB3.out.size BB)
      have HBlo4 := Lib.hid (HBlo.out.trans (BB.mono (by rw [HLO.out]; exact HBlo.out.size)))
      have HB2s : Hid (w.heap.size ≤ w2.heap.size) := HB2.out.size
      have HB3s : Hid (w.heap.size ≤ W2.heap.size) := HB3.out.size
      have HLPs : Hid (w2.heap.size ≤ W2.heap.size) := HBlo.out.size
      clear hst KB BB hW3 hset hlen hzs hone hBL hZC hA0 hA0' HKT HB3 HBlo HB2
      subst hlo2
      go_upto_region 12 with (at_builtin; refine wpList_appR (v1 := .slice (some ⟨w2.heap.size, 0, none⟩) 1 1) (v2 := .slice sl n lc) 47 rfl (.tmp 36) (.tmp 37) rfl rfl rfl rfl hrun ?_)
      clear hst2 hrun
      have HTX : Hid (∀ W, Below w.heap.size w W → Below w2.heap.size w2 W → ∀ x ∈ M, TxV W W.heap.size x) := by
        show ∀ _, _
        intro W h1 h2 x hx
        rw [HMM.out] at hx
        rcases List.mem_append.1 hx with h | h
        · rw [List.mem_singleton.1 h]
          exact (HFV.out.V.keep h2 (Nat.le_refl _)).mono h2.size
        · exact ((HV.out x h).keep h1 (Nat.le_refl _)).mono h1.size
      have HTF : Hid (∀ x ∈ M, TxFit x) := by
        show ∀ _, _
        intro x hx
        rw [HMM.out] at hx
        rcases List.mem_append.1 hx with h | h
        · rw [List.mem_singleton.1 h]
          exact HFV.out.fit
        · exact HFA.out x h
      have HRM : Hid (∀ W, Bk W T txR.e (txR.flat (M ++ List.replicate z txR.z)).toArray → MineR txR W w2.heap.size (.slice (some ⟨T, 0, none⟩) m cap) M) := by
        show ∀ _, _
        intro W K
        refine .inr ⟨T, cap, z, by rw [← HM.out], by rw [← HM.out]; exact HCZ.out.1, HCZ.out.2.1, HCZ.out.2.2, K⟩
      have hwp : w.heap.size ≤ W2.heap.size := HB3s.out
      have hwlo : w.heap.size ≤ w2.heap.size := HB2s.out
      have hlp : w2.heap.size ≤ W2.heap.size := HLPs.out
      refine wp_any (fun W => Below w.heap.size w W ∧ Below w2.heap.size w2 W ∧ Bk W T txR.e (txR.flat (M ++ List.replicate z txR.z)).toArray ∧ Bk W W2.heap.size 49 A0) ⟨HB4.out, HBlo4.out, HK3.out, HKB.out⟩ ?_
      clear HB4 HBlo4 HK3 HKB HV HFA HRL HL HB HB3s HLPs HLO HN
      generalize W2.heap.size = p5 at *
      obtain ⟨lo, hlo⟩ : ∃ lo, lo = w2.heap.size := ⟨_, rfl⟩
      rw [← hlo] at hlp hwlo HRM HTX ⊢
      have HWLO := Lib.hid hwlo
      have HWP := Lib.hid hwp
      have HLP := Lib.hid hlp
      clear hwp hlp hwlo HB2s hlo HFV HMM
      rintro W ⟨hB, hBo, hK3, hKB⟩
      have HB := Lib.hid hB
      have HBo := Lib.hid hBo
      have HK3 := Lib.hid hK3
      have HKB := Lib.hid hKB
      clear hB hBo hK3 hKB
      have h68 := blk_68 (b := ⟨hd0, some ⟨T, 0, none⟩, cap, M⟩) hd0_is
      rw [← HA0.out] at h68
      have c68 : W.cell? ⟨p5, 68, none⟩ = some (.slice (some ⟨T, 0, none⟩) m cap) := by
        rw [HKB.out.cell 68, h68, HM.out]
        rfl
      have z5 := HKB.out.lt
      have hA69 : A0.size = 69 := by rw [HA0.out, List.size_toArray]; exact blkL_len hd0_is
      have HM9 : Hid (m ≤ 9) := (by show m ≤ 9; have := HMN.out; have := HN8.out; omega)
      have hroot := troot_any (some ⟨T, 0, none⟩) m cap M W ((HRM.out W HK3.out).rows txR_ok) HM.out (fun x hx => ⟨HTX.out W HB.out HBo.out x hx, HTF.out x hx⟩) (HLD.out.keep HB.out) (by have := HM9.out; omega)
      obtain ⟨R, hR⟩ : ∃ R, R = (rootV (M.map tID)).1 := ⟨_, rfl⟩
      obtain ⟨tw, htw⟩ : ∃ tw, tw = (rootV (M.map tID)).2 := ⟨_, rfl⟩
      have hRid : IsId R := by rw [hR]; exact (rootV_id (M.map tID) (tIDs_is M))
      rw [← hR, ← htw] at hroot
      change Calls _ _ _ _ (fun e w' => e = .returned (.tuple #[.agg (idA R), .bool tw]) ∧ _) at hroot
      obtain ⟨RA, hRA⟩ : ∃ RA, RA = idA R := ⟨_, rfl⟩
      rw [← hRA] at hroot
      have HR := Lib.hid hR
      have HRI := Lib.hid hRid
      have HRA := Lib.hid hRA
      clear hR htw hRid hRA h68
      go_wp2_with fail
      refine hroot.mono ?_
      rintro e w5 ⟨rfl, hb5⟩
      have HB5 := Lib.hid (below_step HB.out HB.out.size hb5)
      have HBo5 := Lib.hid (HBo.out.trans (hb5.mono (Nat.le_trans HLP.out (Nat.le_of_lt z5))))
      have HK35 := Lib.hid (HK3.out.keep hb5)
      have HKB5 := Lib.hid (HKB.out.keep hb5)
      have z2 := HKB5.out.lt
      have hra32 : RA.size = 32 := by rw [HRA.out, idA_size, HRI.out.1]
      have hth : w5.there p5 33 RA.size := there_at HKB5.out 33 _ (by rw [hra32, hA69]; decide)
      have hin : (Tryd.prog.info? 26).map (·.size) = some RA.size := by rw [hra32]; kernel_rfl
      have ho1 : RA.all (·.oneCell') = true := by rw [HRA.out]; exact id_ones _
      clear hb5 hroot c68 z5 HB HBo HK3 HKB
      go_upto_region 13 with (refine wpList_store_mid rfl 26 (.tmp 47) (.tmp 44) rfl p5 33 RA rfl rfl hth hin ho1 ?_)
      obtain ⟨A1, hA1⟩ : ∃ A, A = (blkL ⟨withR hd0 R, some ⟨T, 0, none⟩, cap, M⟩).toArray := ⟨_, rfl⟩
      have HA1 := Lib.hid hA1
      have K2n : Bk (w5.setCells p5 33 RA.toList) p5 49 A1 := by
        rw [hA1, show RA.toList = R.map byteV from by rw [HRA.out, idA_toList']]
        have hk := HKB5.out
        rw [HA0.out] at hk
        exact set_root hd0_is HRI.out hk
      refine wp_any (fun W => Below w.heap.size w W ∧ Below lo w2 W ∧ Bk W T txR.e (txR.flat (M ++ List.replicate z txR.z)).toArray ∧ Bk W p5 49 A1) ⟨Below.setCells HWP.out _ _ _ HB5.out, Below.setCells HLP.out _ _ _ HBo5.out, rowFar HK35.out (Nat.ne_of_lt HT2.out) _ _, K2n⟩ ?_
      clear hth hin ho1 z2 K2n HB5 HBo5 HK35 HKB5 hA1 HA0 hA69
      rintro W ⟨hB, hBo, hK3, hKB⟩
      have HB := Lib.hid hB
      have HBo := Lib.hid hBo
      have HK3 := Lib.hid hK3
      have HKB := Lib.hid hKB
      clear hB hBo hK3 hKB
      have h68 := blk_68 (b := ⟨withR hd0 R, some ⟨T, 0, none⟩, cap, M⟩) (withR_is hd0_is HRI.out)
      rw [← HA1.out] at h68
      have c68 : W.cell? ⟨p5, 68, none⟩ = some (.slice (some ⟨T, 0, none⟩) m cap) := by
        rw [HKB.out.cell 68, h68, HM.out]
        rfl
      have z5 := HKB.out.lt
      clear h68
      by_cases he : m % 2 = 0
      · have q2 : ((m : Int) % 2 == 0) = true := by rw [beq_iff_eq]; omega
        go_wp2_with fail
        go_ret
        exact ⟨rfl, HB.out⟩
      have q2 : ((m : Int) % 2 == 0) = false := by rw [beq_eq_false_iff_ne]; omega
      have q3 : ¬ ((m : Int) % 2 = 0) := by omega
      by_cases h1 : m = 1
      · have q1 : ((m : Int) == 1) = true := by rw [beq_iff_eq]; omega
        go_wp2_with fail
        go_ret
        exact ⟨rfl, HB.out⟩
      have q1 : ((m : Int) == 1) = false := by rw [beq_eq_false_iff_ne]; omega
      have hxe : M[n]? = some (M[n]'(by have := HM.out; have := HMN.out; omega)) := List.getElem?_eq_getElem _
      generalize M[n]'(by have := HM.out; have := HMN.out; omega) = x at hxe
      have HXM := Lib.hid hxe
      have hkb := HKB.out
      rw [HA1.out] at hkb
      have hodd : M.length % 2 = 1 ∧ 1 < M.length := by have := HM.out; have := HMN.out; omega
      have HODD := Lib.hid hodd
      clear hxe hodd
      go_upto_region 15 with fail
      refine cdo_region W T cap m n p5 lo M x (withR hd0 R) (withR_is hd0_is HRI.out) HM.out HMN.out HN8.out HXM.out (HRM.out W HK3.out) hkb HLP.out (fun x59 x60 x61 x62 x63 x64 x65 x66 x67 x68 x69 x70 x71 s8 e8 W9 h70 hM9 hB9 hK9 => ?_)
      subst h70
      have HB9 := Lib.hid (HB.out.trans (hB9.mono HWLO.out))
      have HBo9 := Lib.hid (HBo.out.trans hB9)
      have HM9r := Lib.hid hM9
      clear hB9 hM9 q1 q2 q3 he h1 hkb c68 z5 HB HBo HK3 HKB HA1
      obtain ⟨A2, hA2⟩ : ∃ A, A = (blkL ⟨withR hd0 R, s8, e8, M ++ [x]⟩).toArray := ⟨_, rfl⟩
      have HA2 := Lib.hid hA2
      rw [← hA2] at hK9
      have HK9 := Lib.hid hK9
      have hlen : m + 1 = (M ++ [x]).length := by rw [List.length_append, ← HM.out]; rfl
      have HLEN := Lib.hid hlen
      have HMX : Hid (∀ y ∈ M ++ [x], y ∈ M) := by
        show ∀ _, _
        intro y hy
        rcases List.mem_append.1 hy with h | h
        · exact h
        · rw [List.mem_singleton.1 h]
          exact List.mem_of_getElem? HXM.out
      have h68 := blk_68 (b := ⟨withR hd0 R, s8, e8, M ++ [x]⟩) (withR_is hd0_is HRI.out)
      rw [← hA2] at h68
      have c68 : W9.cell? ⟨p5, 68, none⟩ = some (.slice s8 (m + 1) e8) := by
        rw [HK9.out.cell 68, h68, HLEN.out]
        rfl
      have hA69 : A2.size = 69 := by rw [hA2, List.size_toArray]; exact blkL_len (withR_is hd0_is HRI.out)
      have HA69 := Lib.hid hA69
      have z5 := HK9.out.lt
      have hrv := HM9r.out.rows txR_ok
      have hroot := troot_any s8 (m + 1) e8 (M ++ [x]) W9 hrv HLEN.out (fun y hy => ⟨HTX.out W9 HB9.out HBo9.out y (HMX.out y hy), HTF.out y (HMX.out y hy)⟩) (HLD.out.keep HB9.out) (by have := HM9.out; omega)
      have htwin : rootV ((M ++ [x]).map tID) = (R, true) := by
        rw [HR.out]
        exact twin_ids M x HODD.out.2 HODD.out.1 (by rw [← HM.out, HMN.out]; exact HXM.out)
      have HTWIN := Lib.hid htwin
      rw [htwin] at hroot
      change Calls _ _ _ _ (fun e w' => e = .returned (.tuple #[.agg (idA R), .bool true]) ∧ _) at hroot
      rw [← HRA.out] at hroot
      obtain ⟨m1, hm1⟩ : ∃ m1, m1 = m + 1 := ⟨_, rfl⟩
      rw [← hm1] at hroot c68 ⊢
      have HM1 := Lib.hid hm1
      clear hA2 hK9 hlen h68 hA69 hrv htwin hm1
      go_wp2_with fail
      refine hroot.mono ?_
      rintro e w10 ⟨rfl, hb10⟩
      have HB10 := Lib.hid (below_step HB9.out HB9.out.size hb10)
      have HBo10 := Lib.hid (HBo9.out.trans (hb10.mono (Nat.le_trans HLP.out (Nat.le_of_lt z5))))
      have HK10 := Lib.hid (HK9.out.keep hb10)
      have HM10 := Lib.hid (HM9r.out.keep hb10)
      have K7 : Bk (w10.alloc (.cells #[.int .u8 0, .int .u8 0, .int .u8 0, .int .u8 0, .int .u8 0, .int .u8 0, .int .u8 0, .int .u8 0, .int .u8 0, .int .u8 0, .int .u8 0, .int .u8 0, .int .u8 0, .int .u8 0, .int .u8 0, .int .u8 0, .int .u8 0, .int .u8 0, .int .u8 0, .int .u8 0, .int .u8 0, .int .u8 0, .int .u8 0, .int .u8 0, .int .u8 0, .int .u8 0, .int .u8 0, .int .u8 0, .int .u8 0, .int .u8 0, .int .u8 0, .int .u8 0] 26)) w10.heap.size 26 #[.int .u8 0, .int .u8 0, .int .u8 0, .int .u8 0, .int .u8 0, .int .u8 0, .int .u8 0, .int .u8 0, .int .u8 0, .int .u8 0, .int .u8 0, .int .u8 0, .int .u8 0, .int .u8 0, .int .u8 0, .int .u8 0, .int .u8 0, .int .u8 0, .int .u8 0, .int .u8 0, .int .u8 0, .int .u8 0, .int .u8 0, .int .u8 0, .int .u8 0, .int .u8 0, .int .u8 0, .int .u8 0, .int .u8 0, .int .u8 0, .int .u8 0, .int .u8 0] := Bk.new _ _ _
      have hth : (w10.alloc (.cells #[.int .u8 0, .int .u8 0, .int .u8 0, .int .u8 0, .int .u8 0, .int .u8 0, .int .u8 0, .int .u8 0, .int .u8 0, .int .u8 0, .int .u8 0, .int .u8 0, .int .u8 0, .int .u8 0, .int .u8 0, .int .u8 0, .int .u8 0, .int .u8 0, .int .u8 0, .int .u8 0, .int .u8 0, .int .u8 0, .int .u8 0, .int .u8 0, .int .u8 0, .int .u8 0, .int .u8 0, .int .u8 0, .int .u8 0, .int .u8 0, .int .u8 0, .int .u8 0] 26)).there w10.heap.size 0 RA.size := Bk.there K7 _ (by rw [hra32]; decide)
      have hin : (Tryd.prog.info? 26).map (·.size) = some RA.size := by rw [hra32]; kernel_rfl
      have ho1 : RA.all (·.oneCell') = true := by rw [HRA.out]; exact id_ones _
      have K7' : Bk ((w10.alloc (.cells #[.int .u8 0, .int .u8 0, .int .u8 0, .int .u8 0, .int .u8 0, .int .u8 0, .int .u8 0, .int .u8 0, .int .u8 0, .int .u8 0, .int .u8 0, .int .u8 0, .int .u8 0, .int .u8 0, .int .u8 0, .int .u8 0, .int .u8 0, .int .u8 0, .int .u8 0, .int .u8 0, .int .u8 0, .int .u8 0, .int .u8 0, .int .u8 0, .int .u8 0, .int .u8 0, .int .u8 0, .int .u8 0, .int .u8 0, .int .u8 0, .int .u8 0, .int .u8 0] 26)).setCells w10.heap.size 0 RA.toList) w10.heap.size 26 RA := Bk.setAll K7 (by rw [hra32]; rfl)
      have hB7 : Below w10.heap.size w10 ((w10.alloc (.cells #[.int .u8 0, .int .u8 0, .int .u8 0, .int .u8 0, .int .u8 0, .int .u8 0, .int .u8 0, .int .u8 0, .int .u8 0, .int .u8 0, .int .u8 0, .int .u8 0, .int .u8 0, .int .u8 0, .int .u8 0, .int .u8 0, .int .u8 0, .int .u8 0, .int .u8 0, .int .u8 0, .int .u8 0, .int .u8 0, .int .u8 0, .int .u8 0, .int .u8 0, .int .u8 0, .int .u8 0, .int .u8 0, .int .u8 0, .int .u8 0, .int .u8 0, .int .u8 0] 26)).setCells w10.heap.size 0 RA.toList) := Below.setCells (Nat.le_refl _) _ _ _ ((Below.refl _ _).alloc (Nat.le_refl _) _)
      clear hb10 hroot c68 z5 HB9 HBo9 HK9 HM9r K7
      go_upto_region 17 with (refine wpList_store_mid rfl 26 (.tmp 6) (.tmp 76) rfl w10.heap.size 0 RA rfl rfl hth hin ho1 ?_)
      refine wp_any (fun W => Below w10.heap.size w10 W ∧ Bk W w10.heap.size 26 RA) ⟨hB7, K7'⟩ ?_
      clear hth hin ho1 K7' hB7
      rintro W11 ⟨hB11, hK11⟩
      have HB11 := Lib.hid (below_step HB10.out HB10.out.size hB11)
      have HBo11 := Lib.hid (HBo10.out.trans (hB11.mono (Nat.le_trans HLP.out (Nat.le_of_lt HK10.out.lt))))
      have HK11 := Lib.hid (HK10.out.keep hB11)
      have HM11 := Lib.hid (HM10.out.keep hB11)
      have HKI := Lib.hid hK11
      clear hB11 hK11 HB10 HBo10 HK10 HM10
      generalize w10.heap.size = p6 at *
      obtain ⟨tl, htl⟩ : ∃ tl : TypeId, tl = 49 := ⟨_, rfl⟩
      obtain ⟨sz, hsz0⟩ : ∃ sz : Nat, sz = 69 := ⟨_, rfl⟩
      have hag : ∀ w, (isAgg tl).run Tryd.prog w = .ok true w := by rw [htl]; exact blk_agg
      have hsz : ∀ w, (sizeOf tl).run Tryd.prog w = .ok sz w := by rw [htl, hsz0]; exact blk_size
      have HLOA : Hid (∀ W g A, A.size = 69 → Bk W g 49 A → (loadCellsFrom ⟨g, 0, none⟩ 0 sz #[]).run Tryd.prog W = .ok A W) := by show ∀ _, _; rw [hsz0]; exact fun W g A h K => blk_load h K
      have HTL := Lib.hid (show ∀ z, Op.load 49 z = Op.load tl z from fun z => by rw [htl])
      obtain ⟨tj, htj⟩ : ∃ tj : TypeId, tj = 26 := ⟨_, rfl⟩
      obtain ⟨sj, hsj0⟩ : ∃ sj : Nat, sj = 32 := ⟨_, rfl⟩
      have hagj : ∀ w, (isAgg tj).run Tryd.prog w = .ok true w := by rw [htj]; exact id_agg
      have hszj : ∀ w, (sizeOf tj).run Tryd.prog w = .ok sj w := by rw [htj, hsj0]; exact id_size
      have HTJ := Lib.hid (show ∀ z, Op.load 26 z = Op.load tj z from fun z => by rw [htj])
      have hla6 : (loadCellsFrom ⟨p6, 0, none⟩ 0 sj #[]).run Tryd.prog W11 = .ok RA W11 := by
        have h := id_load W11 p6 0 R HRI.out.1 (by rw [← HRA.out]; exact HKI.out.range0)
        rw [← HRA.out] at h
        rw [hsj0]
        exact h
      have hla5 : (loadCellsFrom ⟨p5, 33, none⟩ 0 sj #[]).run Tryd.prog W11 = .ok RA W11 := by
        have h := blk_root (b := ⟨withR hd0 R, s8, e8, M ++ [x]⟩) (withR_is hd0_is HRI.out) (by rw [← HA2.out]; exact HK11.out)
        rw [hsj0, HRA.out]
        exact h
      have hla := HLOA.out W11 p5 A2 HA69.out HK11.out
      have heq : ∀ W, (Op.equalIn 10000 26 (.agg RA) (.agg RA)).run Tryd.prog W = .ok true W := by
        rw [HRA.out]
        intro W
        rw [id_eql R R HRI.out.1 HRI.out.1 W, decide_eq_true rfl]
      have z5 := HK11.out.lt
      have z6 := HKI.out.lt
      have HVB : Hid (∀ W, Below w.heap.size w W → Below lo w2 W → MineR txR W lo (.slice s8 m1 e8) (M ++ [x]) → BlkV W W.heap.size ⟨withR hd0 R, s8, e8, M ++ [x]⟩) := by
        show ∀ _, _
        intro W h1 h2 h3
        have h4 := h3.rows txR_ok
        rw [HM1.out, HLEN.out] at h4
        exact ⟨withR_is hd0_is HRI.out, h4, fun y hy => HTX.out W h1 h2 y (HMX.out y hy)⟩
      rw [← HM1.out] at HM11
      have h40 : (M ++ [x]).length ≤ 40 := by rw [← HLEN.out]; have := HM9.out; omega
      have H40 := Lib.hid h40
      have hr40 := rootE_twin R (M ++ [x]) (by rw [HTWIN.out])
      have HR40 := Lib.hid hr40
      have hrt := croot_any ⟨withR hd0 R, s8, e8, M ++ [x]⟩ W11 (HVB.out W11 HB11.out HBo11.out HM11.out) (fun y hy => HTF.out y (HMX.out y hy)) h40 (HLD.out.keep HB11.out)
      change Calls _ _ _ _ (fun r w' => r = .returned (.int .i64 (rootE R (M ++ [x]) : Nat)) ∧ _) at hrt
      rw [hr40, ← HA2.out] at hrt
      have hbe : blkE ⟨withR hd0 R, s8, e8, M ++ [x]⟩ ≠ 0 := blkE_40 _ _ _ _ hr40
      obtain ⟨be, hbe2⟩ : ∃ be, be = blkE ⟨withR hd0 R, s8, e8, M ++ [x]⟩ := ⟨_, rfl⟩
      have HBE := Lib.hid hbe2
      rw [← hbe2] at hbe
      have qbe : ((be : Int) != 0) = true := by simp; omega
      have htj2 := HTJ.out
      simp only [htj2]
      clear htj2
      have htl2 := HTL.out
      simp only [htl2]
      clear htl2 htl htj hsz0 hsj0 h40 hr40 hbe hbe2
      go_wp2_with fail
      refine hrt.mono ?_
      rintro e w12 ⟨rfl, hb12⟩
      have HB12 := Lib.hid (below_step HB11.out HB11.out.size hb12)
      have HBo12 := Lib.hid (HBo11.out.trans (hb12.mono (Nat.le_trans HLP.out (Nat.le_of_lt z5))))
      have HK12 := Lib.hid (HK11.out.keep hb12)
      have hblk := cblock_any ⟨withR hd0 R, s8, e8, M ++ [x]⟩ w12 (HVB.out w12 HB12.out HBo12.out (HM11.out.keep hb12)) (fun y hy => HTF.out y (HMX.out y hy)) H40.out (HLD.out.keep HB12.out)
      rw [← HBE.out, ← HA2.out] at hblk
      have hla := HLOA.out w12 p5 A2 HA69.out HK12.out
      have z5 := HK12.out.lt
      clear hb12 hrt hla5 hla6 z6
      go_wp2_with fail
      refine hblk.mono ?_
      rintro e w13 ⟨rfl, hb13⟩
      have HB13 := Lib.hid (below_step HB12.out HB12.out.size hb13)
      clear hb13 hblk hla z5
      go_wp2_with fail
      go_ret
      exact ⟨rfl, HB13.out⟩
end Go.Proofs.YtpemljbdmbinlaaDoor.checkDoubled
