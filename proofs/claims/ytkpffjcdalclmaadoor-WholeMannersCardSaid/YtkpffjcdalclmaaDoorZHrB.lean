/- What a peer hears: the walk. -/
import Derived.Test.YtkpffjcdalclmaaDoorZHrA
namespace Go.Proofs.YtkpffjcdalclmaaDoor
open Go.RowKit
set_option linter.unusedVariables false
set_option linter.unusedSimpArgs false
set_option maxRecDepth 100000
set_option maxHeartbeats 16000000 in
theorem hear_any (p lo : Nat) (m : PeM) (v : Value) (B : List Nat) (sb : Option Addr) (n cb : Nat) (w : World) (hLd : LaidM w) (hLo : 3 + 1 ≤ lo) (hpl : lo ≤ p) (K : PeK w p m v) (hMi : Mine w lo v m.h) (hsc : ScOk m) (hfs : FsOk ⟨m.h, m.e, []⟩)
  (hlo : lo ≤ w.heap.size) (hb : BsN w (fun k => k = p ∨ slb v k) (.slice sb n cb) B) (hl : B.length ≤ 1400000) :
  Calls Tryd.prog 14 #[.pointer (some ⟨p, 0, none⟩), .slice sb n cb] w fun r w' => HearP w w' p lo v m B r := by
 have hadd := fadd_any (FT := 65) (FR := peA m v) (fo := 4) p lo m.e n cb sb v m.h B w hLd.1 hLo hpl ⟨K, hMi⟩ hfs.2.1 hfs.1 hlo hb hl
 have hbx : ∀ x ∈ B, x < 256 := by
  obtain ⟨_, _, _, _, _, h, _⟩ := hb
  exact h
 have hfs1 := feedL_fs B hfs hbx
 have hol := feedL_outlen B ⟨m.h, m.e, []⟩
 obtain ⟨s, hs⟩ : ∃ s, s = feedL ⟨m.h, m.e, []⟩ B := ⟨_, rfl⟩
 rw [← hs] at hfs1 hol
 have hol : s.out.length ≤ 1400000 := by
  have e : ([] : List (List Nat × List Nat)).length = 0 := rfl
  simp only [e] at hol
  omega
 obtain ⟨m1, hm1⟩ : ∃ m1, m1 = ({ m with h := s.h, e := s.e } : PeM) := ⟨_, rfl⟩
 have HS := Lib.hid hs
 have HM1 := Lib.hid hm1
 have HM1E : Hid (m1.e = s.e) := by rw [hm1]; exact rfl
 have HSC1 : Hid (ScOk m1) := by rw [hm1]; exact hsc
 have HLD := Lib.hid hLd
 have HFS1 := Lib.hid hfs1
 have HOL := Lib.hid hol
 have HLO := Lib.hid hLo
 have HPL := Lib.hid hpl
 have HLW := Lib.hid hlo
 have HMV := Lib.hid hMi
 have hpw := K.lt
 clear hLd hLo hpl hMi hsc hfs hlo hb hl hbx hfs1 hol K
 go_enter Tryd.func14, Tryd.ntmps14
 go_wp2_with fail
 refine hadd.mono ?_
 rintro r W1 ⟨rv, rfl, v1, L, hF1, hMade, hOut, hBut1, hV1⟩
 rw [← HS.out] at hF1 hOut
 have hK1 : PeK W1 p m1 v1 := by rw [HM1.out]; exact hF1.1
 have HPW : Hid (p < W1.heap.size) := hK1.lt
 have HB1 := Lib.hid hBut1
 have HV1 := Lib.hid hV1
 have hbl1 : Below lo w W1 := hBut1.below HLW.out (fun k hk => by
  rcases hk with h | h
  ·rw [h]; exact HPL.out
  ·exact (HMV.out.slb_lo h).1)
 have HLD1 : Hid (∀ wr, But (fun k => k = p) W1 wr → LaidM wr) := fun wr h => (HLD.out.below hbl1 HLO.out).below (h.below (B := lo) (Nat.le_trans HLW.out hBut1.size) (fun k hk => by have e : k = p := hk; rw [e]; exact HPL.out)) HLO.out
 have HMI : Hid (∀ wr, But (fun k => k = p) W1 wr → Mine wr lo v1 s.h) := fun wr h => hF1.2.but' h hK1 (by decide)
 obtain ⟨rs, rc, hrv⟩ := hMade.1.slice
 subst hrv
 have HRW : Hid (∀ wr, But (fun k => k = p) W1 wr → RowV frR wr wr.heap.size (.slice rs L.length rc) L) := fun wr h => (hMade.1.but' h hK1 (by decide)).rows frR_ok
 have HDA : Hid (∀ x ∈ L, ∀ wr, But (fun k => k = p) W1 wr → BsV wr wr.heap.size x.dv x.da) := fun x hx wr h => ((hMade.2 x hx).1.but' h hK1 (by decide)).bs ((HFS1.out.2.2 x.pr (by rw [← hOut]; exact List.mem_map_of_mem hx)).2.1)
 have HXO : Hid (∀ x ∈ L, FrOk x.pr) := fun x hx => HFS1.out.2.2 x.pr (by rw [← hOut]; exact List.mem_map_of_mem hx)
 have HOUT := Lib.hid hOut
 have HI0 : Hid (HInv W1 W1 p m1 v1 [] (.slice none 0 0) (.slice none 0 0) [] []) := ⟨hK1, But.refl _ _, .inl ⟨rfl, rfl⟩, .inl ⟨rfl, rfl⟩, rfl, rfl, fun k hk => absurd hk (slb_none _ _ _)⟩
 obtain ⟨n0, hn0⟩ : ∃ n0, n0 = L.length := ⟨_, rfl⟩
 have HN0 := Lib.hid hn0
 have h0b : n0 ≤ 1400000 := by
  have := HOL.out
  rw [← hOut, List.length_map] at this
  omega
 rw [← hn0] at HRW ⊢
 clear hadd hF1 hMade hOut hBut1 hV1 hK1 hbl1 hn0 hpw
 go_wp2_with fail
 go_loopw [4, 5, 16] (fun sv av i wr => ∃ (k : Nat) (S A : List MsI) (vs va : Value), k ≤ n0 ∧ vs = sv ∧ va = av ∧ i = .int .i64 k ∧ Hid (HInv W1 wr p m1 v1 (s.out.take k) vs va S A)) (fun _ _ i _ => n0 - (intOf i).toNat)
 case atStart => exact ⟨0, [], [], _, _, Nat.zero_le _, rfl, rfl, rfl, HI0.out⟩
 case round =>
  obtain ⟨k, S, A, sv, av, hk, rfl, rfl, rfl, HI⟩ := hrel
  clear HI0
  by_cases hlt : k < n0
  ·obtain ⟨x, bb, oo, hkx, hse, hbw, hrg⟩ := row_at (HRW.out wr HI.out.b) k (by have := HN0.out; omega)
   subst hse
   have j1 : decide ((k : Int) < (n0 : Int)) = true := decide_eq_true (by omega)
   have hrg0 := hrg 0 _ rfl
   have hrg1 := hrg 1 _ rfl
   change wr.cell? ⟨bb, oo + k * 2 + 0, none⟩ = some (.string (strN x.wd)) at hrg0
   change wr.cell? ⟨bb, oo + k * 2 + 1, none⟩ = some (.slice x.ds x.da.length x.dc) at hrg1
   rw [Nat.add_zero] at hrg0
   have hmem := List.mem_of_getElem? hkx
   have htake : s.out.take (k + 1) = s.out.take k ++ [x.pr] := by
    rw [List.take_add_one, ← HOUT.out, List.getElem?_map, hkx]
    rfl
   have HTK := Lib.hid htake
   have HXR := Lib.hid (HXO.out x hmem)
   have HDX := Lib.hid (HDA.out x hmem)
   have hdec : ∀ W, But (fun k => k = p) W1 W → Calls Tryd.prog 34 #[.agg #[.string (strN x.wd), .slice x.ds x.da.length x.dc]] W fun r w' => ∃ m, r = .returned (.tuple #[.agg (msL m).toArray, .int .i64 ((decE x.wd x.da : Nat) : Int)]) ∧ Below W.heap.size W w' ∧ (decE x.wd x.da = 0 → m.kd = (kindN x.wd : Int) ∧ DecSays (kindN x.wd) x.da m) ∧ (decE x.wd x.da ≠ 0 → m = ms0) ∧ MineMs w' W.heap.size m :=
    fun W h => mdecode_any x.wd x.da x.ds x.da.length x.dc W (HLD1.out W h) HXR.out.1 (HDX.out W h) (Nat.le_trans HXR.out.2.2 (by decide))
   have HDC := Lib.hid hdec
   obtain ⟨mk, hmk⟩ : ∃ mk, mk = (hearF m1 (s.out.take k)).1 := ⟨_, rfl⟩
   have HMK := Lib.hid hmk
   have HSCK : Hid (ScOk mk) := by rw [hmk]; exact (hearF_sc _ HSC1.out).1
   have HH1 : Hid (∀ r, r = hear1 mk x.pr → hear1 (hearF m1 (s.out.take k)).1 x.pr = r) := fun r h => by rw [h, hmk]
   have HKK : Hid (∀ W sv av S A, HInv W1 W p m1 v1 (s.out.take k) sv av S A → PeK W p mk v1) := fun W sv av S A h => by rw [hmk]; exact h.K
   obtain ⟨u, hu⟩ : ∃ u, u = strN x.wd := ⟨_, rfl⟩
   obtain ⟨dn, hdn⟩ : ∃ dn, dn = x.da.length := ⟨_, rfl⟩
   obtain ⟨ds, hds⟩ : ∃ ds, ds = x.ds := ⟨_, rfl⟩
   obtain ⟨dc, hdc⟩ : ∃ dc, dc = x.dc := ⟨_, rfl⟩
   rw [← hu] at hrg0 HDC
   rw [← hdn, ← hds, ← hdc] at hrg1 HDC
   clear hdec hrg hkx hmem htake hmk hu hdn hds hdc
   go_upto_region 4 with fail
   refine wp_any (fun W => Below wr.heap.size wr W ∧ Bk W wr.heap.size 93 #[.string u, .slice ds dn dc]) ⟨(Below.refl _ _).alloc (Nat.le_refl _) _, Bk.new _ _ _⟩ ?_
   clear hrg0 hrg1
   rintro W ⟨hb, K6⟩
   have HI2 := Lib.hid (HI.out.keep hb)
   have d0 := K6.cell 0
   have d1 := K6.cell 1
   have z6 := K6.lt
   have zp := HI2.out.K.lt
   generalize wr.heap.size = g6 at *
   have HBD := Lib.hid (bad_any p mk v1 W (HKK.out _ _ _ _ _ HI2.out))
   clear hb K6 HI
   by_cases h100 : mk.sc = 100
   ·have q1 : (mk.sc == 100) = true := by rw [beq_iff_eq]; exact h100
    have HIE : Hid (HInv W1 W p m1 v1 s.out sv av S A) := by
     have h := HI2.out.stop (by rw [← HMK.out]; exact h100) (s.out.drop k)
     rw [List.take_append_drop] at h
     exact h
    clear h100
    go_wp2_with fail
    refine HBD.out.mono ?_
    rintro r w2 ⟨rfl, e2⟩
    subst w2
    clear HBD HI2 d0 d1 z6
    have HKE := Lib.hid HIE.out.K
    have heE : (hearF m1 s.out).1.e = s.e := ((hearF_rest s.out m1).2.1).trans HM1E.out
    have HSCE := Lib.hid (hearF_sc s.out HSC1.out).1
    have HMIE := Lib.hid (HMI.out _ HIE.out.b)
    have HFE := Lib.hid (ferr_any (FT := 65) (FR := peA (hearF m1 s.out).1 v1) (fo := 4) p lo (hearF m1 s.out).1.e v1 s.h W ⟨HKE.out, HMIE.out⟩)
    rw [heE] at HFE
    obtain ⟨se, hsee⟩ : ∃ se, se = s.e := ⟨_, rfl⟩
    rw [← hsee] at HFE
    have HSEE := Lib.hid hsee
    have HBE : Hid (Calls Tryd.prog 19 #[.pointer (some ⟨p, 0, none⟩), .int .i64 100] W fun r w' => r = .returned (.tuple #[]) ∧ PeK w' p { (hearF m1 s.out).1 with sc := blI (hearF m1 s.out).1.sc 100 } v1 ∧ But (fun k => k = p) W w') := blame_any p _ v1 100 W HKE.out HSCE.out (by decide)
    clear heE hsee
    have ze := HKE.out.lt
    go_wp2_with fail
    refine HFE.out.mono ?_
    rintro r w7 ⟨rfl, e7⟩
    subst w7
    clear HFE
    by_cases hse : se = 0
    ·have q9 : ((se : Int) != 0) = false := by rw [hse]; rfl
     have HEND : Hid (HearP w W p lo v m B (.returned (.tuple #[sv, av]))) := HInv.done0 HS.out HM1.out HIE.out (HSEE.out.symm.trans hse) HMIE.out HB1.out HV1.out
     clear hse
     go_wp2_with fail
     go_ret2
     exact HEND.out
    ·have q9 : ((se : Int) != 0) = true := by simp; omega
     have HSE : Hid (s.e ≠ 0) := by rw [← HSEE.out]; exact hse
     clear hse
     go_wp2_with fail
     refine HBE.out.mono ?_
     rintro r w8 ⟨rfl, hK8, hb8⟩
     have HEND : Hid (HearP w w8 p lo v m B (.returned (.tuple #[sv, av]))) := HInv.done1 HS.out HM1.out HIE.out HSE.out (HMI.out _ (HIE.out.b.trans hb8 (fun i _ h => h))) HB1.out HV1.out HPW.out hb8 hK8
     clear hK8 hb8 HBE q9
     go_wp2_with fail
     go_ret2
     exact HEND.out
   have q1 : (mk.sc == 100) = false := by rw [beq_eq_false_iff_ne]; exact h100
   have H100 := Lib.hid h100
   go_wp2_with fail
   refine HBD.out.mono ?_
   rintro r w2 ⟨rfl, e2⟩
   subst w2
   have HDW := Lib.hid (HDC.out W HI2.out.b)
   clear HBD h100 HDC
   go_wp2_with fail
   refine HDW.out.mono ?_
   rintro r w5 ⟨y, rfl, hb5, hd0, hdn, hMs⟩
   have HI5 := Lib.hid (HI2.out.keep hb5)
   have HY0 := Lib.hid hd0
   have HYD := Lib.hid hMs.1.2.2.2
   obtain ⟨E, hE⟩ : ∃ E, E = decE x.wd x.da := ⟨_, rfl⟩
   have HE := Lib.hid hE
   rw [← hE]
   obtain ⟨MA, hMA⟩ : ∃ MA, MA = (msL y).toArray := ⟨_, rfl⟩
   have HMA := Lib.hid hMA
   rw [← hMA]
   have ha106 : MA.size = 106 := by rw [hMA]; exact msL_len HYD.out
   have HA6 := Lib.hid ha106
   have ho1 : MA.all (·.oneCell') = true := by rw [hMA]; exact all_oneCell_toArray (msL_one y)
   obtain ⟨ZC, hZC⟩ : ∃ Z, Z = Tryd.zeroCells58 := ⟨_, rfl⟩
   have hz106 : ZC.size = 106 := by rw [hZC]; exact msz_len
   have K7 : Bk (w5.alloc (.cells ZC 58)) w5.heap.size 58 ZC := Bk.new _ _ _
   have hth : (w5.alloc (.cells ZC 58)).there w5.heap.size 0 MA.size := Bk.there K7 _ (by rw [ha106, hz106]; exact Nat.le_refl _)
   have hin : (Tryd.prog.info? 58).map (·.size) = some MA.size := by rw [ha106]; exact msi_r
   have K7' : Bk ((w5.alloc (.cells ZC 58)).setCells w5.heap.size 0 MA.toList) w5.heap.size 58 MA := Bk.setAll K7 (by rw [ha106, hz106])
   have hB7 : Below w5.heap.size w5 ((w5.alloc (.cells ZC 58)).setCells w5.heap.size 0 MA.toList) := Below.setCells (Nat.le_refl _) _ _ _ ((Below.refl _ _).alloc (Nat.le_refl _) _)
   rw [hZC] at hth K7' hB7
   have hin2 := hin
   clear hd0 hdn hMs hE hMA ha106 hz106 K7 hb5 d0 d1 z6 zp HI2 HDW
   go_upto_region 7 with (refine wpList_store_mid rfl 58 (.tmp 8) (.tmp 27) rfl w5.heap.size 0 MA rfl rfl hth hin ho1 ?_)
   refine wp_any (fun W => Below w5.heap.size w5 W ∧ Bk W w5.heap.size 58 MA) ⟨hB7, K7'⟩ ?_
   clear hth hin ho1 K7' hB7 hZC
   rintro W7 ⟨hB7, K8⟩
   have HI7 := Lib.hid (HI5.out.keep hB7)
   have HK8 := Lib.hid K8
   generalize w5.heap.size = g8 at *
   have zp := HI7.out.K.lt
   have z8 := K8.lt
   have HPK := Lib.hid (HKK.out _ _ _ _ _ HI7.out)
   clear hB7 K8 HI5
   by_cases h90 : E = 90
   ·have q2 : ((E : Int) == 90) = true := by rw [h90]; rfl
    have HX : Hid (hear1 mk x.pr = (mk, [], [])) := by
     show _ = _
     unfold hear1
     rw [if_neg H100.out, if_pos (by rw [← h90, HE.out]; rfl)]
    clear h90
    go_wp2_with fail
    go_roundw
    case rel => exact ⟨k + 1, S, A, sv, av, by omega, rfl, rfl, by go_num, by rw [HTK.out]; exact HI7.out.step HPW.out (But.refl _ _) HPK.out (HH1.out _ HX.out.symm)⟩
    case measure => simp [intOf]; omega
   have q2 : ((E : Int) == 90) = false := by rw [beq_eq_false_iff_ne]; omega
   have H90 := Lib.hid h90
   by_cases hE0 : E = 0
   case neg =>
    have q3 : ((E : Int) != 0) = true := by simp; omega
    have HX : Hid (hear1 mk x.pr = ({ mk with sc := blI mk.sc 20 }, [], [])) := by
     show _ = _
     unfold hear1
     rw [if_neg H100.out, if_neg (by rw [show decE x.pr.1 x.pr.2 = E from HE.out.symm]; exact H90.out), if_pos (by rw [show decE x.pr.1 x.pr.2 = E from HE.out.symm]; exact hE0)]
    have HC := Lib.hid (blame_any p mk v1 20 W7 HPK.out HSCK.out (by decide))
    clear h90 hE0
    go_wp2_with fail
    refine HC.out.mono ?_
    rintro r w8 ⟨rfl, hK9, hb9⟩
    have HN : Hid (HInv W1 w8 p m1 v1 (s.out.take (k + 1)) sv av S A) := by rw [HTK.out]; exact HI7.out.step HPW.out hb9 hK9 (HH1.out _ HX.out.symm)
    clear HC hK9 hb9
    go_wp2_with fail
    go_roundw
    case rel => exact ⟨k + 1, S, A, sv, av, by omega, rfl, rfl, by go_num, HN⟩
    case measure => simp [intOf]; omega
   subst hE0
   have hdd := HY0.out HE.out.symm
   have hkey := dec_key _ _ y hdd.1 hdd.2
   obtain ⟨kk, hkk⟩ : ∃ kk, kk = kindN x.wd := ⟨_, rfl⟩
   obtain ⟨yn, hyn⟩ : ∃ yn, yn = y.nc := ⟨_, rfl⟩
   have a0 : MA[0]? = some (.int .i64 (kk : Int)) := by
    rw [HMA.out, hkk, ← hdd.1]
    all_goals rfl
   have a1 : MA[1]? = some (.int .u64 (yn : Int)) := by
    rw [HMA.out, hyn]
    all_goals rfl
   have HNY : Hid ((decKey kk x.da).2.1 = yn) := by
    show _ = _
    rw [hkk, ← hkey.1, hyn]
    all_goals rfl
   have HYE : Hid (decKey kk x.da = keyM y) := by
    show _ = _
    rw [hkk, ← hkey.1]
   have HYK : Hid (y.kd = (kk : Int) ∧ y.nc = (decKey kk x.da).2.1 ∧ y.ht = decHt kk x.da) := by
    refine ⟨by rw [hkk]; exact hdd.1, ?_, by rw [hkk]; exact hkey.2⟩
    rw [HNY.out, hyn]
   have H1 : Hid (hear1 mk x.pr = if mk.rd = false ∨ kk = 1 ∨ kk = 2 then ((greetF mk (kk : Int) (decKey kk x.da).2.1 (decHt kk x.da)).1, [], if (greetF mk (kk : Int) (decKey kk x.da).2.1 (decHt kk x.da)).2 = true then [verK] else []) else if kk = 9 then (mk, [], [pongK (decKey kk x.da).2.1]) else if kk = 10 then (ansF mk (decKey kk x.da).2.1, [], []) else (mk, [decKey kk x.da], [])) := by
    show _ = _
    rw [hkk]
    unfold hear1
    rw [if_neg H100.out, if_neg (by rw [show decE x.pr.1 x.pr.2 = 0 from HE.out.symm]; decide), if_neg (fun h => h HE.out.symm)]
    all_goals rfl
   have c0 := (HK8.out.cell 0).trans a0
   have c1 := (HK8.out.cell 1).trans a1
   have p7 : W7.cell? ⟨p, 7, none⟩ = some (.bool mk.rd) := (Bk.cell HPK.out 7).trans rfl
   have HKN : Hid (∀ j : Nat, kk ≠ j → ((kk : Int) == (j : Int)) = false) := fun j h => by rw [beq_eq_false_iff_ne]; omega
   clear hdd hkey hkk hyn a0 a1 HY0 h90 q2 q1
   rcases Bool.eq_false_or_eq_true mk.rd with hrd | hrd
   ·rw [hrd] at p7
    by_cases hk1 : kk = 1
    ·subst hk1
     have HX : Hid (hear1 mk x.pr = ((greetF mk y.kd y.nc y.ht).1, [], if (greetF mk y.kd y.nc y.ht).2 = true then [verK] else [])) := by
      show _ = _
      rw [H1.out, if_pos (.inr (.inl rfl)), HYK.out.1, HYK.out.2.1, HYK.out.2.2]
     have HGC := Lib.hid (greet_any p mk v1 y W7 HPK.out HSCK.out HYD.out)
     rw [← HMA.out] at HGC
     have K8 := HK8.out
     go_wp2_with (refine wpList_load_row rfl 58 (.tmp 8) rfl g8 rfl 58 MA (0, 0) _ K8 Tryd.underlying58 rfl hin2 ?_)
     refine HGC.out.mono ?_
     rintro r w9 ⟨gv, GL, rfl, hK9, hM9, hk9, hb9⟩
     have hMA9 : MineR msR w9 W1.heap.size av A := HI7.out.a.but_ hb9 (fun j hj e => by have h1 := (HI7.out.a.slb_lo hj).1; have h2 := HPW.out; have h3 : j = p := e; omega)
     have hgl : GL.length ≤ 1 := by
      have h := congrArg List.length hk9
      unfold keysM at h
      rw [List.length_map] at h
      rw [h]
      split <;> decide
     obtain ⟨va2, W10, hr9, hM10, hb10, hs10⟩ := appB msR_ok A GL av gv W1.heap.size w9 hMA9 (Nat.le_trans HI7.out.b.size hb9.size) (hM9.rows msR_ok) (by have h1 := HI7.out.lens; rw [List.length_take] at h1; omega)
     have HN : Hid (HInv W1 W10 p m1 v1 (s.out.take (k + 1)) sv va2 S (A ++ GL)) := by rw [HTK.out]; exact HI7.out.ans HPW.out hb9 hK9 hM10 hb10 hs10 hk9 (HH1.out _ HX.out.symm)
     clear HGC hK9 hM9 hk9 hb9 hMA9 hgl hM10 hb10 hs10 K8 c0 c1 p7 z8
     go_wp2_with (refine wpList_appR (v1 := av) (v2 := gv) 27 rfl (.tmp 59) (.tmp 62) rfl rfl rfl rfl hr9 ?_)
     go_roundw
     case rel => exact ⟨k + 1, S, A ++ GL, sv, va2, by omega, rfl, rfl, by go_num, HN⟩
     case measure => simp [intOf]; omega
    by_cases hk2 : kk = 2
    ·subst hk2
     have HX : Hid (hear1 mk x.pr = ((greetF mk y.kd y.nc y.ht).1, [], if (greetF mk y.kd y.nc y.ht).2 = true then [verK] else [])) := by
      show _ = _
      rw [H1.out, if_pos (.inr (.inr rfl)), HYK.out.1, HYK.out.2.1, HYK.out.2.2]
     have HGC := Lib.hid (greet_any p mk v1 y W7 HPK.out HSCK.out HYD.out)
     rw [← HMA.out] at HGC
     have K8 := HK8.out
     go_wp2_with (refine wpList_load_row rfl 58 (.tmp 8) rfl g8 rfl 58 MA (0, 0) _ K8 Tryd.underlying58 rfl hin2 ?_)
     refine HGC.out.mono ?_
     rintro r w9 ⟨gv, GL, rfl, hK9, hM9, hk9, hb9⟩
     have hMA9 : MineR msR w9 W1.heap.size av A := HI7.out.a.but_ hb9 (fun j hj e => by have h1 := (HI7.out.a.slb_lo hj).1; have h2 := HPW.out; have h3 : j = p := e; omega)
     have hgl : GL.length ≤ 1 := by
      have h := congrArg List.length hk9
      unfold keysM at h
      rw [List.length_map] at h
      rw [h]
      split <;> decide
     obtain ⟨va2, W10, hr9, hM10, hb10, hs10⟩ := appB msR_ok A GL av gv W1.heap.size w9 hMA9 (Nat.le_trans HI7.out.b.size hb9.size) (hM9.rows msR_ok) (by have h1 := HI7.out.lens; rw [List.length_take] at h1; omega)
     have HN : Hid (HInv W1 W10 p m1 v1 (s.out.take (k + 1)) sv va2 S (A ++ GL)) := by rw [HTK.out]; exact HI7.out.ans HPW.out hb9 hK9 hM10 hb10 hs10 hk9 (HH1.out _ HX.out.symm)
     clear HGC hK9 hM9 hk9 hb9 hMA9 hgl hM10 hb10 hs10 K8 c0 c1 p7 z8
     go_wp2_with (refine wpList_appR (v1 := av) (v2 := gv) 27 rfl (.tmp 59) (.tmp 62) rfl rfl rfl rfl hr9 ?_)
     go_roundw
     case rel => exact ⟨k + 1, S, A ++ GL, sv, va2, by omega, rfl, rfl, by go_num, HN⟩
     case measure => simp [intOf]; omega
    have n1 : ((kk : Int) == 1) = false := by rw [beq_eq_false_iff_ne]; omega
    have n2 : ((kk : Int) == 2) = false := by rw [beq_eq_false_iff_ne]; omega
    have HNC : Hid (¬ (mk.rd = false ∨ kk = 1 ∨ kk = 2)) := by
     show ¬ _
     rw [hrd]
     simp
     omega
    by_cases hk9 : kk = 9
    ·subst hk9
     have HK9 : Hid (9 = 9) := rfl
     have HX : Hid (hear1 mk x.pr = (mk, [], [pongK yn])) := by
      show _ = _
      rw [H1.out, if_neg HNC.out, if_pos HK9.out, HNY.out]
     have B8 : Below W7.heap.size W7 (W7.alloc (.cells (msR.c (pongM yn)).toArray 58)) := (Below.refl _ _).alloc (Nat.le_refl _) _
     have R8 := one_rowR' msR_ok (Bk.new W7 58 (msR.c (pongM yn)).toArray)
     have HI8 := Lib.hid (HI7.out.keep B8)
     obtain ⟨va2, W10, hr9, hM10, hb10, hs10⟩ := appB msR_ok A [(pongM yn)] av (.slice (some ⟨W7.heap.size, 0, none⟩) 1 1) W1.heap.size (W7.alloc (.cells (msR.c (pongM yn)).toArray 58)) HI8.out.a HI8.out.b.size R8 (by have h1 := HI7.out.lens; rw [List.length_take] at h1; show A.length + 1 ≤ _; omega)
     have HN : Hid (HInv W1 W10 p m1 v1 (s.out.take (k + 1)) sv va2 S (A ++ [pongM yn])) := by rw [HTK.out]; exact HI8.out.ans HPW.out (But.refl _ _) (HKK.out _ _ _ _ _ HI8.out) hM10 hb10 hs10 (keys_pong yn) (HH1.out _ HX.out.symm)
     clear B8 R8 HI8 hM10 hb10 hs10
     go_wp2_with (first | (refine wpList_bsR1 msR_ok (by decide) rfl (.tmp 71) rfl (pongM yn) (by show Value.agg ((Tryd.zeroCells58.setIfInBounds 0 (.int .i64 10)).setIfInBounds 1 (.int .u64 (yn : Int))) = _; rw [ms10_cells]; rfl) ?_) | (refine wpList_appR (v1 := av) (v2 := .slice (some ⟨W7.heap.size, 0, none⟩) 1 1) 27 rfl (.tmp 68) (.tmp 72) rfl rfl rfl rfl hr9 ?_))
     go_roundw
     case rel => exact ⟨k + 1, S, A ++ [pongM yn], sv, va2, by omega, rfl, rfl, by go_num, HN⟩
     case measure => simp [intOf]; omega
    have HK9 : Hid (¬ kk = 9) := hk9
    have n9 : ((kk : Int) == 9) = false := by rw [beq_eq_false_iff_ne]; omega
    by_cases hk10 : kk = 10
    ·subst hk10
     have HK10 : Hid (10 = 10) := rfl
     have HX : Hid (hear1 mk x.pr = (ansF mk yn, [], [])) := by
      show _ = _
      rw [H1.out, if_neg HNC.out, if_neg HK9.out, if_pos HK10.out, HNY.out]
     have HAC := Lib.hid (answered_any p yn mk v1 W7.drew (HPK.out.keep (Below.refl _ _).drew))
     go_upto_region 15 with fail
     go_still_tail 5, (by kernel_rfl)
     change wpList _ _ _ _ _ W7.drew
     go_wp2_with fail
     refine HAC.out.mono ?_
     rintro r w9 ⟨rfl, hK9, hb9⟩
     have HN : Hid (HInv W1 w9 p m1 v1 (s.out.take (k + 1)) sv av S A) := by rw [HTK.out]; exact HI7.out.step HPW.out (((But.refl (fun k => k = p) W7).drew).trans hb9 (fun i _ h => h)) hK9 (HH1.out _ HX.out.symm)
     clear HAC hK9 hb9 c0 c1 p7
     go_wp2_with fail
     go_roundw
     case rel => exact ⟨k + 1, S, A, sv, av, by omega, rfl, rfl, by go_num, HN⟩
     case measure => simp [intOf]; omega
    have HK10 : Hid (¬ kk = 10) := hk10
    have n10 : ((kk : Int) == 10) = false := by rw [beq_eq_false_iff_ne]; omega
    have HX : Hid (hear1 mk x.pr = (mk, [keyM y], [])) := by
     show _ = _
     rw [H1.out, if_neg HNC.out, if_neg HK9.out, if_neg HK10.out, HYE.out]
    have B8 : Below W7.heap.size W7 (W7.alloc (.cells (msR.c (⟨y, HYD.out⟩ : MsI)).toArray 58)) := (Below.refl _ _).alloc (Nat.le_refl _) _
    have R8 := one_rowR' msR_ok (Bk.new W7 58 (msR.c (⟨y, HYD.out⟩ : MsI)).toArray)
    have HI8 := Lib.hid (HI7.out.keep B8)
    obtain ⟨va2, W10, hr9, hM10, hb10, hs10⟩ := appB msR_ok S [(⟨y, HYD.out⟩ : MsI)] sv (.slice (some ⟨W7.heap.size, 0, none⟩) 1 1) W1.heap.size (W7.alloc (.cells (msR.c (⟨y, HYD.out⟩ : MsI)).toArray 58)) HI8.out.s HI8.out.b.size R8 (by have h1 := HI7.out.lens; rw [List.length_take] at h1; show S.length + 1 ≤ _; omega)
    have HN : Hid (HInv W1 W10 p m1 v1 (s.out.take (k + 1)) va2 av (S ++ [(⟨y, HYD.out⟩ : MsI)]) A) := by rw [HTK.out]; exact HI8.out.say HPW.out hM10 hb10 hs10 rfl (HH1.out _ (by rw [HX.out, ← HMK.out]; rfl))
    have K8 := HK8.out
    clear B8 R8 HI8 hM10 hb10 hs10
    go_wp2_with (first | (refine wpList_load_row rfl 58 (.tmp 8) rfl g8 rfl 58 MA (0, 0) _ K8 Tryd.underlying58 rfl hin2 ?_) | (refine wpList_bsR1 msR_ok (by decide) rfl (.tmp 30) rfl (⟨y, HYD.out⟩ : MsI) (by show Value.agg MA = _; rw [HMA.out]; rfl) ?_) | (refine wpList_appR (v1 := sv) (v2 := .slice (some ⟨W7.heap.size, 0, none⟩) 1 1) 27 rfl (.tmp 29) (.tmp 31) rfl rfl rfl rfl hr9 ?_))
    go_roundw
    case rel => exact ⟨k + 1, S ++ [(⟨y, HYD.out⟩ : MsI)], A, va2, av, by omega, rfl, rfl, by go_num, HN⟩
    case measure => simp [intOf]; omega
   ·rw [hrd] at p7
    have HX : Hid (hear1 mk x.pr = ((greetF mk y.kd y.nc y.ht).1, [], if (greetF mk y.kd y.nc y.ht).2 = true then [verK] else [])) := by
     show _ = _
     rw [H1.out, if_pos (.inl hrd), HYK.out.1, HYK.out.2.1, HYK.out.2.2]
    have HGC := Lib.hid (greet_any p mk v1 y W7 HPK.out HSCK.out HYD.out)
    rw [← HMA.out] at HGC
    have K8 := HK8.out
    go_wp2_with (refine wpList_load_row rfl 58 (.tmp 8) rfl g8 rfl 58 MA (0, 0) _ K8 Tryd.underlying58 rfl hin2 ?_)
    refine HGC.out.mono ?_
    rintro r w9 ⟨gv, GL, rfl, hK9, hM9, hk9, hb9⟩
    have hMA9 : MineR msR w9 W1.heap.size av A := HI7.out.a.but_ hb9 (fun j hj e => by have h1 := (HI7.out.a.slb_lo hj).1; have h2 := HPW.out; have h3 : j = p := e; omega)
    have hgl : GL.length ≤ 1 := by
     have h := congrArg List.length hk9
     unfold keysM at h
     rw [List.length_map] at h
     rw [h]
     split <;> decide
    obtain ⟨va2, W10, hr9, hM10, hb10, hs10⟩ := appB msR_ok A GL av gv W1.heap.size w9 hMA9 (Nat.le_trans HI7.out.b.size hb9.size) (hM9.rows msR_ok) (by have h1 := HI7.out.lens; rw [List.length_take] at h1; omega)
    have HN : Hid (HInv W1 W10 p m1 v1 (s.out.take (k + 1)) sv va2 S (A ++ GL)) := by rw [HTK.out]; exact HI7.out.ans HPW.out hb9 hK9 hM10 hb10 hs10 hk9 (HH1.out _ HX.out.symm)
    clear HGC hK9 hM9 hk9 hb9 hMA9 hgl hM10 hb10 hs10 K8 c0 c1 p7 z8
    go_wp2_with (refine wpList_appR (v1 := av) (v2 := gv) 27 rfl (.tmp 59) (.tmp 62) rfl rfl rfl rfl hr9 ?_)
    go_roundw
    case rel => exact ⟨k + 1, S, A ++ GL, sv, va2, by omega, rfl, rfl, by go_num, HN⟩
    case measure => simp [intOf]; omega
  ·obtain rfl : k = n0 := by omega
   have j1 : decide ((k : Int) < (k : Int)) = false := decide_eq_false (by omega)
   have HIE : Hid (HInv W1 wr p m1 v1 s.out sv av S A) := by
    have h := HI.out
    rw [List.take_of_length_le (by have h1 := HN0.out; have h2 := congrArg List.length HOUT.out; rw [List.length_map] at h2; omega)] at h
    exact h
   clear hlt HI
   have HKE := Lib.hid HIE.out.K
   have heE : (hearF m1 s.out).1.e = s.e := ((hearF_rest s.out m1).2.1).trans HM1E.out
   have HSCE := Lib.hid (hearF_sc s.out HSC1.out).1
   have HMIE := Lib.hid (HMI.out _ HIE.out.b)
   have HFE := Lib.hid (ferr_any (FT := 65) (FR := peA (hearF m1 s.out).1 v1) (fo := 4) p lo (hearF m1 s.out).1.e v1 s.h wr ⟨HKE.out, HMIE.out⟩)
   rw [heE] at HFE
   obtain ⟨se, hsee⟩ : ∃ se, se = s.e := ⟨_, rfl⟩
   rw [← hsee] at HFE
   have HSEE := Lib.hid hsee
   have HBE : Hid (Calls Tryd.prog 19 #[.pointer (some ⟨p, 0, none⟩), .int .i64 100] wr fun r w' => r = .returned (.tuple #[]) ∧ PeK w' p { (hearF m1 s.out).1 with sc := blI (hearF m1 s.out).1.sc 100 } v1 ∧ But (fun k => k = p) wr w') := blame_any p _ v1 100 wr HKE.out HSCE.out (by decide)
   clear heE hsee
   have ze := HKE.out.lt
   go_wp2_with fail
   refine HFE.out.mono ?_
   rintro r w7 ⟨rfl, e7⟩
   subst w7
   clear HFE
   by_cases hse : se = 0
   ·have q9 : ((se : Int) != 0) = false := by rw [hse]; rfl
    have HEND : Hid (HearP w wr p lo v m B (.returned (.tuple #[sv, av]))) := HInv.done0 HS.out HM1.out HIE.out (HSEE.out.symm.trans hse) HMIE.out HB1.out HV1.out
    clear hse
    go_wp2_with fail
    go_ret2
    exact HEND.out
   ·have q9 : ((se : Int) != 0) = true := by simp; omega
    have HSE : Hid (s.e ≠ 0) := by rw [← HSEE.out]; exact hse
    clear hse
    go_wp2_with fail
    refine HBE.out.mono ?_
    rintro r w8 ⟨rfl, hK8, hb8⟩
    have HEND : Hid (HearP w w8 p lo v m B (.returned (.tuple #[sv, av]))) := HInv.done1 HS.out HM1.out HIE.out HSE.out (HMI.out _ (HIE.out.b.trans hb8 (fun i _ h => h))) HB1.out HV1.out HPW.out hb8 hK8
    clear hK8 hb8 HBE q9
    go_wp2_with fail
    go_ret2
    exact HEND.out
end Go.Proofs.YtkpffjcdalclmaaDoor
