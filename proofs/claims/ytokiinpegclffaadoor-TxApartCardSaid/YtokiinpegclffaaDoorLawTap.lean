/-
  What is proved: for every two transactions the law TxApart returns true, and its arguments read behind the call as they read before it; the two listed tables of package hash are taken to hold what the program's text lays in them, and the card ties them to it.
-/
import Derived.Test.YtokiinpegclffaaDoorTxZ
import Derived.Test.YtokiinpegclffaaDoorTxR
import Derived.Test.YtokiinpegclffaaDoorTapS
import Derived.Test.YtokiinpegclffaaDoorTie
import Derived.Test.YtokiinpegclffaaDoorCards
import Derived.Stop.Joined
namespace Go.Proofs.YtokiinpegclffaaDoor.txApart
open Go.ChangeShapes Go.WideShapes Go.ChangeAt Go.RowKit
set_option linter.unusedVariables false

theorem own : ownKnob Tryd.prog.godebug = none := by kernel_rfl
theorem laidOut : laidOutB Tryd.prog = true := by kernel_rfl
theorem wf_i64 {z : Int} (h : (Lit.int .i64 z).wf = true) : -9223372036854775808 ≤ z ∧ z ≤ 9223372036854775807 := by
  simp [Lit.wf, IntKind.min, IntKind.max, IntKind.signed, IntKind.bits] at h
  omega
set_option maxRecDepth 100000
/-- As far as k the inputs, or outputs, say the same. -/
def UpI (I1 I2 : List InM) (k : Nat) : Prop := ∀ (j : Nat) x y, j < k → I1[j]? = some x → I2[j]? = some y → InE x y
def UpO (O1 O2 : List OutM) (k : Nat) : Prop := ∀ (j : Nat) x y, j < k → O1[j]? = some x → O2[j]? = some y → OutE x y
theorem UpI.snoc {I1 I2 : List InM} {k : Nat} {x y : InM} (hx : I1[k]? = some x) (hy : I2[k]? = some y) : UpI I1 I2 (k + 1) ↔ UpI I1 I2 k ∧ InE x y := by
  constructor
  · intro h
    exact ⟨fun j u v hj => h j u v (by omega), h k x y (by omega) hx hy⟩
  · rintro ⟨h, e⟩ j u v hj hu hv
    rcases Nat.lt_or_ge j k with h1 | h1
    · exact h j u v h1 hu hv
    · obtain rfl : j = k := by omega
      rw [hu] at hx
      rw [hv] at hy
      cases hx
      cases hy
      exact e
theorem UpO.snoc {O1 O2 : List OutM} {k : Nat} {x y : OutM} (hx : O1[k]? = some x) (hy : O2[k]? = some y) : UpO O1 O2 (k + 1) ↔ UpO O1 O2 k ∧ OutE x y := by
  constructor
  · intro h
    exact ⟨fun j u v hj => h j u v (by omega), h k x y (by omega) hx hy⟩
  · rintro ⟨h, e⟩ j u v hj hu hv
    rcases Nat.lt_or_ge j k with h1 | h1
    · exact h j u v h1 hu hv
    · obtain rfl : j = k := by omega
      rw [hu] at hx
      rw [hv] at hy
      cases hx
      cases hy
      exact e
theorem UpI.all {I1 I2 : List InM} (h : UpI I1 I2 I1.length) : ∀ (k : Nat) x y, I1[k]? = some x → I2[k]? = some y → InE x y := fun k x y hx hy => h k x y (List.getElem?_eq_some_iff.1 hx).1 hx hy
theorem UpO.all {O1 O2 : List OutM} (h : UpO O1 O2 O1.length) : ∀ (k : Nat) x y, O1[k]? = some x → O2[k]? = some y → OutE x y := fun k x y hx hy => h k x y (List.getElem?_eq_some_iff.1 hx).1 hx hy
theorem ids_same {x y : List Nat} (h : x = y) : idv x = idv y := by rw [h]
set_option maxHeartbeats 16000000 in
theorem walk (t u : TxM) (w : World) (hL : Laid w) (hT : TxV w w.heap.size t) (hU : TxV w w.heap.size u) :
    Calls Tryd.prog 3 #[txv t, txv u] w fun e w' => e = .returned (.bool true) ∧ Below w.heap.size w w' := by
  have HLT := Lib.hid hT.lt
  have HLU := Lib.hid hU.lt
  obtain ⟨B1, hB1⟩ : ∃ B1, B1 = fitB t := ⟨_, rfl⟩
  obtain ⟨B2, hB2⟩ : ∃ B2, B2 = fitB u := ⟨_, rfl⟩
  have HF1 : Hid (B1 = true → TxFit t) := by show _ → _; rw [hB1]; exact (fitB_iff t).1
  have HF2 : Hid (B2 = true → TxFit u) := by show _ → _; rw [hB2]; exact (fitB_iff u).1
  have HWR : Hid (∀ W, Below w.heap.size w W → Calls Tryd.prog 16 #[] W fun e w' => e = .returned (.bool true) ∧ Below W.heap.size W w') := fun W h => txwrites_any W (hL.below h hL.size)
  have HFI1 : Hid (∀ W, Below w.heap.size w W → Calls Tryd.prog 17 #[.agg #[t.iv, t.ov]] W fun e w' => e = .returned (.bool B1) ∧ Below W.heap.size W w') := fun W h => by rw [hB1]; exact fits_any t W ((hT.keep h (Nat.le_refl _)).mono h.size)
  have HFI2 : Hid (∀ W, Below w.heap.size w W → Calls Tryd.prog 17 #[.agg #[u.iv, u.ov]] W fun e w' => e = .returned (.bool B2) ∧ Below W.heap.size W w') := fun W h => by rw [hB2]; exact fits_any u W ((hU.keep h (Nat.le_refl _)).mono h.size)
  have HBY1 : Hid (TxFit t → ∀ W, Below w.heap.size w W → Calls Tryd.prog 18 #[.agg #[t.iv, t.ov]] W fun e w' => ∃ v', e = .returned v' ∧ Mine w' W.heap.size v' (txB t) ∧ Below W.heap.size W w') := fun hf W h => tbytes_any t W ((hT.keep h (Nat.le_refl _)).mono h.size) hf
  have HBY2 : Hid (TxFit u → ∀ W, Below w.heap.size w W → Calls Tryd.prog 18 #[.agg #[u.iv, u.ov]] W fun e w' => ∃ v', e = .returned v' ∧ Mine w' W.heap.size v' (txB u) ∧ Below W.heap.size W w') := fun hf W h => tbytes_any u W ((hU.keep h (Nat.le_refl _)).mono h.size) hf
  have HID1 : Hid (TxFit t → ∀ W, Below w.heap.size w W → Calls Tryd.prog 19 #[.agg #[t.iv, t.ov]] W fun e w' => e = .returned (idv (tID t)) ∧ Below W.heap.size W w') := fun hf W h => tid_any t W ((hT.keep h (Nat.le_refl _)).mono h.size) hf (hL.below h hL.size)
  have HID2 : Hid (TxFit u → ∀ W, Below w.heap.size w W → Calls Tryd.prog 19 #[.agg #[u.iv, u.ov]] W fun e w' => e = .returned (idv (tID u)) ∧ Below W.heap.size W w') := fun hf W h => tid_any u W ((hU.keep h (Nat.le_refl _)).mono h.size) hf (hL.below h hL.size)
  have HAP : Hid (TxFit t → TxFit u → (txB t = txB u ↔ t.ins.length = u.ins.length ∧ t.outs.length = u.outs.length ∧ UpI t.ins u.ins t.ins.length ∧ UpO t.outs u.outs t.outs.length)) := fun hf hg => by
    refine (tx_apart t u hf hg (TxV.ok hT).1 (TxV.ok hU).1 (TxV.ok hT).2 (TxV.ok hU).2).trans ⟨fun h => ⟨h.1, h.2.1, fun j x y _ => h.2.2.1 j x y, fun j x y _ => h.2.2.2 j x y⟩, fun h => ⟨h.1, h.2.1, h.2.2.1.all, h.2.2.2.all⟩⟩
  obtain ⟨xt, hxt⟩ : ∃ x, x = txB t := ⟨_, rfl⟩
  obtain ⟨xu, hxu⟩ : ∃ x, x = txB u := ⟨_, rfl⟩
  obtain ⟨it, hit⟩ : ∃ x, x = tID t := ⟨_, rfl⟩
  obtain ⟨iu, hiu⟩ : ∃ x, x = tID u := ⟨_, rfl⟩
  have HII : Hid (xt = xu → it = iu) := fun h => by
    rw [hit, hiu]
    unfold tID
    rw [← hxt, ← hxu, h]
  have HIL : Hid (it.length = 32) := by rw [hit]; exact tID_length t
  have HFITL : Hid (TxFit t → xt.length ≤ 1000000) := fun h => by rw [hxt]; have := txB_len t h; omega
  have HFIUL : Hid (TxFit u → xu.length ≤ 1000000) := fun h => by rw [hxu]; have := txB_len u h; omega
  rw [← hxt] at HLT HBY1 HAP
  rw [← hxu] at HLU HBY2 HAP
  rw [← hit] at HID1
  rw [← hiu] at HID2
  have HTT : Hid (TxV w w.heap.size t) := hT
  have HUU : Hid (TxV w w.heap.size u) := hU
  obtain ⟨F1, hF1⟩ : ∃ F, F = TxFit t := ⟨_, rfl⟩
  obtain ⟨F2, hF2⟩ : ∃ F, F = TxFit u := ⟨_, rfl⟩
  rw [← hF1] at HF1 HBY1 HID1 HAP HFITL
  rw [← hF2] at HF2 HBY2 HID2 HAP HFIUL
  clear hF1 hF2 hB1 hB2 hxt hxu hit hiu hL hT hU
  obtain ⟨sa, ca, I1, sb, cb, O1⟩ := t
  obtain ⟨sc, cc, I2, sd, cd, O2⟩ := u
  change Calls Tryd.prog _ #[.agg #[.slice sa I1.length ca, .slice sb O1.length cb], .agg #[.slice sc I2.length cc, .slice sd O2.length cd]] w _
  have hli : I1.length < 9223372036854775808 := by
    obtain ⟨s, c, e, h1, h2, _⟩ := HTT.out.1
    simp only at h1
    omega
  have hlo : O1.length < 9223372036854775808 := by
    obtain ⟨s, c, e, h1, h2, _⟩ := HTT.out.2.2.1
    simp only at h1
    omega
  simp only [TxM.iv, TxM.ov] at HFI1 HFI2 HBY1 HBY2 HID1 HID2 HAP
  obtain ⟨na, hna⟩ : ∃ n, n = I1.length := ⟨_, rfl⟩
  obtain ⟨nb, hnb⟩ : ∃ n, n = O1.length := ⟨_, rfl⟩
  obtain ⟨nc, hnc⟩ : ∃ n, n = I2.length := ⟨_, rfl⟩
  obtain ⟨nd, hnd⟩ : ∃ n, n = O2.length := ⟨_, rfl⟩
  rw [← hna, ← hnb, ← hnc, ← hnd]
  rw [← hna, ← hnb] at HFI1 HBY1 HID1 HAP
  rw [← hnc, ← hnd] at HFI2 HBY2 HID2 HAP
  rw [← hna] at hli
  rw [← hnb] at hlo
  have HNA := Lib.hid hna
  have HNB := Lib.hid hnb
  have HNC := Lib.hid hnc
  have HND := Lib.hid hnd
  have HLI := Lib.hid hli
  have HLO := Lib.hid hlo
  clear hna hnb hnc hnd hli hlo
  go_enter Tryd.func3, Tryd.ntmps3
  go_upto_region 1 with fail
  have hW0 : Below w.heap.size w ((w.alloc (.cells #[.slice sa na ca, .slice sb nb cb] 25)).alloc (.cells #[.slice sc nc cc, .slice sd nd cd] 25)) := ((Below.refl _ _).alloc (Nat.le_refl _) _).alloc (by simp) _
  refine wp_any (fun W => Below w.heap.size w W ∧ Bk W w.heap.size 25 #[.slice sa na ca, .slice sb nb cb] ∧ Bk W (w.heap.size + 1) 25 #[.slice sc nc cc, .slice sd nd cd]) ⟨hW0, (Bk.new _ _ _).alloc _, Bk.new' _ _ _ (by simp)⟩ ?_
  clear hW0
  obtain ⟨g1, hg1⟩ : ∃ g1, g1 = w.heap.size := ⟨_, rfl⟩
  have HG := Lib.hid hg1
  rw [← hg1]
  clear hg1
  obtain ⟨g2, hg2⟩ : ∃ g2, g2 = g1 + 1 := ⟨_, rfl⟩
  rw [← hg2]
  clear hg2
  rintro W ⟨hW, K1, K2⟩
  have HW : Hid (Below w.heap.size w W) := by rw [← HG.out]; exact hW
  clear hW
  go_wp2_with fail
  refine (HWR.out W HW.out).mono ?_
  rintro e W1 ⟨rfl, hb1⟩
  have K1 := K1.keep hb1
  have K2 := K2.keep hb1
  have HW1 := Lib.hid (below_step HW.out HW.out.size hb1)
  have c0 := K1.cell 0
  have c1 := K1.cell 1
  have d0 := K2.cell 0
  have d1 := K2.cell 1
  have z1 := K1.lt
  have z2 := K2.lt
  clear hb1 HW HWR
  go_wp2_with fail
  refine (HFI1.out W1 HW1.out).mono ?_
  rintro e W2 ⟨rfl, hb2⟩
  have K1 := K1.keep hb2
  have K2 := K2.keep hb2
  have HW2 := Lib.hid (below_step HW1.out HW1.out.size hb2)
  have c0 := K1.cell 0
  have c1 := K1.cell 1
  have d0 := K2.cell 0
  have d1 := K2.cell 1
  have z1 := K1.lt
  have z2 := K2.lt
  clear hb2 HW1 HFI1
  cases B1
  · go_wp2_with fail
    go_ret
    exact ⟨rfl, HW2.out⟩
  have HFT := Lib.hid (HF1.out rfl)
  clear HF1
  go_wp2_with fail
  refine (HFI2.out W2 HW2.out).mono ?_
  rintro e W3 ⟨rfl, hb3⟩
  have K1 := K1.keep hb3
  have K2 := K2.keep hb3
  have HW3 := Lib.hid (below_step HW2.out HW2.out.size hb3)
  have c0 := K1.cell 0
  have c1 := K1.cell 1
  have d0 := K2.cell 0
  have d1 := K2.cell 1
  have z1 := K1.lt
  have z2 := K2.lt
  clear hb3 HW2 HFI2
  cases B2
  · go_wp2_with fail
    go_ret
    exact ⟨rfl, HW3.out⟩
  have HFU := Lib.hid (HF2.out rfl)
  clear HF2
  have HBT := Lib.hid (HBY1.out HFT.out)
  have HBU := Lib.hid (HBY2.out HFU.out)
  have HIT := Lib.hid (HID1.out HFT.out)
  have HIU := Lib.hid (HID2.out HFU.out)
  have HPT := Lib.hid (HFITL.out HFT.out)
  have HPU := Lib.hid (HFIUL.out HFU.out)
  have HAQ := Lib.hid (HAP.out HFT.out HFU.out)
  clear HBY1 HBY2 HID1 HID2 HAP HFITL HFIUL
  by_cases hac : na = nc
  · by_cases hbd : nb = nd
    · have q1 : ((na : Int) == (nc : Int)) = true := by rw [hac]; simp
      have q2 : ((nb : Int) == (nd : Int)) = true := by rw [hbd]; simp
      have HAC := Lib.hid hac
      have HBD := Lib.hid hbd
      clear hac hbd
      go_wp2_with fail
      go_loopw [5, 6] (fun al i wr => ∃ (k : Nat) (C : Bool), k ≤ na ∧ al = .bool C ∧ i = .int .i64 k ∧ Hid (Below w.heap.size w wr) ∧ Bk wr g1 25 #[.slice sa na ca, .slice sb nb cb] ∧ Bk wr g2 25 #[.slice sc nc cc, .slice sd nd cd] ∧ Hid (C = true ↔ UpI I1 I2 k)) (fun _ i _ => na - (intOf i).toNat)
      case atStart => exact ⟨0, true, Nat.zero_le _, rfl, rfl, HW3.out, K1, K2, ⟨fun _ j x y hj => absurd hj (by omega), fun _ => rfl⟩⟩
      case round =>
        obtain ⟨k, C, hk, rfl, rfl, HWr, J1, J2, HC⟩ := hrel
        clear c0 c1 d0 d1 z1 z2 HW3 K1 K2 q1 q2
        have c0 := J1.cell 0
        have d0 := J2.cell 0
        cases C
        · have HNE : Hid (¬ xt = xu) := fun h => by
            have h3 := (HAQ.out.1 h).2.2.1
            have h4 := HC.out.2 (fun j x y hj => h3 j x y (by have := hk; omega))
            cases h4
          clear HC c0 d0
          generalize wr = wo at *
          go_wp2_with fail
          go_loopw [5, 7] (fun al i wr => al = .bool false ∧ Hid (Below w.heap.size w wr) ∧ Bk wr g1 25 #[.slice sa na ca, .slice sb nb cb] ∧ Bk wr g2 25 #[.slice sc nc cc, .slice sd nd cd]) (fun _ _ _ => 0)
          case atStart => exact ⟨rfl, HWr.out, J1, J2⟩
          case round =>
            obtain ⟨rfl, HWr, J1, J2⟩ := hrel
            go_wp2_with fail
            go_upto_region 14 with fail
            have HWV := HWr
            have e0 : ∀ w', Below wr.heap.size wr w' → w'.cell? ⟨g1, 0, none⟩ = some (.slice sa na ca) := fun w' hb => (J1.keep hb).cell 0
            have e1 : ∀ w', Below wr.heap.size wr w' → w'.cell? ⟨g1, 1, none⟩ = some (.slice sb nb cb) := fun w' hb => (J1.keep hb).cell 1
            have e2 : ∀ w', Below wr.heap.size wr w' → w'.cell? ⟨g2, 0, none⟩ = some (.slice sc nc cc) := fun w' hb => (J2.keep hb).cell 0
            have e3 : ∀ w', Below wr.heap.size wr w' → w'.cell? ⟨g2, 1, none⟩ = some (.slice sd nd cd) := fun w' hb => (J2.keep hb).cell 1
            obtain ⟨st, hst⟩ : ∃ st, st = strN xt := ⟨_, rfl⟩
            obtain ⟨su, hsu⟩ : ∃ su, su = strN xu := ⟨_, rfl⟩
            have HSS : Hid ((st.toList == su.toList) = decide (xt = xu)) := by rw [hst, hsu]; exact str_same xt xu HLT.out HLU.out
            have HB12 : Hid (∀ W, Below wr.heap.size wr W → Calls Tryd.prog 18 #[.agg #[.slice sa na ca, .slice sb nb cb]] W fun e w' => ∃ s m c, e = .returned (.slice s m c) ∧ (∀ w2, Below w'.heap.size w' w2 → (convert 33 9 (.slice s m c)).run Tryd.prog w2 = .ok (.string st) w2) ∧ Below W.heap.size W w') := fun W hb => by
              refine (HBT.out W (below_step HWr.out HWr.out.size hb)).mono ?_
              rintro e w' ⟨v', rfl, M, hb'⟩
              have hbs := M.bs HLT.out
              obtain ⟨s, c, rfl⟩ := M.slice
              refine ⟨s, _, c, rfl, fun w2 h2 => ?_, hb'⟩
              rw [hst]
              exact conv_bs (hbs.keep h2 (Nat.le_refl _))
            have HB13 : Hid (∀ W, Below wr.heap.size wr W → Calls Tryd.prog 18 #[.agg #[.slice sc nc cc, .slice sd nd cd]] W fun e w' => ∃ s m c, e = .returned (.slice s m c) ∧ (∀ w2, Below w'.heap.size w' w2 → (convert 33 9 (.slice s m c)).run Tryd.prog w2 = .ok (.string su) w2) ∧ Below W.heap.size W w') := fun W hb => by
              refine (HBU.out W (below_step HWr.out HWr.out.size hb)).mono ?_
              rintro e w' ⟨v', rfl, M, hb'⟩
              have hbs := M.bs HLU.out
              obtain ⟨s, c, rfl⟩ := M.slice
              refine ⟨s, _, c, rfl, fun w2 h2 => ?_, hb'⟩
              rw [hsu]
              exact conv_bs (hbs.keep h2 (Nat.le_refl _))
            clear HBT HBU hst hsu
            refine region14 wr g1 g2 sa sb sc sd na ca nb cb nc cc nd cd st su J1 J2 HB12 HB13 (fun x97 x98 x99 x100 s6 m6 c6 s7 m7 c7 w8 hb8 hc6 hc7 => ?_)
            have HWE := Lib.hid (below_step HWV.out HWV.out.size hb8)
            have J1 := J1.keep hb8
            have J2 := J2.keep hb8
            clear e0 e1 e2 e3 hb8 HB12 HB13
            have hss : (st.toList == su.toList) = false := by rw [HSS.out]; exact decide_eq_false HNE.out
            go_upto_region 15 with fail
            refine region15F w8 g1 g2 m6 c6 m7 c7 s6 s7 st su hc6 hc7 hss (fun x101 x102 x103 x104 x105 x106 x107 x108 x109 x110 x111 x112 x113 x114 x115 x116 x117 x118 => ?_)
            go_wp2_with fail
            go_ret
            exact ⟨rfl, HWE.out.drew⟩
        · by_cases hlt : k < na
          · have j1 : decide ((k : Int) < (na : Int)) = true := decide_eq_true (by omega)
            have j2 : (k : Int) < (na : Int) := by omega
            have j3 : (k : Int) < (nc : Int) := by rw [← HAC.out]; omega
            have HK1 := Lib.hid (show k + 1 ≤ na by omega)
            have HUK := Lib.hid (HC.out.1 rfl)
            obtain ⟨x, b, o, hkx, rfl, hbw, hrg⟩ := row_at HTT.out.1 k (by have := HNA.out; show k < I1.length; omega)
            obtain ⟨y, b', o', hky, rfl, hbw', hrg'⟩ := row_at HUU.out.1 k (by have := HNC.out; have := HAC.out; show k < I2.length; omega)
            change w.rangeAt b (o + k * 34) (inL x) at hrg
            change w.rangeAt b' (o' + k * 34) (inL y) at hrg'
            have hrx := rr_below hrg HWr.out hbw
            have hry := rr_below hrg' HWr.out hbw'
            have HVX := (HTT.out.2.1 x (List.mem_of_getElem? hkx)).2
            have HVY := (HUU.out.2.1 y (List.mem_of_getElem? hky)).2
            have kx : wr.cell? ⟨b, o + k * 34 + 33, none⟩ = some (.slice x.ks x.key.length x.kc) := in_cell33 hrx
            have ky : wr.cell? ⟨b', o' + k * 34 + 33, none⟩ = some (.slice y.ks y.key.length y.kc) := in_cell33 hry
            have hcx : (convert 33 9 (.slice x.ks x.key.length x.kc)).run Tryd.prog wr.drew = .ok (.string (strN x.key)) wr.drew := conv_bs (HVX.keep HWr.out.drew (Nat.le_refl _))
            have hcy : (convert 33 9 (.slice y.ks y.key.length y.kc)).run Tryd.prog wr.drew = .ok (.string (strN y.key)) wr.drew := conv_bs (HVY.keep HWr.out.drew (Nat.le_refl _))
            have HPX : Hid (wr.drew.rangeAt b (o + k * 34) (ptA x).toList) := pt_range hrx
            have HPY : Hid (wr.drew.rangeAt b' (o' + k * 34) (ptA y).toList) := pt_range hry
            obtain ⟨px, hpx⟩ : ∃ p, p = ptA x := ⟨_, rfl⟩
            obtain ⟨py, hpy⟩ : ∃ p, p = ptA y := ⟨_, rfl⟩
            obtain ⟨E1, hE1⟩ : ∃ E, E = ptEq x y := ⟨_, rfl⟩
            obtain ⟨E2, hE2⟩ : ∃ E, E = decide (x.key = y.key) := ⟨_, rfl⟩
            have heq : ∀ W, (Op.equalIn 10000 32 (.agg px) (.agg py)).run Tryd.prog W = .ok E1 W := fun W => by rw [hpx, hpy, hE1]; exact pt_eql x y W
            have hgd : ∀ (a b : Operand) W, (eqGuard .eql 32 a b (.agg px) (.agg py)).run Tryd.prog W = .ok () W := fun a b W => run_eqGuard_agg (P := Tryd.prog) W .eql 32 a b px py (by kernel_rfl)
            have hbn := eql_bin heq
            clear heq
            have hss : ((strN x.key).toList == (strN y.key).toList) = E2 := by rw [hE2]; exact str_same _ _ (bsv_lt HVX) (bsv_lt HVY)
            have HPLX : Hid ((Tryd.prog.info? 32).map (·.size) = some px.toList.length) := by rw [hpx, pt_len]; exact pt_infoS
            have HPLY : Hid ((Tryd.prog.info? 32).map (·.size) = some py.toList.length) := by rw [hpy, pt_len]; exact pt_infoS
            rw [← hpx] at HPX
            rw [← hpy] at HPY
            have HEE : Hid ((E1 && E2) = true ↔ UpI I1 I2 (k + 1)) := by
              show _ ↔ _
              rw [UpI.snoc hkx hky, Bool.and_eq_true, hE1, hE2, ptEq_iff]
              constructor
              · rintro ⟨⟨a, b⟩, c⟩
                exact ⟨HUK.out, a, b, by simpa using c⟩
              · rintro ⟨_, a, b, c⟩
                exact ⟨⟨a, b⟩, by simpa using c⟩
            obtain ⟨s5, hs5⟩ : ∃ s, s = strN x.key := ⟨_, rfl⟩
            obtain ⟨s6, hs6⟩ : ∃ s, s = strN y.key := ⟨_, rfl⟩
            obtain ⟨l5, hl5⟩ : ∃ s, s = x.key.length := ⟨_, rfl⟩
            obtain ⟨l6, hl6⟩ : ∃ s, s = y.key.length := ⟨_, rfl⟩
            rw [← hl5, ← hs5] at hcx
            rw [← hl6, ← hs6] at hcy
            rw [← hs5, ← hs6] at hss
            rw [← hl5] at kx
            rw [← hl6] at ky
            clear hrg hrg' hrx hry HVX HVY hpx hpy hE1 hE2 hkx hky hs5 hs6 hl5 hl6 HC hlt HUK
            go_upto_region 9 with fail
            cases E1
            · refine region9F wr b b' o o' k na nc g1 g2 l5 l6 x.kc y.kc x.ks y.ks ca cc _ _ px py E2 s5 s6 J1 J2 j2 j3 kx ky hcx hcy HPX HPY hgd hbn hss HPLX HPLY (fun x46 x47 x48 x49 x50 x51 x52 x53 x54 x55 x56 x57 x58 x59 x60 x61 x62 x63 x64 x65 x66 x67 x68 x69 x70 x71 x72 x73 x74 x75 => ?_)
              have HWd := Lib.hid HWr.out.drew
              have J1 := J1.keep (Below.refl _ _).drew
              have J2 := J2.keep (Below.refl _ _).drew
              clear kx ky hcx hcy HPX HPY hgd hbn hss HWr c0 d0
              generalize wr.drew = wz at *
              have hli := HLI.out
              have hk1 := HK1.out
              go_wp2_with fail
              go_roundw
              case rel => exact ⟨k + 1, false, HK1.out, rfl, by go_num, HWd.out, J1, J2, by have h := HEE.out; show _ ↔ _; simpa using h⟩
              case measure => have := HK1.out; simp [intOf]; omega
            · refine region9T wr b b' o o' k na nc g1 g2 l5 l6 x.kc y.kc x.ks y.ks ca cc _ _ px py E2 s5 s6 J1 J2 j2 j3 kx ky hcx hcy HPX HPY hgd hbn hss HPLX HPLY (fun x46 x47 x48 x49 x50 x51 x52 x53 x54 x55 x56 x57 x58 x59 x60 x61 x62 x63 x64 x65 x66 x67 x68 x69 x70 x71 x72 x73 x74 x75 => ?_)
              have HWd := Lib.hid HWr.out.drew
              have J1 := J1.keep (Below.refl _ _).drew
              have J2 := J2.keep (Below.refl _ _).drew
              clear kx ky hcx hcy HPX HPY hgd hbn hss HWr c0 d0
              generalize wr.drew = wz at *
              have hli := HLI.out
              have hk1 := HK1.out
              go_wp2_with fail
              go_roundw
              case rel => exact ⟨k + 1, E2, HK1.out, rfl, by go_num, HWd.out, J1, J2, by have h := HEE.out; show _ ↔ _; simpa using h⟩
              case measure => have := HK1.out; simp [intOf]; omega
          · have hkn : k = na := by omega
            have j1 : decide ((k : Int) < (na : Int)) = false := decide_eq_false (by omega)
            have j0 : decide (k < na) = false := decide_eq_false (by omega)
            have HUI : Hid (UpI I1 I2 na) := by rw [← hkn]; exact HC.out.1 rfl
            clear hkn hlt HC
            generalize wr = wo at *
            go_wp2_with fail
            go_loopw [5, 7] (fun al i wr => ∃ (k : Nat) (C : Bool), k ≤ nb ∧ al = .bool C ∧ i = .int .i64 k ∧ Hid (Below w.heap.size w wr) ∧ Bk wr g1 25 #[.slice sa na ca, .slice sb nb cb] ∧ Bk wr g2 25 #[.slice sc nc cc, .slice sd nd cd] ∧ Hid (C = true ↔ UpO O1 O2 k)) (fun _ i _ => nb - (intOf i).toNat)
            case atStart => exact ⟨0, true, Nat.zero_le _, rfl, rfl, HWr.out, J1, J2, ⟨fun _ j x y hj => absurd hj (by omega), fun _ => rfl⟩⟩
            case round =>
              clear c0 d0 J1 J2 HWr j1 j0
              obtain ⟨m, C, hm, rfl, rfl, HWr, J1, J2, HC⟩ := hrel
              have c1 := J1.cell 1
              have d1 := J2.cell 1
              cases C
              · have HNE : Hid (¬ xt = xu) := fun h => by
                  have h3 := (HAQ.out.1 h).2.2.2
                  have h4 := HC.out.2 (fun j x y hj => h3 j x y (by have := hm; omega))
                  cases h4
                clear HC c1 d1
                go_wp2_with fail
                go_upto_region 14 with fail
                have HWV := HWr
                have e0 : ∀ w', Below wr.heap.size wr w' → w'.cell? ⟨g1, 0, none⟩ = some (.slice sa na ca) := fun w' hb => (J1.keep hb).cell 0
                have e1 : ∀ w', Below wr.heap.size wr w' → w'.cell? ⟨g1, 1, none⟩ = some (.slice sb nb cb) := fun w' hb => (J1.keep hb).cell 1
                have e2 : ∀ w', Below wr.heap.size wr w' → w'.cell? ⟨g2, 0, none⟩ = some (.slice sc nc cc) := fun w' hb => (J2.keep hb).cell 0
                have e3 : ∀ w', Below wr.heap.size wr w' → w'.cell? ⟨g2, 1, none⟩ = some (.slice sd nd cd) := fun w' hb => (J2.keep hb).cell 1
                obtain ⟨st, hst⟩ : ∃ st, st = strN xt := ⟨_, rfl⟩
                obtain ⟨su, hsu⟩ : ∃ su, su = strN xu := ⟨_, rfl⟩
                have HSS : Hid ((st.toList == su.toList) = decide (xt = xu)) := by rw [hst, hsu]; exact str_same xt xu HLT.out HLU.out
                have HB12 : Hid (∀ W, Below wr.heap.size wr W → Calls Tryd.prog 18 #[.agg #[.slice sa na ca, .slice sb nb cb]] W fun e w' => ∃ s m c, e = .returned (.slice s m c) ∧ (∀ w2, Below w'.heap.size w' w2 → (convert 33 9 (.slice s m c)).run Tryd.prog w2 = .ok (.string st) w2) ∧ Below W.heap.size W w') := fun W hb => by
                  refine (HBT.out W (below_step HWr.out HWr.out.size hb)).mono ?_
                  rintro e w' ⟨v', rfl, M, hb'⟩
                  have hbs := M.bs HLT.out
                  obtain ⟨s, c, rfl⟩ := M.slice
                  refine ⟨s, _, c, rfl, fun w2 h2 => ?_, hb'⟩
                  rw [hst]
                  exact conv_bs (hbs.keep h2 (Nat.le_refl _))
                have HB13 : Hid (∀ W, Below wr.heap.size wr W → Calls Tryd.prog 18 #[.agg #[.slice sc nc cc, .slice sd nd cd]] W fun e w' => ∃ s m c, e = .returned (.slice s m c) ∧ (∀ w2, Below w'.heap.size w' w2 → (convert 33 9 (.slice s m c)).run Tryd.prog w2 = .ok (.string su) w2) ∧ Below W.heap.size W w') := fun W hb => by
                  refine (HBU.out W (below_step HWr.out HWr.out.size hb)).mono ?_
                  rintro e w' ⟨v', rfl, M, hb'⟩
                  have hbs := M.bs HLU.out
                  obtain ⟨s, c, rfl⟩ := M.slice
                  refine ⟨s, _, c, rfl, fun w2 h2 => ?_, hb'⟩
                  rw [hsu]
                  exact conv_bs (hbs.keep h2 (Nat.le_refl _))
                clear HBT HBU hst hsu
                refine region14 wr g1 g2 sa sb sc sd na ca nb cb nc cc nd cd st su J1 J2 HB12 HB13 (fun x97 x98 x99 x100 s6 m6 c6 s7 m7 c7 w8 hb8 hc6 hc7 => ?_)
                have HWE := Lib.hid (below_step HWV.out HWV.out.size hb8)
                have J1 := J1.keep hb8
                have J2 := J2.keep hb8
                clear e0 e1 e2 e3 hb8 HB12 HB13
                have hss : (st.toList == su.toList) = false := by rw [HSS.out]; exact decide_eq_false HNE.out
                go_upto_region 15 with fail
                refine region15F w8 g1 g2 m6 c6 m7 c7 s6 s7 st su hc6 hc7 hss (fun x101 x102 x103 x104 x105 x106 x107 x108 x109 x110 x111 x112 x113 x114 x115 x116 x117 x118 => ?_)
                go_wp2_with fail
                go_ret
                exact ⟨rfl, HWE.out.drew⟩
              · by_cases hlt : m < nb
                · have j1 : decide ((m : Int) < (nb : Int)) = true := decide_eq_true (by omega)
                  have j2 : (m : Int) < (nb : Int) := by omega
                  have j3 : (m : Int) < (nd : Int) := by rw [← HBD.out]; omega
                  have HK1 := Lib.hid (show m + 1 ≤ nb by omega)
                  have HUK := Lib.hid (HC.out.1 rfl)
                  obtain ⟨x, b, o, hkx, rfl, hbw, hrg⟩ := row_at HTT.out.2.2.1 m (by have := HNB.out; show m < O1.length; omega)
                  obtain ⟨y, b', o', hky, rfl, hbw', hrg'⟩ := row_at HUU.out.2.2.1 m (by have := HND.out; have := HBD.out; show m < O2.length; omega)
                  change w.rangeAt b (o + m * 33) (ouL x) at hrg
                  change w.rangeAt b' (o' + m * 33) (ouL y) at hrg'
                  have HPX : Hid (wr.drew.rangeAt b (o + m * 33) (ouL x)) := rr_below hrg HWr.out.drew hbw
                  have HPY : Hid (wr.drew.rangeAt b' (o' + m * 33) (ouL y)) := rr_below hrg' HWr.out.drew hbw'
                  obtain ⟨px, hpx⟩ : ∃ p, p = ouL x := ⟨_, rfl⟩
                  obtain ⟨py, hpy⟩ : ∃ p, p = ouL y := ⟨_, rfl⟩
                  obtain ⟨E1, hE1⟩ : ∃ E, E = ouEq x y := ⟨_, rfl⟩
                  have heq : ∀ W, (Op.equalIn 10000 37 (.agg px.toArray) (.agg py.toArray)).run Tryd.prog W = .ok E1 W := fun W => by rw [hpx, hpy, hE1]; exact ou_eql x y W
                  have hgd : ∀ (a b : Operand) W, (eqGuard .eql 37 a b (.agg px.toArray) (.agg py.toArray)).run Tryd.prog W = .ok () W := fun a b W => run_eqGuard_agg (P := Tryd.prog) W .eql 37 a b px.toArray py.toArray (by kernel_rfl)
                  have hbn := eql_bin heq
                  clear heq
                  have HPLX : Hid ((Tryd.prog.info? 37).map (·.size) = some px.length) := by rw [hpx, ouL_len]; exact ou_infoS
                  have HPLY : Hid ((Tryd.prog.info? 37).map (·.size) = some py.length) := by rw [hpy, ouL_len]; exact ou_infoS
                  rw [← hpx] at HPX
                  rw [← hpy] at HPY
                  have HEE : Hid (E1 = true ↔ UpO O1 O2 (m + 1)) := by
                    show _ ↔ _
                    rw [UpO.snoc hkx hky, hE1, ouEq_iff]
                    exact ⟨fun h => ⟨HUK.out, h⟩, fun h => h.2⟩
                  clear hrg hrg' hpx hpy hE1 hkx hky HC hlt HUK
                  go_upto_region 13 with fail
                  refine region13 wr b b' o o' m nb nd g1 g2 cb cd _ _ px py E1 J1 J2 j2 j3 HPX HPY hgd hbn HPLX HPLY (fun x86 x87 x88 x89 x90 x91 x92 x93 x94 x95 x96 => ?_)
                  have HWd := Lib.hid HWr.out.drew
                  have J1 := J1.keep (Below.refl _ _).drew
                  have J2 := J2.keep (Below.refl _ _).drew
                  clear HPX HPY hgd hbn HWr c1 d1
                  generalize wr.drew = wz at *
                  have hlo := HLO.out
                  have hk1 := HK1.out
                  go_wp2_with fail
                  go_roundw
                  case rel => exact ⟨m + 1, E1, HK1.out, rfl, by go_num, HWd.out, J1, J2, HEE.out⟩
                  case measure => have := HK1.out; simp [intOf]; omega
                · have hkn : m = nb := by omega
                  have j1 : decide ((m : Int) < (nb : Int)) = false := decide_eq_false (by omega)
                  have j0 : decide (m < nb) = false := decide_eq_false (by omega)
                  have HUO : Hid (UpO O1 O2 nb) := by rw [← hkn]; exact HC.out.1 rfl
                  have HEQ : Hid (xt = xu) := HAQ.out.2 ⟨HAC.out, HBD.out, HUI.out, HUO.out⟩
                  clear hkn hlt HC
                  go_wp2_with fail
                  go_upto_region 14 with fail
                  have HWV := HWr
                  have e0 : ∀ w', Below wr.heap.size wr w' → w'.cell? ⟨g1, 0, none⟩ = some (.slice sa na ca) := fun w' hb => (J1.keep hb).cell 0
                  have e1 : ∀ w', Below wr.heap.size wr w' → w'.cell? ⟨g1, 1, none⟩ = some (.slice sb nb cb) := fun w' hb => (J1.keep hb).cell 1
                  have e2 : ∀ w', Below wr.heap.size wr w' → w'.cell? ⟨g2, 0, none⟩ = some (.slice sc nc cc) := fun w' hb => (J2.keep hb).cell 0
                  have e3 : ∀ w', Below wr.heap.size wr w' → w'.cell? ⟨g2, 1, none⟩ = some (.slice sd nd cd) := fun w' hb => (J2.keep hb).cell 1
                  obtain ⟨st, hst⟩ : ∃ st, st = strN xt := ⟨_, rfl⟩
                  obtain ⟨su, hsu⟩ : ∃ su, su = strN xu := ⟨_, rfl⟩
                  have HSS : Hid ((st.toList == su.toList) = decide (xt = xu)) := by rw [hst, hsu]; exact str_same xt xu HLT.out HLU.out
                  have HB12 : Hid (∀ W, Below wr.heap.size wr W → Calls Tryd.prog 18 #[.agg #[.slice sa na ca, .slice sb nb cb]] W fun e w' => ∃ s m c, e = .returned (.slice s m c) ∧ (∀ w2, Below w'.heap.size w' w2 → (convert 33 9 (.slice s m c)).run Tryd.prog w2 = .ok (.string st) w2) ∧ Below W.heap.size W w') := fun W hb => by
                    refine (HBT.out W (below_step HWr.out HWr.out.size hb)).mono ?_
                    rintro e w' ⟨v', rfl, M, hb'⟩
                    have hbs := M.bs HLT.out
                    obtain ⟨s, c, rfl⟩ := M.slice
                    refine ⟨s, _, c, rfl, fun w2 h2 => ?_, hb'⟩
                    rw [hst]
                    exact conv_bs (hbs.keep h2 (Nat.le_refl _))
                  have HB13 : Hid (∀ W, Below wr.heap.size wr W → Calls Tryd.prog 18 #[.agg #[.slice sc nc cc, .slice sd nd cd]] W fun e w' => ∃ s m c, e = .returned (.slice s m c) ∧ (∀ w2, Below w'.heap.size w' w2 → (convert 33 9 (.slice s m c)).run Tryd.prog w2 = .ok (.string su) w2) ∧ Below W.heap.size W w') := fun W hb => by
                    refine (HBU.out W (below_step HWr.out HWr.out.size hb)).mono ?_
                    rintro e w' ⟨v', rfl, M, hb'⟩
                    have hbs := M.bs HLU.out
                    obtain ⟨s, c, rfl⟩ := M.slice
                    refine ⟨s, _, c, rfl, fun w2 h2 => ?_, hb'⟩
                    rw [hsu]
                    exact conv_bs (hbs.keep h2 (Nat.le_refl _))
                  clear HBT HBU hst hsu
                  refine region14 wr g1 g2 sa sb sc sd na ca nb cb nc cc nd cd st su J1 J2 HB12 HB13 (fun x97 x98 x99 x100 s6 m6 c6 s7 m7 c7 w8 hb8 hc6 hc7 => ?_)
                  have HWE := Lib.hid (below_step HWV.out HWV.out.size hb8)
                  have J1 := J1.keep hb8
                  have J2 := J2.keep hb8
                  clear e0 e1 e2 e3 hb8 HB12 HB13
                  have hss : (st.toList == su.toList) = true := by rw [HSS.out]; exact decide_eq_true HEQ.out
                  obtain ⟨oid, hoid⟩ : ∃ o, o = idv it := ⟨_, rfl⟩
                  have HI1 : Hid (∀ W, Below w8.heap.size w8 W → Calls Tryd.prog 19 #[.agg #[.slice sa na ca, .slice sb nb cb]] W fun e w' => e = .returned oid ∧ Below W.heap.size W w') := fun W hb => by
                    rw [hoid]
                    exact HIT.out W (below_step HWE.out HWE.out.size hb)
                  have HI2 : Hid (∀ W, Below w8.heap.size w8 W → Calls Tryd.prog 19 #[.agg #[.slice sc nc cc, .slice sd nd cd]] W fun e w' => e = .returned oid ∧ Below W.heap.size W w') := fun W hb => by
                    rw [hoid, HII.out HEQ.out]
                    exact HIU.out W (below_step HWE.out HWE.out.size hb)
                  have hgd : ∀ (a b : Operand) W, (eqGuard .eql 29 a b oid oid).run Tryd.prog W = .ok () W := fun a b W => by rw [hoid]; exact id_guard _ _ .eql a b W
                  have hbn : ∀ W, (binOp .eql 29 oid oid).run Tryd.prog W = .ok (.bool true) W := fun W => by
                    rw [hoid]
                    exact id_bin it HIL.out W
                  clear HIT HIU hoid
                  go_upto_region 15 with fail
                  refine region15T w8 g1 g2 m6 c6 m7 c7 s6 s7 st su hc6 hc7 sa sb sc sd na ca nb cb nc cc nd cd hss J1 J2 oid HI1 HI2 hgd hbn (fun x101 x102 x103 x104 x105 x106 x107 x108 x109 x110 x111 x112 x113 x114 x115 x116 x117 x118 w9 hb9 => ?_)
                  go_wp2_with fail
                  go_ret
                  exact ⟨rfl, below_step HWE.out HWE.out.size hb9⟩
    · have q1 : ((na : Int) == (nc : Int)) = true := by rw [hac]; simp
      have q2 : ((nb : Int) == (nd : Int)) = false := by simp; omega
      have HNE : Hid (¬ xt = xu) := fun h => hbd (HAQ.out.1 h).2.1
      clear hac hbd
      go_wp2_with fail
      go_loopw [5, 6] (fun al i wr => al = .bool false ∧ Hid (Below w.heap.size w wr) ∧ Bk wr g1 25 #[.slice sa na ca, .slice sb nb cb] ∧ Bk wr g2 25 #[.slice sc nc cc, .slice sd nd cd]) (fun _ _ _ => 0)
      case atStart => exact ⟨rfl, HW3.out, K1, K2⟩
      case round =>
        obtain ⟨rfl, HWr, J1, J2⟩ := hrel
        clear c0 c1 d0 d1 z1 z2 HW3 K1 K2
        generalize wr = wo at *
        go_wp2_with fail
        go_loopw [5, 7] (fun al i wr => al = .bool false ∧ Hid (Below w.heap.size w wr) ∧ Bk wr g1 25 #[.slice sa na ca, .slice sb nb cb] ∧ Bk wr g2 25 #[.slice sc nc cc, .slice sd nd cd]) (fun _ _ _ => 0)
        case atStart => exact ⟨rfl, HWr.out, J1, J2⟩
        case round =>
          obtain ⟨rfl, HWr, J1, J2⟩ := hrel
          go_wp2_with fail
          go_upto_region 14 with fail
          have HWV := HWr
          have e0 : ∀ w', Below wr.heap.size wr w' → w'.cell? ⟨g1, 0, none⟩ = some (.slice sa na ca) := fun w' hb => (J1.keep hb).cell 0
          have e1 : ∀ w', Below wr.heap.size wr w' → w'.cell? ⟨g1, 1, none⟩ = some (.slice sb nb cb) := fun w' hb => (J1.keep hb).cell 1
          have e2 : ∀ w', Below wr.heap.size wr w' → w'.cell? ⟨g2, 0, none⟩ = some (.slice sc nc cc) := fun w' hb => (J2.keep hb).cell 0
          have e3 : ∀ w', Below wr.heap.size wr w' → w'.cell? ⟨g2, 1, none⟩ = some (.slice sd nd cd) := fun w' hb => (J2.keep hb).cell 1
          obtain ⟨st, hst⟩ : ∃ st, st = strN xt := ⟨_, rfl⟩
          obtain ⟨su, hsu⟩ : ∃ su, su = strN xu := ⟨_, rfl⟩
          have HSS : Hid ((st.toList == su.toList) = decide (xt = xu)) := by rw [hst, hsu]; exact str_same xt xu HLT.out HLU.out
          have HB12 : Hid (∀ W, Below wr.heap.size wr W → Calls Tryd.prog 18 #[.agg #[.slice sa na ca, .slice sb nb cb]] W fun e w' => ∃ s m c, e = .returned (.slice s m c) ∧ (∀ w2, Below w'.heap.size w' w2 → (convert 33 9 (.slice s m c)).run Tryd.prog w2 = .ok (.string st) w2) ∧ Below W.heap.size W w') := fun W hb => by
            refine (HBT.out W (below_step HWr.out HWr.out.size hb)).mono ?_
            rintro e w' ⟨v', rfl, M, hb'⟩
            have hbs := M.bs HLT.out
            obtain ⟨s, c, rfl⟩ := M.slice
            refine ⟨s, _, c, rfl, fun w2 h2 => ?_, hb'⟩
            rw [hst]
            exact conv_bs (hbs.keep h2 (Nat.le_refl _))
          have HB13 : Hid (∀ W, Below wr.heap.size wr W → Calls Tryd.prog 18 #[.agg #[.slice sc nc cc, .slice sd nd cd]] W fun e w' => ∃ s m c, e = .returned (.slice s m c) ∧ (∀ w2, Below w'.heap.size w' w2 → (convert 33 9 (.slice s m c)).run Tryd.prog w2 = .ok (.string su) w2) ∧ Below W.heap.size W w') := fun W hb => by
            refine (HBU.out W (below_step HWr.out HWr.out.size hb)).mono ?_
            rintro e w' ⟨v', rfl, M, hb'⟩
            have hbs := M.bs HLU.out
            obtain ⟨s, c, rfl⟩ := M.slice
            refine ⟨s, _, c, rfl, fun w2 h2 => ?_, hb'⟩
            rw [hsu]
            exact conv_bs (hbs.keep h2 (Nat.le_refl _))
          clear HBT HBU hst hsu
          refine region14 wr g1 g2 sa sb sc sd na ca nb cb nc cc nd cd st su J1 J2 HB12 HB13 (fun x97 x98 x99 x100 s6 m6 c6 s7 m7 c7 w8 hb8 hc6 hc7 => ?_)
          have HWE := Lib.hid (below_step HWV.out HWV.out.size hb8)
          have J1 := J1.keep hb8
          have J2 := J2.keep hb8
          clear e0 e1 e2 e3 hb8 HB12 HB13
          have hss : (st.toList == su.toList) = false := by rw [HSS.out]; exact decide_eq_false HNE.out
          go_upto_region 15 with fail
          refine region15F w8 g1 g2 m6 c6 m7 c7 s6 s7 st su hc6 hc7 hss (fun x101 x102 x103 x104 x105 x106 x107 x108 x109 x110 x111 x112 x113 x114 x115 x116 x117 x118 => ?_)
          go_wp2_with fail
          go_ret
          exact ⟨rfl, HWE.out.drew⟩
  · have q1 : ((na : Int) == (nc : Int)) = false := by simp; omega
    have HNE : Hid (¬ xt = xu) := fun h => hac (HAQ.out.1 h).1
    clear hac
    go_wp2_with fail
    go_loopw [5, 6] (fun al i wr => al = .bool false ∧ Hid (Below w.heap.size w wr) ∧ Bk wr g1 25 #[.slice sa na ca, .slice sb nb cb] ∧ Bk wr g2 25 #[.slice sc nc cc, .slice sd nd cd]) (fun _ _ _ => 0)
    case atStart => exact ⟨rfl, HW3.out, K1, K2⟩
    case round =>
      obtain ⟨rfl, HWr, J1, J2⟩ := hrel
      clear c0 c1 d0 d1 z1 z2 HW3 K1 K2
      generalize wr = wo at *
      go_wp2_with fail
      go_loopw [5, 7] (fun al i wr => al = .bool false ∧ Hid (Below w.heap.size w wr) ∧ Bk wr g1 25 #[.slice sa na ca, .slice sb nb cb] ∧ Bk wr g2 25 #[.slice sc nc cc, .slice sd nd cd]) (fun _ _ _ => 0)
      case atStart => exact ⟨rfl, HWr.out, J1, J2⟩
      case round =>
        obtain ⟨rfl, HWr, J1, J2⟩ := hrel
        go_wp2_with fail
        go_upto_region 14 with fail
        have HWV := HWr
        have e0 : ∀ w', Below wr.heap.size wr w' → w'.cell? ⟨g1, 0, none⟩ = some (.slice sa na ca) := fun w' hb => (J1.keep hb).cell 0
        have e1 : ∀ w', Below wr.heap.size wr w' → w'.cell? ⟨g1, 1, none⟩ = some (.slice sb nb cb) := fun w' hb => (J1.keep hb).cell 1
        have e2 : ∀ w', Below wr.heap.size wr w' → w'.cell? ⟨g2, 0, none⟩ = some (.slice sc nc cc) := fun w' hb => (J2.keep hb).cell 0
        have e3 : ∀ w', Below wr.heap.size wr w' → w'.cell? ⟨g2, 1, none⟩ = some (.slice sd nd cd) := fun w' hb => (J2.keep hb).cell 1
        obtain ⟨st, hst⟩ : ∃ st, st = strN xt := ⟨_, rfl⟩
        obtain ⟨su, hsu⟩ : ∃ su, su = strN xu := ⟨_, rfl⟩
        have HSS : Hid ((st.toList == su.toList) = decide (xt = xu)) := by rw [hst, hsu]; exact str_same xt xu HLT.out HLU.out
        have HB12 : Hid (∀ W, Below wr.heap.size wr W → Calls Tryd.prog 18 #[.agg #[.slice sa na ca, .slice sb nb cb]] W fun e w' => ∃ s m c, e = .returned (.slice s m c) ∧ (∀ w2, Below w'.heap.size w' w2 → (convert 33 9 (.slice s m c)).run Tryd.prog w2 = .ok (.string st) w2) ∧ Below W.heap.size W w') := fun W hb => by
          refine (HBT.out W (below_step HWr.out HWr.out.size hb)).mono ?_
          rintro e w' ⟨v', rfl, M, hb'⟩
          have hbs := M.bs HLT.out
          obtain ⟨s, c, rfl⟩ := M.slice
          refine ⟨s, _, c, rfl, fun w2 h2 => ?_, hb'⟩
          rw [hst]
          exact conv_bs (hbs.keep h2 (Nat.le_refl _))
        have HB13 : Hid (∀ W, Below wr.heap.size wr W → Calls Tryd.prog 18 #[.agg #[.slice sc nc cc, .slice sd nd cd]] W fun e w' => ∃ s m c, e = .returned (.slice s m c) ∧ (∀ w2, Below w'.heap.size w' w2 → (convert 33 9 (.slice s m c)).run Tryd.prog w2 = .ok (.string su) w2) ∧ Below W.heap.size W w') := fun W hb => by
          refine (HBU.out W (below_step HWr.out HWr.out.size hb)).mono ?_
          rintro e w' ⟨v', rfl, M, hb'⟩
          have hbs := M.bs HLU.out
          obtain ⟨s, c, rfl⟩ := M.slice
          refine ⟨s, _, c, rfl, fun w2 h2 => ?_, hb'⟩
          rw [hsu]
          exact conv_bs (hbs.keep h2 (Nat.le_refl _))
        clear HBT HBU hst hsu
        refine region14 wr g1 g2 sa sb sc sd na ca nb cb nc cc nd cd st su J1 J2 HB12 HB13 (fun x97 x98 x99 x100 s6 m6 c6 s7 m7 c7 w8 hb8 hc6 hc7 => ?_)
        have HWE := Lib.hid (below_step HWV.out HWV.out.size hb8)
        have J1 := J1.keep hb8
        have J2 := J2.keep hb8
        clear e0 e1 e2 e3 hb8 HB12 HB13
        have hss : (st.toList == su.toList) = false := by rw [HSS.out]; exact decide_eq_false HNE.out
        go_upto_region 15 with fail
        refine region15F w8 g1 g2 m6 c6 m7 c7 s6 s7 st su hc6 hc7 hss (fun x101 x102 x103 x104 x105 x106 x107 x108 x109 x110 x111 x112 x113 x114 x115 x116 x117 x118 => ?_)
        go_wp2_with fail
        go_ret
        exact ⟨rfl, HWE.out.drew⟩

/-- The door's own heap meets the condition. -/
theorem door_met (os : Os) (args : Array Value) : laidMetH Tryd.prog laidL ((World.doorLaid Tryd.prog 19 os).forCall (fun _ _ => 0) ⟨#[], args, []⟩).memory :=
  laidMetH_of_parts3 (fuel := 8) (laidMet_of_run' 8 (by kernel_rfl) (by kernel_rfl)) (by kernel_rfl) (by kernel_rfl)

set_option maxRecDepth 100000 in
theorem lifted (os : Os) (started : os.Started) (H : Type) (enc : TypeId × Value → H) :
    ReturnsInHanded {} Tryd.checked os 3 .any (fun w args => (Rows.txApartSpec.pre enc Tryd.prog Tryd.f3 [] false w args ∧ laidMetH Tryd.prog laidL w) ∧ sizedMet enc Tryd.prog Tryd.f3 (OpenSpec.ofChange Rows.txApartSpec) false w args)
      (Rows.txApartSpec.post enc Tryd.prog Tryd.f3 false true false false) := by
  refine returnsInHanded_of_change_and (C := Tryd.checked) (X := fun w _ => laidMetH Tryd.prog laidL w) (fun _ _ _ hh h => h.of_heap hh) own started (by kernel_rfl) Tryd.func3
    (ChangeSpec.witness_shaped (enc := enc) (C := Tryd.checked) (os := os) (X := fun w _ => laidMetH Tryd.prog laidL w) false (World.doorLaid Tryd.prog 19 os) #[.agg #[.slice none 0 0, .slice none 0 0], .agg #[.slice none 0 0, .slice none 0 0]] 8 rfl (World.shaped_of_RefB (by kernel_rfl) (by kernel_rfl)) (by kernel_rfl) (by kernel_rfl) (by kernel_rfl) (door_met os _)) ?_
  intro W base args ds gs before hval0 hW _ _ hL _
  have hval : ∀ (j : Nat) t v, Tryd.f3.params[j]? = some t → args[j]? = some v → Value.okWide Tryd.prog W .any base t v := hval0
  have hW' := hW
  obtain ⟨p, q, hA0, hV, rfl, hfz, hnd⟩ := hW
  have hA : DataW.TrodAll enc Tryd.prog W 0 (fun _ => true) true Tryd.f3.params.toList args.toList ds p := hA0
  rw [Tryd.params3] at hA hval
  obtain ⟨v0, vs0, d0, ds0, p0, q0, hargs, rfl, rfl, h0, r0⟩ := trodAll_cons hA
  obtain ⟨v1, vs1, d1, ds1, p1, q1, rfl, rfl, rfl, h1, r1⟩ := trodAll_cons r0
  obtain ⟨rfl, rfl, rfl⟩ := trodAll_nil r1
  obtain rfl : args = #[v0, v1] := by cases args; simp_all
  obtain ⟨rfl, rfl⟩ := trodVars_none hV
  have lt0 : ∀ x ∈ p0, x.block < W.heap.size := by obtain ⟨m, hm⟩ := h0; exact DataW.trod_lt m _ _ _ hm
  have lt1 : ∀ x ∈ p1, x.block < W.heap.size := by obtain ⟨m, hm⟩ := h1; exact DataW.trod_lt m _ _ _ hm
  obtain ⟨x0, hb0, rfl⟩ := tx_arg (hval 0 25 v0 rfl rfl) h0
  obtain ⟨x1, hb1, rfl⟩ := tx_arg (hval 1 25 v1 rfl rfl) h1
  have hwalk := walk x0 x1 W (of_laid hL) hb0 hb1
  clear hA0 hval0
  refine hwalk.mono fun e W' ⟨he, bel⟩ => ?_
  subst he
  exact ⟨_, rfl, _, _, _, [], _, [], hW', trodAll_mk1 (shut_bool Tryd.underlying4 _), (trodAll_cons_mk (Below.trod laidOut (by kernel_rfl) (of_decide_eq_true (by kernel_rfl)) h0 bel lt0) (trodAll_cons_mk (Below.trod laidOut (by kernel_rfl) (of_decide_eq_true (by kernel_rfl)) h1 bel lt1) trodAll_mk0)), rfl, bel.frame _, fun h => by cases h⟩

theorem over : Rows.TxApartSaid :=
  OpenClaim.holds_of_wide 3 Tryd.f3 rfl rfl rfl rfl rfl rfl rfl ⟨rfl, rfl, rfl, rfl, rfl⟩ rfl rfl rfl rfl rfl (by kernel_rfl) Tryd.func3 (by kernel_rfl)
    (of_decide_eq_true (by kernel_rfl)) (by unfold Func.isWrapper; first | (rw [if_pos (by decide +kernel)]; kernel_rfl) | (rw [if_neg (by decide +kernel)]; exact ⟨rfl, rfl⟩))
    (fun os started H enc _ => lifted os started H enc)

theorem proved : Rows.TxApartCardSaid :=
  Claim7.holds_tied_plain_at .later [] [.data, .data] true Rows.txApartCard.stood.harness false
    over (fun _ h => by cases h) (by kernel_rfl) (fun _ h => by cases h) txApart_row_tie rfl ⟨rfl, rfl⟩ (by kernel_rfl) rfl
    (fun f fn hf hfn => by
      obtain rfl : f = 3 := Option.some.inj ((show Tryd.prog.funcNamed "tallystick/tallysticklaw07.TxApart" = some 3 by kernel_rfl).symm.trans hf) |>.symm
      obtain rfl : fn = Tryd.f3 := (Option.some.inj (Tryd.func3.symm.trans hfn)).symm
      exact ⟨by kernel_rfl, fun j t ht => by
        rw [Tryd.params3] at ht
        have hm : t ∈ [25, 25] := by simpa using Array.mem_of_getElem? ht
        have hall : ([25, 25].all fun u => !Tryd.prog.wantsStandIn u) = true := by kernel_rfl
        exact (show Tryd.prog.wantsStandIn t = false by simpa using List.all_eq_true.1 hall t hm)⟩)
    (by kernel_rfl)
#print axioms proved
end Go.Proofs.YtokiinpegclffaaDoor.txApart
