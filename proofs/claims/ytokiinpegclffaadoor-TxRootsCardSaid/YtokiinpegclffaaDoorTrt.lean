/-
  The document's name of a transaction, and the root of many.
-/
import Derived.Test.YtokiinpegclffaaDoorTxZ
import Derived.Test.YtokiinpegclffaaDoorRefU
import Derived.Test.YtokiinpegclffaaDoorMroW
namespace Go.Proofs.YtokiinpegclffaaDoor
open Go.RowKit Go.Proofs.YtokiinpegclffaaDoor.merkleRoots
set_option linter.unusedVariables false
set_option linter.unusedSimpArgs false
set_option maxRecDepth 100000

set_option maxHeartbeats 4000000 in
theorem r7id_any (t : TxM) (w : World) (hT : TxV w w.heap.size t) (hF : TxFit t) :
    Calls Tryd.prog 60 #[.agg #[t.iv, t.ov]] w fun e w' => e = .returned (.agg (idA (tID t))) ∧ Below w.heap.size w w' := by
  have HBY : Hid (∀ W, Below w.heap.size w W → Calls Tryd.prog 23 #[.agg #[t.iv, t.ov]] W fun e w' => e = .returned (.string (strN (txB t))) ∧ Below W.heap.size W w') := fun W h => r7bytes_any t W ((hT.keep h (Nat.le_refl _)).mono h.size) hF
  have HTW : Hid (∀ W, Calls Tryd.prog 86 #[.string (strN (txB t))] W fun e w' => e = .returned (.agg (idA (tID t))) ∧ Below W.heap.size W w') := fun W => rtwice_any (txB t) W hT.lt (by have := txB_len t hF; omega)
  have HQ := Lib.hid (tID_is t)
  obtain ⟨q, hq⟩ : ∃ q, q = tID t := ⟨_, rfl⟩
  obtain ⟨st, hst⟩ : ∃ s, s = strN (txB t) := ⟨_, rfl⟩
  rw [← hq] at HTW HQ ⊢
  rw [← hst] at HTW HBY
  obtain ⟨a, ha⟩ : ∃ a, a = t.iv := ⟨_, rfl⟩
  obtain ⟨b, hb⟩ : ∃ b, b = t.ov := ⟨_, rfl⟩
  rw [← ha, ← hb] at HBY ⊢
  obtain ⟨sa, na, ca, ea⟩ : ∃ s n c, a = .slice s n c := ⟨_, _, _, ha⟩
  obtain ⟨sb, nb, cb, eb⟩ : ∃ s n c, b = .slice s n c := ⟨_, _, _, hb⟩
  subst ea
  subst eb
  clear hT hF hq hst ha hb
  go_enter Tryd.func60, Tryd.ntmps60
  go_upto_region 1 with fail
  refine wp_any (fun W => Below w.heap.size w W ∧ Bk W w.heap.size 25 #[.slice sa na ca, .slice sb nb cb] ∧ Bk W (w.heap.size + 1) 28 (idA (zeros 32))) ⟨((Below.refl _ _).alloc (Nat.le_refl _) _).alloc (by simp) _, (Bk.new _ _ _).alloc _, Bk.new' _ _ _ (by simp)⟩ ?_
  obtain ⟨g1, hg1⟩ : ∃ g, g = w.heap.size := ⟨_, rfl⟩
  have HG := Lib.hid hg1
  rw [← hg1]
  obtain ⟨g2, hg2⟩ : ∃ g, g = g1 + 1 := ⟨_, rfl⟩
  have HLE : Hid (w.heap.size ≤ g2) := by show _ ≤ _; omega
  rw [← hg2]
  clear hg1 hg2
  rintro W ⟨hW, K1, K2⟩
  have HW : Hid (Below w.heap.size w W) := by rw [← HG.out]; exact hW
  have c0 := K1.cell 0
  have c1 := K1.cell 1
  have z1 := K1.lt
  clear hW
  go_wp2_with fail
  refine (HBY.out W HW.out).mono ?_
  rintro e W1 ⟨rfl, hb1⟩
  replace K2 := K2.keep hb1
  have HW1 := Lib.hid (below_step HW.out HW.out.size hb1)
  clear hb1 HW c0 c1 z1 K1 HBY
  go_wp2_with fail
  refine (HTW.out W1).mono ?_
  rintro e W2 ⟨rfl, hb2⟩
  replace K2 := K2.keep hb2
  have HW2 := Lib.hid (below_step HW1.out HW1.out.size hb2)
  clear hb2 HW1 HTW
  go_wp2_with (refine wpList_store_mid rfl 28 (.tmp 2) (.tmp 5) rfl g2 0 (idA q) rfl rfl (by rw [idA_size, HQ.out.1]; exact K2.there 32 (by rw [idA_size]; decide)) (by rw [idA_size, HQ.out.1]; exact r_info) (id_ones _) ?_)
  exact r_ret (g := g2) HQ.out.1 rfl rfl rfl (K2.setAll (by rw [idA_size, idA_size, HQ.out.1]; rfl)) (Below.setCells HLE.out _ _ _ HW2.out)
set_option maxHeartbeats 8000000 in
theorem r7root_any (s0 : Option Addr) (n c : Nat) (L : List TxM) (w : World) (hL : RowV txR w w.heap.size (.slice s0 n c) L) (hn : n = L.length) (hT : ∀ t ∈ L, TxV w w.heap.size t ∧ TxFit t) (h6 : n ≤ 6) :
    Calls Tryd.prog 26 #[.slice s0 n c] w fun e w' => e = .returned (.tuple #[.agg (idA (rootV (L.map tID)).1), .bool (rootV (L.map tID)).2]) ∧ Below w.heap.size w w' := by
  have HL := Lib.hid hL
  have HT := Lib.hid hT
  have HN := Lib.hid hn
  have HRT : Hid (∀ W v, IdsV W W.heap.size v (L.map tID) → Calls Tryd.prog 61 #[v] W fun e w' => e = .returned (.tuple #[.agg (idA (rootV (L.map tID)).1), .bool (rootV (L.map tID)).2]) ∧ Below W.heap.size W w') := fun W v h2 => rroot_any v _ W h2 (by rw [List.length_map]; omega)
  have HRL := Lib.hid (rootV_id (L.map tID) (tIDs_is L)).1
  obtain ⟨R0, hR0⟩ : ∃ R0, R0 = (rootV (L.map tID)).1 := ⟨_, rfl⟩
  obtain ⟨b0, hb0⟩ : ∃ b0, b0 = (rootV (L.map tID)).2 := ⟨_, rfl⟩
  rw [← hR0, ← hb0] at HRT ⊢
  rw [← hR0] at HRL
  clear hL hT hn hR0 hb0
  go_enter Tryd.func26, Tryd.ntmps26
  go_upto_region 1 with fail
  refine wp_any (fun W => Below w.heap.size w W ∧ Bk W w.heap.size 28 (idA (zeros 32))) ⟨(Below.refl _ _).alloc (Nat.le_refl _) _, Bk.new _ _ _⟩ ?_
  obtain ⟨g2, hg2⟩ : ∃ g2, g2 = w.heap.size := ⟨_, rfl⟩
  have HG := Lib.hid hg2
  rw [← hg2]
  rintro W ⟨hW, K2⟩
  have HW : Hid (Below w.heap.size w W) := by rw [hg2] at hW; exact hW
  have HGL := Lib.hid K2.lt
  clear hW hg2
  go_wp2_with fail
  go_loopw [4, 5] (fun ids i wr => ∃ k : Nat, k ≤ n ∧ i = .int .i64 k ∧ Hid (Below w.heap.size w wr) ∧ Bk wr g2 28 (idA (zeros 32)) ∧ Hid (raw.MineI wr (g2 + 1) ids ((L.take k).map tID)) ∧ Hid (g2 < wr.heap.size)) (fun _ i _ => n - (intOf i).toNat)
  case atStart => exact ⟨0, Nat.zero_le _, rfl, HW.out, K2, .inl ⟨rfl, rfl⟩, HGL.out⟩
  case round =>
    obtain ⟨k, hk, rfl, HWr, Kr, HM, HGr⟩ := hrel
    clear K2 HW
    by_cases hlt : k < n
    · obtain ⟨t, b, o, hkt, rfl, hbw, hrg⟩ := row_at HL.out k (by have := HN.out; omega)
      have j1 : decide ((k : Int) < (n : Int)) = true := decide_eq_true (by omega)
      have j2 : (k : Int) < (n : Int) := by omega
      have hTT := HT.out t (List.mem_of_getElem? hkt)
      replace hrg := rr_below hrg HWr.out hbw
      change wr.rangeAt b (o + k * 2) [t.iv, t.ov] at hrg
      have c0_ : wr.cell? ⟨b, o + k * 2, none⟩ = some t.iv := hrg 0 _ rfl
      have c1_ : wr.cell? ⟨b, o + k * 2 + 1, none⟩ = some t.ov := hrg 1 _ rfl
      have hbr : b < wr.heap.size := Nat.lt_of_lt_of_le hbw HWr.out.size
      have HST := Lib.hid (tIDs_take L k t hkt)
      have HTK : Hid (((L.take k).map tID).length ≤ 1000) := by
        show _ ≤ _
        rw [List.length_map, List.length_take]
        omega
      have HIS := Lib.hid (tIDs_is (L.take k))
      obtain ⟨P, hP⟩ : ∃ P, P = (L.take k).map tID := ⟨_, rfl⟩
      rw [← hP] at HM HST HTK HIS
      have HID : Hid (Calls Tryd.prog 60 #[.agg #[t.iv, t.ov]] wr fun e w' => e = .returned (.agg (idA (tID t))) ∧ Below wr.heap.size wr w') := r7id_any t wr ((hTT.1.keep HWr.out (Nat.le_refl _)).mono HWr.out.size) hTT.2
      have HQ := Lib.hid (tID_is t)
      obtain ⟨q, hq⟩ : ∃ q, q = tID t := ⟨_, rfl⟩
      rw [← hq] at HID HQ HST
      obtain ⟨a, ha⟩ : ∃ a, a = t.iv := ⟨_, rfl⟩
      obtain ⟨b', hb'⟩ : ∃ b, b = t.ov := ⟨_, rfl⟩
      rw [← ha, ← hb'] at HID
      rw [← ha] at c0_
      rw [← hb'] at c1_
      obtain ⟨sa, na, ca, ea⟩ : ∃ s n c, a = .slice s n c := ⟨_, _, _, ha⟩
      obtain ⟨sb, nb, cb, eb⟩ : ∃ s n c, b' = .slice s n c := ⟨_, _, _, hb'⟩
      subst ea
      subst eb
      obtain ⟨sp, cp, ep⟩ := HM.out.slice
      obtain ⟨lp, hlp⟩ : ∃ lp, lp = P.length := ⟨_, rfl⟩
      rw [← hlp] at ep
      subst ep
      clear hrg hTT hkt hP hq ha hb' hlp
      go_wp2_with fail
      refine HID.out.mono ?_
      rintro e W2 ⟨rfl, hb2⟩
      have hA2 : Below W2.heap.size W2 (W2.alloc (.cells (idA q) 28)) := (Below.refl _ _).alloc (Nat.le_refl _) _
      have hg2W : g2 < W2.heap.size := Nat.lt_of_lt_of_le HGr.out hb2.size
      obtain ⟨v3, W3, hrun, M3, hb3⟩ := raw.appI P [q] (.slice sp lp cp) (.slice (some ⟨W2.heap.size, 0, none⟩) 1 1) (g2 + 1) (W2.alloc (.cells (idA q) 28)) ((HM.out.keep hb2).keep hA2) HIS.out (by simp; omega) (one_row (t := 28) (Bk.new _ _ _) HQ.out) (by have := HTK.out; simp; omega)
      rw [← HST.out] at M3
      have hW3 : Below w.heap.size w W3 := by
        have h1 := (below_step HWr.out HWr.out.size hb2).trans (hA2.mono (Nat.le_trans HWr.out.size hb2.size))
        exact h1.trans (hb3.mono (by rw [HG.out]; omega))
      have K3 := ((Kr.keep hb2).keep hA2).below hb3 (by omega)
      have HW3 := Lib.hid hW3
      have HM3 := Lib.hid M3
      have HG3 : Hid (g2 < W3.heap.size) := K3.lt
      clear hA2 hb2 hb3 hW3 M3 Kr HM HID hg2W HGr HWr c0_ c1_ hbr
      go_wp2_with (first | (refine raw.wpList_bsI1 rfl (.tmp 17) rfl q HQ.out rfl ?_) | (at_builtin; refine raw.wpList_appI (v1 := .slice sp lp cp) (v2 := .slice (some ⟨W2.heap.size, 0, none⟩) 1 1) (v := v3) rfl (.tmp 12) (.tmp 18) rfl rfl rfl rfl hrun ?_))
      clear hrun
      go_roundw
      case rel => exact ⟨k + 1, by omega, by go_num, HW3.out, K3, HM3.out, HG3.out⟩
      case measure => simp [intOf]; omega
    · obtain rfl : k = n := by omega
      have j1 : decide ((k : Int) < (k : Int)) = false := decide_eq_false (by omega)
      rw [HN.out, List.take_length] at HM
      obtain ⟨sp, cp, ep⟩ := HM.out.slice
      rw [List.length_map, ← HN.out] at ep
      subst ep
      have HC := Lib.hid (HRT.out wr (.slice sp k cp) (HM.out.ids (tIDs_is L)))
      clear hlt HM HRT
      go_wp2_with fail
      refine HC.out.mono ?_
      rintro e W4 ⟨rfl, hb4⟩
      have K4 := Kr.keep hb4
      have HW4 := Lib.hid (below_step HWr.out HWr.out.size hb4)
      clear hb4 HC Kr
      go_wp2_with (refine wpList_store_mid rfl 28 (.tmp 2) (.tmp 22) rfl g2 0 (idA R0) rfl rfl (by rw [idA_size, HRL.out]; exact K4.there 32 (by rw [idA_size]; decide)) (by rw [idA_size, HRL.out]; exact r_info) (id_ones _) ?_)
      exact r_ret2 (g := g2) HRL.out rfl rfl rfl rfl (K4.setAll (by rw [idA_size, idA_size, HRL.out]; rfl)) (Below.setCells (by rw [HG.out]; exact Nat.le_refl _) _ _ _ HW4.out)
end Go.Proofs.YtokiinpegclffaaDoor
