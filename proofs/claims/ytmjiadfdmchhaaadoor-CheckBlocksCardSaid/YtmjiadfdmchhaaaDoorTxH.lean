/-
  The contract of package tx's Root.
-/
import Derived.Test.YtmjiadfdmchhaaaDoorTxG
import Derived.Test.YtmjiadfdmchhaaaDoorMerZ
namespace Go.Proofs.YtmjiadfdmchhaaaDoor
open Go.RowKit
set_option linter.unusedVariables false
set_option linter.unusedSimpArgs false
set_option maxRecDepth 100000

theorem tID_is (t : TxM) : IsId (tID t) := ⟨tID_length t, tID_lt t⟩
theorem tIDs_is (L : List TxM) : IsIds (L.map tID) := fun x hx => by
  obtain ⟨t, _, rfl⟩ := List.mem_map.1 hx
  exact tID_is t
theorem tIDs_take (L : List TxM) (k : Nat) (t : TxM) (h : L[k]? = some t) : (L.take (k + 1)).map tID = (L.take k).map tID ++ [tID t] := by
  rw [List.take_add_one, h, List.map_append]
  rfl
set_option maxHeartbeats 8000000 in
theorem troot_any (s0 : Option Addr) (n c : Nat) (L : List TxM) (w : World) (hL : RowV txR w w.heap.size (.slice s0 n c) L) (hn : n = L.length) (hT : ∀ t ∈ L, TxV w w.heap.size t ∧ TxFit t) (hLd : Laid w) (h40 : n ≤ 1000) :
    Calls Tryd.prog 8 #[.slice s0 n c] w fun e w' => e = .returned (.tuple #[idv (rootV (L.map tID)).1, .bool (rootV (L.map tID)).2]) ∧ Below w.heap.size w w' := by
  have HL := Lib.hid hL
  have HT := Lib.hid hT
  have HN := Lib.hid hn
  have HLD := Lib.hid hLd
  have HRT : Hid (∀ W v, Laid W → IdsV W W.heap.size v (L.map tID) → Calls Tryd.prog 7 #[v] W fun e w' => e = .returned (.tuple #[.agg (idA (rootV (L.map tID)).1), .bool (rootV (L.map tID)).2]) ∧ Below W.heap.size W w') := fun W v h1 h2 => root_any v _ W h1 h2 (by rw [List.length_map]; omega)
  have HRL := Lib.hid (rootV_id (L.map tID) (tIDs_is L)).1
  show Calls Tryd.prog _ _ w fun e w' => e = .returned (.tuple #[.agg (idA (rootV (L.map tID)).1), .bool (rootV (L.map tID)).2]) ∧ Below w.heap.size w w'
  obtain ⟨R0, hR0⟩ : ∃ R0, R0 = (rootV (L.map tID)).1 := ⟨_, rfl⟩
  obtain ⟨b0, hb0⟩ : ∃ b0, b0 = (rootV (L.map tID)).2 := ⟨_, rfl⟩
  rw [← hR0, ← hb0] at HRT ⊢
  rw [← hR0] at HRL
  clear hL hT hn hLd hR0 hb0
  go_enter Tryd.func8, Tryd.ntmps8
  go_upto_region 2 with fail
  refine wp_any (fun W => Below w.heap.size w W ∧ Bk W w.heap.size 23 (idA (zeros 32))) ⟨(Below.refl _ _).alloc (Nat.le_refl _) _, Bk.new _ _ _⟩ ?_
  obtain ⟨g2, hg2⟩ : ∃ g2, g2 = w.heap.size := ⟨_, rfl⟩
  have HG := Lib.hid hg2
  rw [← hg2]
  rintro W ⟨hW, K2⟩
  have HW : Hid (Below w.heap.size w W) := by rw [hg2] at hW; exact hW
  have HGL := Lib.hid K2.lt
  clear hW hg2
  go_wp2_with fail
  go_loopw [4, 9] (fun ids i wr => ∃ k : Nat, k ≤ n ∧ i = .int .i64 k ∧ Hid (Below w.heap.size w wr) ∧ Bk wr g2 23 (idA (zeros 32)) ∧ Hid (MineI wr (g2 + 1) ids ((L.take k).map tID)) ∧ Hid (g2 < wr.heap.size)) (fun _ i _ => n - (intOf i).toNat)
  case atStart => exact ⟨0, Nat.zero_le _, rfl, HW.out, K2, .inl ⟨rfl, rfl⟩, HGL.out⟩
  case round =>
    obtain ⟨k, hk, rfl, HWr, Kr, HM, HGr⟩ := hrel
    clear K2 HW
    by_cases hlt : k < n
    · obtain ⟨t, b, o, hkt, rfl, hbw, hrg⟩ := row_at HL.out k (by have := HN.out; omega)
      have j1 : decide ((k : Int) < (n : Int)) = true := decide_eq_true (by omega)
      have hTT := HT.out t (List.mem_of_getElem? hkt)
      replace hrg := rr_below hrg HWr.out hbw
      change wr.rangeAt b (o + k * 2) [t.iv, t.ov] at hrg
      have c0_ : wr.cell? ⟨b, o + k * 2, none⟩ = some t.iv := hrg 0 _ rfl
      have c1_ : wr.cell? ⟨b, o + k * 2 + 1, none⟩ = some t.ov := hrg 1 _ rfl
      have hbr : b < wr.heap.size := Nat.lt_of_lt_of_le hbw HWr.out.size
      have HST := Lib.hid (tIDs_take L k t hkt)
      have HTK : Hid (((L.take k).map tID).length ≤ 1000) := by
        show _ ≤ _
        rw [List.length_map, List.length_take]
        omega
      have HIS := Lib.hid (tIDs_is (L.take k))
      obtain ⟨P, hP⟩ : ∃ P, P = (L.take k).map tID := ⟨_, rfl⟩
      rw [← hP] at HM HST HTK HIS
      have HID : Hid (∀ W, TxV W W.heap.size t → Laid W → Calls Tryd.prog 23 #[.agg #[t.iv, t.ov]] W fun e w' => e = .returned (.agg (idA (tID t))) ∧ Below W.heap.size W w') := fun W h1 h2 => tid_any t W h1 hTT.2 h2
      have HQ := Lib.hid (tID_is t)
      have HTV := Lib.hid hTT.1
      obtain ⟨q, hq⟩ : ∃ q, q = tID t := ⟨_, rfl⟩
      rw [← hq] at HID HQ HST
      obtain ⟨a, ha⟩ : ∃ a, a = t.iv := ⟨_, rfl⟩
      obtain ⟨b', hb'⟩ : ∃ b, b = t.ov := ⟨_, rfl⟩
      rw [← ha, ← hb'] at HID
      rw [← ha] at c0_
      rw [← hb'] at c1_
      obtain ⟨sa, na, ca, ea⟩ : ∃ s n c, a = .slice s n c := ⟨_, _, _, ha⟩
      obtain ⟨sb, nb, cb, eb⟩ : ∃ s n c, b' = .slice s n c := ⟨_, _, _, hb'⟩
      subst ea
      subst eb
      obtain ⟨sp, cp, ep⟩ := HM.out.slice
      obtain ⟨lp, hlp⟩ : ∃ lp, lp = P.length := ⟨_, rfl⟩
      rw [← hlp] at ep
      subst ep
      clear hrg hTT hkt hP hq ha hb' hlp
      go_upto_region 5 with fail
      have hA : Below wr.heap.size wr (wr.alloc (.cells #[.slice sa na ca, .slice sb nb cb] 28)) := (Below.refl _ _).alloc (Nat.le_refl _) _
      refine wp_any (fun W => Below w.heap.size w W ∧ Bk W g2 23 (idA (zeros 32)) ∧ Bk W wr.heap.size 28 #[.slice sa na ca, .slice sb nb cb] ∧ g2 < W.heap.size ∧ MineI W (g2 + 1) (.slice sp lp cp) P) ⟨below_step HWr.out HWr.out.size hA, Kr.keep hA, Bk.new _ _ _, by have := HGr.out; simp; omega, HM.out.keep hA⟩ ?_
      clear hA Kr HM HWr HGr c0_ c1_ hbr
      generalize wr.heap.size = g6 at *
      rintro W ⟨hW, K2, K6, hgW, M⟩
      have HW := Lib.hid hW
      have HTW := Lib.hid ((HTV.out.keep hW (Nat.le_refl _)).mono hW.size)
      have HLW := Lib.hid (HLD.out.below hW HLD.out.size)
      have HM := Lib.hid M
      have c0 := K6.cell 0
      have c1 := K6.cell 1
      have z6 := K6.lt
      clear hW M K6
      go_wp2_with fail
      refine (HID.out W HTW.out HLW.out).mono ?_
      rintro e W2 ⟨rfl, hb2⟩
      have hA2 : Below W2.heap.size W2 (W2.alloc (.cells (idA q) 23)) := (Below.refl _ _).alloc (Nat.le_refl _) _
      have hg2W : g2 < W2.heap.size := Nat.lt_of_lt_of_le hgW hb2.size
      obtain ⟨v3, W3, hrun, M3, hb3⟩ := appI P [q] (.slice sp lp cp) (.slice (some ⟨W2.heap.size, 0, none⟩) 1 1) (g2 + 1) (W2.alloc (.cells (idA q) 23)) ((HM.out.keep hb2).keep hA2) HIS.out (by simp; omega) (one_row (Bk.new _ _ _) HQ.out) (by have := HTK.out; simp; omega)
      rw [← HST.out] at M3
      have hW3 : Below w.heap.size w W3 := by
        have h1 := (below_step HW.out HW.out.size hb2).trans (hA2.mono (Nat.le_trans HW.out.size hb2.size))
        exact h1.trans (hb3.mono (by rw [HG.out]; omega))
      have K3 := ((K2.keep hb2).keep hA2).below hb3 (by omega)
      have HW3 := Lib.hid hW3
      have HM3 := Lib.hid M3
      have HG3 : Hid (g2 < W3.heap.size) := K3.lt
      clear hA2 hb2 hb3 hW3 M3 K2 HM HID hg2W hgW c0 c1 z6
      go_upto_region 6 with (first | (refine wpList_bsI1 rfl (.tmp 15) rfl q HQ.out rfl ?_) | (at_builtin; refine wpList_appI (v1 := .slice sp lp cp) (v2 := .slice (some ⟨W2.heap.size, 0, none⟩) 1 1) (v := v3) rfl (.tmp 13) (.tmp 16) rfl rfl rfl rfl hrun ?_))
      clear hrun
      go_wp2_with fail
      go_roundw
      case rel => exact ⟨k + 1, by omega, by go_num, HW3.out, K3, HM3.out, HG3.out⟩
      case measure => simp [intOf]; omega
    · obtain rfl : k = n := by omega
      have j1 : decide ((k : Int) < (k : Int)) = false := decide_eq_false (by omega)
      rw [HN.out, List.take_length] at HM
      obtain ⟨sp, cp, ep⟩ := HM.out.slice
      rw [List.length_map, ← HN.out] at ep
      subst ep
      have HC := Lib.hid (HRT.out wr (.slice sp k cp) (HLD.out.below HWr.out HLD.out.size) (HM.out.ids (tIDs_is L)))
      clear hlt HM HRT
      go_wp2_with fail
      refine HC.out.mono ?_
      rintro e W4 ⟨rfl, hb4⟩
      have K4 := Kr.keep hb4
      have HW4 := Lib.hid (below_step HWr.out HWr.out.size hb4)
      clear hb4 HC Kr
      go_wp2_with (refine wpList_store_mid rfl 23 (.tmp 2) (.tmp 21) rfl g2 0 (idA R0) rfl rfl (by rw [idA_size, HRL.out]; exact K4.there 32 (by rw [idA_size]; decide)) (by rw [idA_size, HRL.out]; exact id_info') (id_ones _) ?_)
      exact id_ret2 (g := g2) HRL.out rfl rfl rfl rfl (K4.setAll (by rw [idA_size, idA_size, HRL.out]; rfl)) (Below.setCells (by rw [HG.out]; exact Nat.le_refl _) _ _ _ HW4.out)
end Go.Proofs.YtmjiadfdmchhaaaDoor
