/-
  Texts in one: Trt, He5A, Tbl, RkC.
-/
import Derived.Test.YtmjiadfdmchhaaaDoorTkP
import Derived.Test.YtmjiadfdmchhaaaDoorTxH
import Derived.Test.YtmjiadfdmchhaaaDoorRefU
import Derived.Test.YtmjiadfdmchhaaaDoorMroZ
import Derived.Test.YtmjiadfdmchhaaaDoorHeaZ
import Derived.Test.YtmjiadfdmchhaaaDoorRefY
import Derived.Deep.RegionHeld
import Derived.Test.YtmjiadfdmchhaaaDoorBlkP
import Derived.Test.YtmjiadfdmchhaaaDoorRkB
namespace Go.Proofs.YtmjiadfdmchhaaaDoor
open Go.RowKit Go.Proofs.YtmjiadfdmchhaaaDoor.merkleRoots
set_option linter.unusedVariables false
set_option linter.unusedSimpArgs false
set_option maxRecDepth 100000

set_option maxHeartbeats 4000000 in
theorem r7id_any (t : TxM) (w : World) (hT : TxV w w.heap.size t) (hF : TxFit t) :
    Calls Tryd.prog 27 #[.agg #[t.iv, t.ov]] w fun e w' => e = .returned (.agg (idA (tID t))) ∧ Below w.heap.size w w' := by
  have HBY : Hid (∀ W, Below w.heap.size w W → Calls Tryd.prog 46 #[.agg #[t.iv, t.ov]] W fun e w' => e = .returned (.string (strN (txB t))) ∧ Below W.heap.size W w') := fun W h => r7bytes_any t W ((hT.keep h (Nat.le_refl _)).mono h.size) hF
  have HTW : Hid (∀ W, Calls Tryd.prog 45 #[.string (strN (txB t))] W fun e w' => e = .returned (.agg (idA (tID t))) ∧ Below W.heap.size W w') := fun W => rtwice_any (txB t) W hT.lt (by have := txB_len t hF; omega)
  have HQ := Lib.hid (tID_is t)
  obtain ⟨q, hq⟩ : ∃ q, q = tID t := ⟨_, rfl⟩
  obtain ⟨st, hst⟩ : ∃ s, s = strN (txB t) := ⟨_, rfl⟩
  rw [← hq] at HTW HQ ⊢
  rw [← hst] at HTW HBY
  obtain ⟨a, ha⟩ : ∃ a, a = t.iv := ⟨_, rfl⟩
  obtain ⟨b, hb⟩ : ∃ b, b = t.ov := ⟨_, rfl⟩
  rw [← ha, ← hb] at HBY ⊢
  obtain ⟨sa, na, ca, ea⟩ : ∃ s n c, a = .slice s n c := ⟨_, _, _, ha⟩
  obtain ⟨sb, nb, cb, eb⟩ : ∃ s n c, b = .slice s n c := ⟨_, _, _, hb⟩
  subst ea
  subst eb
  clear hT hF hq hst ha hb
  go_enter Tryd.func27, Tryd.ntmps27
  go_upto_region 1 with fail
  refine wp_any (fun W => Below w.heap.size w W ∧ Bk W w.heap.size 28 #[.slice sa na ca, .slice sb nb cb] ∧ Bk W (w.heap.size + 1) 22 (idA (zeros 32))) ⟨((Below.refl _ _).alloc (Nat.le_refl _) _).alloc (by simp) _, (Bk.new _ _ _).alloc _, Bk.new' _ _ _ (by simp)⟩ ?_
  obtain ⟨g1, hg1⟩ : ∃ g, g = w.heap.size := ⟨_, rfl⟩
  have HG := Lib.hid hg1
  rw [← hg1]
  obtain ⟨g2, hg2⟩ : ∃ g, g = g1 + 1 := ⟨_, rfl⟩
  have HLE : Hid (w.heap.size ≤ g2) := by show _ ≤ _; omega
  rw [← hg2]
  clear hg1 hg2
  rintro W ⟨hW, K1, K2⟩
  have HW : Hid (Below w.heap.size w W) := by rw [← HG.out]; exact hW
  have c0 := K1.cell 0
  have c1 := K1.cell 1
  have z1 := K1.lt
  clear hW
  go_wp2_with fail
  refine (HBY.out W HW.out).mono ?_
  rintro e W1 ⟨rfl, hb1⟩
  replace K2 := K2.keep hb1
  have HW1 := Lib.hid (below_step HW.out HW.out.size hb1)
  clear hb1 HW c0 c1 z1 K1 HBY
  go_wp2_with fail
  refine (HTW.out W1).mono ?_
  rintro e W2 ⟨rfl, hb2⟩
  replace K2 := K2.keep hb2
  have HW2 := Lib.hid (below_step HW1.out HW1.out.size hb2)
  clear hb2 HW1 HTW
  go_wp2_with (refine wpList_store_mid rfl 22 (.tmp 2) (.tmp 5) rfl g2 0 (idA q) rfl rfl (by rw [idA_size, HQ.out.1]; exact K2.there 32 (by rw [idA_size]; decide)) (by rw [idA_size, HQ.out.1]; exact r_info) (id_ones _) ?_)
  exact r_ret (g := g2) HQ.out.1 rfl rfl rfl (K2.setAll (by rw [idA_size, idA_size, HQ.out.1]; rfl)) (Below.setCells HLE.out _ _ _ HW2.out)
set_option maxHeartbeats 8000000 in
theorem r7root_any (s0 : Option Addr) (n c : Nat) (L : List TxM) (w : World) (hL : RowV txR w w.heap.size (.slice s0 n c) L) (hn : n = L.length) (hT : ∀ t ∈ L, TxV w w.heap.size t ∧ TxFit t) (h6 : n ≤ 40) :
    Calls Tryd.prog 12 #[.slice s0 n c] w fun e w' => e = .returned (.tuple #[.agg (idA (rootV (L.map tID)).1), .bool (rootV (L.map tID)).2]) ∧ Below w.heap.size w w' := by
  have HL := Lib.hid hL
  have HT := Lib.hid hT
  have HN := Lib.hid hn
  have HRT : Hid (∀ W v, IdsV W W.heap.size v (L.map tID) → Calls Tryd.prog 28 #[v] W fun e w' => e = .returned (.tuple #[.agg (idA (rootV (L.map tID)).1), .bool (rootV (L.map tID)).2]) ∧ Below W.heap.size W w') := fun W v h2 => rroot_any v _ W h2 (by rw [List.length_map]; omega)
  have HRL := Lib.hid (rootV_id (L.map tID) (tIDs_is L)).1
  obtain ⟨R0, hR0⟩ : ∃ R0, R0 = (rootV (L.map tID)).1 := ⟨_, rfl⟩
  obtain ⟨b0, hb0⟩ : ∃ b0, b0 = (rootV (L.map tID)).2 := ⟨_, rfl⟩
  rw [← hR0, ← hb0] at HRT ⊢
  rw [← hR0] at HRL
  clear hL hT hn hR0 hb0
  go_enter Tryd.func12, Tryd.ntmps12
  go_upto_region 1 with fail
  refine wp_any (fun W => Below w.heap.size w W ∧ Bk W w.heap.size 22 (idA (zeros 32))) ⟨(Below.refl _ _).alloc (Nat.le_refl _) _, Bk.new _ _ _⟩ ?_
  obtain ⟨g2, hg2⟩ : ∃ g2, g2 = w.heap.size := ⟨_, rfl⟩
  have HG := Lib.hid hg2
  rw [← hg2]
  rintro W ⟨hW, K2⟩
  have HW : Hid (Below w.heap.size w W) := by rw [hg2] at hW; exact hW
  have HGL := Lib.hid K2.lt
  clear hW hg2
  go_wp2_with fail
  go_loopw [4, 5] (fun ids i wr => ∃ k : Nat, k ≤ n ∧ i = .int .i64 k ∧ Hid (Below w.heap.size w wr) ∧ Bk wr g2 22 (idA (zeros 32)) ∧ Hid (raw.MineI wr (g2 + 1) ids ((L.take k).map tID)) ∧ Hid (g2 < wr.heap.size)) (fun _ i _ => n - (intOf i).toNat)
  case atStart => exact ⟨0, Nat.zero_le _, rfl, HW.out, K2, .inl ⟨rfl, rfl⟩, HGL.out⟩
  case round =>
    obtain ⟨k, hk, rfl, HWr, Kr, HM, HGr⟩ := hrel
    clear K2 HW
    by_cases hlt : k < n
    · obtain ⟨t, b, o, hkt, rfl, hbw, hrg⟩ := row_at HL.out k (by have := HN.out; omega)
      have j1 : decide ((k : Int) < (n : Int)) = true := decide_eq_true (by omega)
      have j2 : (k : Int) < (n : Int) := by omega
      have hTT := HT.out t (List.mem_of_getElem? hkt)
      replace hrg := rr_below hrg HWr.out hbw
      change wr.rangeAt b (o + k * 2) [t.iv, t.ov] at hrg
      have c0_ : wr.cell? ⟨b, o + k * 2, none⟩ = some t.iv := hrg 0 _ rfl
      have c1_ : wr.cell? ⟨b, o + k * 2 + 1, none⟩ = some t.ov := hrg 1 _ rfl
      have hbr : b < wr.heap.size := Nat.lt_of_lt_of_le hbw HWr.out.size
      have HST := Lib.hid (tIDs_take L k t hkt)
      have HTK : Hid (((L.take k).map tID).length ≤ 1000) := by
        show _ ≤ _
        rw [List.length_map, List.length_take]
        omega
      have HIS := Lib.hid (tIDs_is (L.take k))
      obtain ⟨P, hP⟩ : ∃ P, P = (L.take k).map tID := ⟨_, rfl⟩
      rw [← hP] at HM HST HTK HIS
      have HID : Hid (Calls Tryd.prog 27 #[.agg #[t.iv, t.ov]] wr fun e w' => e = .returned (.agg (idA (tID t))) ∧ Below wr.heap.size wr w') := r7id_any t wr ((hTT.1.keep HWr.out (Nat.le_refl _)).mono HWr.out.size) hTT.2
      have HQ := Lib.hid (tID_is t)
      obtain ⟨q, hq⟩ : ∃ q, q = tID t := ⟨_, rfl⟩
      rw [← hq] at HID HQ HST
      obtain ⟨a, ha⟩ : ∃ a, a = t.iv := ⟨_, rfl⟩
      obtain ⟨b', hb'⟩ : ∃ b, b = t.ov := ⟨_, rfl⟩
      rw [← ha, ← hb'] at HID
      rw [← ha] at c0_
      rw [← hb'] at c1_
      obtain ⟨sa, na, ca, ea⟩ : ∃ s n c, a = .slice s n c := ⟨_, _, _, ha⟩
      obtain ⟨sb, nb, cb, eb⟩ : ∃ s n c, b' = .slice s n c := ⟨_, _, _, hb'⟩
      subst ea
      subst eb
      obtain ⟨sp, cp, ep⟩ := HM.out.slice
      obtain ⟨lp, hlp⟩ : ∃ lp, lp = P.length := ⟨_, rfl⟩
      rw [← hlp] at ep
      subst ep
      clear hrg hTT hkt hP hq ha hb' hlp
      go_wp2_with fail
      refine HID.out.mono ?_
      rintro e W2 ⟨rfl, hb2⟩
      have hA2 : Below W2.heap.size W2 (W2.alloc (.cells (idA q) 22)) := (Below.refl _ _).alloc (Nat.le_refl _) _
      have hg2W : g2 < W2.heap.size := Nat.lt_of_lt_of_le HGr.out hb2.size
      obtain ⟨v3, W3, hrun, M3, hb3⟩ := raw.appI P [q] (.slice sp lp cp) (.slice (some ⟨W2.heap.size, 0, none⟩) 1 1) (g2 + 1) (W2.alloc (.cells (idA q) 22)) ((HM.out.keep hb2).keep hA2) HIS.out (by simp; omega) (one_row (t := 22) (Bk.new _ _ _) HQ.out) (by have := HTK.out; simp; omega)
      rw [← HST.out] at M3
      have hW3 : Below w.heap.size w W3 := by
        have h1 := (below_step HWr.out HWr.out.size hb2).trans (hA2.mono (Nat.le_trans HWr.out.size hb2.size))
        exact h1.trans (hb3.mono (by rw [HG.out]; omega))
      have K3 := ((Kr.keep hb2).keep hA2).below hb3 (by omega)
      have HW3 := Lib.hid hW3
      have HM3 := Lib.hid M3
      have HG3 : Hid (g2 < W3.heap.size) := K3.lt
      clear hA2 hb2 hb3 hW3 M3 Kr HM HID hg2W HGr HWr c0_ c1_ hbr
      go_wp2_with (first | (refine raw.wpList_bsI1 rfl (.tmp 17) rfl q HQ.out rfl ?_) | (at_builtin; refine raw.wpList_appI (v1 := .slice sp lp cp) (v2 := .slice (some ⟨W2.heap.size, 0, none⟩) 1 1) (v := v3) rfl (.tmp 12) (.tmp 18) rfl rfl rfl rfl hrun ?_))
      clear hrun
      go_roundw
      case rel => exact ⟨k + 1, by omega, by go_num, HW3.out, K3, HM3.out, HG3.out⟩
      case measure => simp [intOf]; omega
    · obtain rfl : k = n := by omega
      have j1 : decide ((k : Int) < (k : Int)) = false := decide_eq_false (by omega)
      rw [HN.out, List.take_length] at HM
      obtain ⟨sp, cp, ep⟩ := HM.out.slice
      rw [List.length_map, ← HN.out] at ep
      subst ep
      have HC := Lib.hid (HRT.out wr (.slice sp k cp) (HM.out.ids (tIDs_is L)))
      clear hlt HM HRT
      go_wp2_with fail
      refine HC.out.mono ?_
      rintro e W4 ⟨rfl, hb4⟩
      have K4 := Kr.keep hb4
      have HW4 := Lib.hid (below_step HWr.out HWr.out.size hb4)
      clear hb4 HC Kr
      go_wp2_with (refine wpList_store_mid rfl 22 (.tmp 2) (.tmp 22) rfl g2 0 (idA R0) rfl rfl (by rw [idA_size, HRL.out]; exact K4.there 32 (by rw [idA_size]; decide)) (by rw [idA_size, HRL.out]; exact r_info) (id_ones _) ?_)
      exact r_ret2 (g := g2) HRL.out rfl rfl rfl rfl (K4.setAll (by rw [idA_size, idA_size, HRL.out]; rfl)) (Below.setCells (by rw [HG.out]; exact Nat.le_refl _) _ _ _ HW4.out)
end Go.Proofs.YtmjiadfdmchhaaaDoor
namespace Go.Proofs.YtmjiadfdmchhaaaDoor
open Go.RowKit
set_option linter.unusedVariables false

/-- The low bytes of a number, so many of them. -/
def low4 (x k : Nat) : List Nat := (b4 x).take k
theorem low4_succ (x k : Nat) (h : k < 4) : low4 x (k + 1) = low4 x k ++ [x / 256 ^ k % 256] := by
  have : k = 0 ∨ k = 1 ∨ k = 2 ∨ k = 3 := by omega
  rcases this with rfl | rfl | rfl | rfl <;> simp [low4, b4]
theorem low4_length (x k : Nat) (h : k ≤ 4) : (low4 x k).length = k := by unfold low4; rw [List.length_take, b4_length]; omega
set_option maxRecDepth 100000 in
set_option maxHeartbeats 2000000 in
theorem four_any (x : Nat) (w : World) (hx : x < 4294967296) :
    Calls Tryd.prog 66 #[.int .u32 (x : Int)] w fun e w' => e = .returned (.string (strN (b4 x))) ∧ Below w.heap.size w w' := by
  have hs0 : strN (low4 x 0) = ByteArray.mk #[] := rfl
  have HEND := Lib.hid (show low4 x 4 = b4 x from rfl)
  have HNX := Lib.hid (fun k h => low4_succ x k h)
  have HLL := Lib.hid (fun k h => low4_length x k h)
  go_enter Tryd.func66, Tryd.ntmps66
  go_wp2_with fail
  rw [← hs0]
  clear hs0
  go_loopw [0, 3, 4] (fun xv sv i wr => ∃ k y : Nat, k ≤ 4 ∧ i = .int .i64 k ∧ Hid (y = x / 256 ^ k) ∧ y < 4294967296 ∧ xv = .int .u32 (y : Int) ∧ sv = .string (strN (low4 x k)) ∧ Hid (Below w.heap.size w wr)) (fun _ _ i _ => 4 - (intOf i).toNat)
  case atStart => exact ⟨0, x, by omega, rfl, by show x = x / 256 ^ 0; simp, hx, rfl, rfl, Below.refl _ _⟩
  case round =>
    obtain ⟨k, y, hk, rfl, HY, hy, rfl, rfl, HB⟩ := hrel
    by_cases hlt : k < 4
    · have hdk : decide ((k : Int) < 4) = true := decide_eq_true (by omega)
      obtain ⟨q, hq⟩ : ∃ q, q = y % 256 := ⟨_, rfl⟩
      have hq1 : (y : Int) % 256 = (q : Int) := by omega
      have hq2 : q < 256 := by omega
      obtain ⟨z, hz⟩ : ∃ z, z = y / 256 := ⟨_, rfl⟩
      have hz1 : (y : Int) / 256 = (z : Int) := by omega
      have hz2 : z < 4294967296 := by omega
      have HZ : Hid (z = x / 256 ^ (k + 1)) := by show _ = _; rw [hz, HY.out, Nat.div_div_eq_div_mul, Nat.pow_succ]
      have hnx := HNX.out k hlt
      rw [← HY.out, ← hq] at hnx
      have hll := HLL.out k hk
      have hst : strN (low4 x k) ++ strN [q] = strN (low4 x (k + 1)) := by rw [strN_append, hnx]
      have hsz : (strN (low4 x k)).size + (strN [q]).size ≤ 9223372036854775807 := by rw [strN_size, strN_size, hll]; simp; omega
      have hcv := conv_bs (bs_oneR wr q 5 hq2)
      have HBA := Lib.hid (HB.out.alloc HB.out.size (.cells #[.int .u8 (q : Int)] 5))
      generalize strN (low4 x k) = s0 at *
      obtain ⟨s1, hs1⟩ : ∃ s1, s1 = strN (low4 x (k + 1)) := ⟨_, rfl⟩
      rw [← hs1] at hst
      have HS1 := Lib.hid hs1
      clear hs1
      clear hq hz hnx hll
      go_wp2_with (first
        | (refine wpList_cnv rfl (.tmp 13) 32 9 rfl rfl hcv ?_)
        | (refine wpList_cat (s := s0) (t := strN [q]) (u := s1) rfl (.tmp 9) (.tmp 14) rfl rfl rfl hsz hst ?_))
      go_roundw
      case rel => exact ⟨k + 1, z, by omega, by go_num, HZ.out, hz2, rfl, by rw [HS1.out], HBA.out⟩
      case measure => simp [intOf]; omega
    · have hk4 : k = 4 := by omega
      have hdk : decide ((k : Int) < 4) = false := decide_eq_false (by omega)
      have he : low4 x k = b4 x := by rw [hk4]; exact HEND.out
      rw [he]
      clear hlt hk4 he
      go_wp2_with fail
      go_ret
      exact ⟨rfl, HB.out⟩
set_option maxRecDepth 100000 in
set_option maxHeartbeats 4000000 in
theorem bytes5_any (h : Hd) (w : World) (k : IsHd h) :
    Calls Tryd.prog 51 #[hdv h] w fun e w' => e = .returned (.string (strN (hB h))) ∧ Below w.heap.size w w' := by
  have HFV := Lib.hid (fun W => four_any h.v W k.v)
  have HFT := Lib.hid (fun W => four_any h.t W k.t)
  have HFB := Lib.hid (fun W => four_any h.b W k.b)
  have HFN := Lib.hid (fun W => four_any h.n W k.n)
  have hcv := hdA_v h
  have hct := hdA_t k
  have hcb := hdA_b k
  have hcn := hdA_n k
  have HP := Lib.hid (show ∀ W g, Bk W g 37 (hdA h) → (convert 32 9 (.slice (some ⟨g, 1, none⟩) 32 32)).run Tryd.prog W = .ok (.string (strN h.p)) W from fun W g K => conv_bs (bs_hd k K).1)
  have HR := Lib.hid (show ∀ W g, Bk W g 37 (hdA h) → (convert 32 9 (.slice (some ⟨g, 33, none⟩) 32 32)).run Tryd.prog W = .ok (.string (strN h.r)) W from fun W g K => conv_bs (bs_hd k K).2)
  have HE : Hid ((((((strN (b4 h.v) ++ strN h.p) ++ strN h.r) ++ strN (b4 h.t)) ++ strN (b4 h.b)) ++ strN (b4 h.n)) = strN (hB h)) := by
    show _ = _
    rw [strN_append, strN_append, strN_append, strN_append, strN_append]
    congr 1
    simp [hB]
  have z0 : (strN (b4 h.v)).size = 4 := by rw [strN_size]; rfl
  have z1 : (strN h.p).size = 32 := by rw [strN_size]; exact k.pl
  have z2 : (strN h.r).size = 32 := by rw [strN_size]; exact k.rl
  have z3 : (strN (b4 h.t)).size = 4 := by rw [strN_size]; rfl
  have z4 : (strN (b4 h.b)).size = 4 := by rw [strN_size]; rfl
  have z5 : (strN (b4 h.n)).size = 4 := by rw [strN_size]; rfl
  show Calls Tryd.prog _ #[.agg (hdA h)] w _
  change (hdA h)[0]? = some (.int .u32 (h.v : Int)) at hcv
  generalize hdA h = A at *
  generalize h.v = hv at *
  generalize h.t = ht at *
  generalize h.b = hb at *
  generalize h.n = hn at *
  generalize strN h.p = sp at *
  generalize strN h.r = sr at *
  generalize strN (hB h) = S at *
  generalize strN (b4 hv) = sv at *
  generalize strN (b4 ht) = st at *
  generalize strN (b4 hb) = sb at *
  generalize strN (b4 hn) = sn at *
  clear k
  go_enter Tryd.func51, Tryd.ntmps51
  go_upto_region 1 with fail
  refine wp_any (fun W => Below w.heap.size w W ∧ Bk W w.heap.size 37 A) ⟨(Below.refl w.heap.size w).alloc (Nat.le_refl _) _, Bk.new _ _ _⟩ ?_
  rintro W ⟨hW, K⟩
  have hW := Lib.hid hW
  obtain ⟨g, hg⟩ : ∃ g, g = w.heap.size := ⟨_, rfl⟩
  rw [← hg] at K ⊢
  have HG := Lib.hid hg
  clear hg
  have d0 : ∀ w', Bk w' g 37 A → w'.cell? ⟨g, 0, none⟩ = some (.int .u32 (hv : Int)) := fun w' h => (h.cell 0).trans hcv
  have d1 : ∀ w', Bk w' g 37 A → w'.cell? ⟨g, 65, none⟩ = some (.int .u32 (ht : Int)) := fun w' h => (h.cell 65).trans hct
  have d2 : ∀ w', Bk w' g 37 A → w'.cell? ⟨g, 66, none⟩ = some (.int .u32 (hb : Int)) := fun w' h => (h.cell 66).trans hcb
  have d3 : ∀ w', Bk w' g 37 A → w'.cell? ⟨g, 67, none⟩ = some (.int .u32 (hn : Int)) := fun w' h => (h.cell 67).trans hcn
  have d4 := fun w' => HP.out w' g
  have d5 := fun w' => HR.out w' g
  clear HP HR hcv hct hcb hcn
  go_region_held (fun w' => W.heap.size ≤ w'.heap.size ∧ Bk w' g 37 A)
    ((refine ⟨?_, ?_⟩; (focus (first | omega | (simp; done) | (simp; omega) | (simp [World.drew]; done) | (simp [World.drew]; omega))); (focus (repeat' (first | with_reducible assumption | with_reducible exact Bk.new _ _ _ | with_reducible refine Bk.new' _ _ _ ?_ | with_reducible refine Bk.alloc ?_ _ | with_reducible refine Bk.drew ?_ | (with_reducible refine Bk.keep ?_ (by with_reducible assumption)) | (simp; done) | (simp; omega) | (simp [World.drew]; done) | (simp [World.drew]; omega))))))
    (first
      | (go_at_call 66
         with_reducible refine (HFV.out _).mono ?_
         rintro e w6 ⟨rfl, hb6⟩
         have hE6 : From W w6 := by
           refine below_step ?_ ?_ hb6
           · repeat' (first | with_reducible exact Below.refl _ _ | with_reducible assumption | with_reducible exact From.out (by with_reducible assumption) | with_reducible refine Below.drew ?_ | with_reducible refine Below.setCell ?_ ?_ _ | with_reducible refine Below.alloc ?_ ?_ _ | with_reducible exact Nat.le_refl _ | omega | (simp; done) | (simp; omega) | (simp [World.drew]; done) | (simp [World.drew]; omega))
           · first | omega | (simp; done) | (simp; omega) | (simp [World.drew]; done) | (simp [World.drew]; omega)
         have z6 := hE6.out.size
         have A6 := K.keep hE6.out)
      | (go_at_call 66
         with_reducible refine (HFT.out _).mono ?_
         rintro e w7 ⟨rfl, hb7⟩
         have hE7 : From W w7 := by
           refine below_step ?_ ?_ hb7
           · repeat' (first | with_reducible exact Below.refl _ _ | with_reducible assumption | with_reducible exact From.out (by with_reducible assumption) | with_reducible refine Below.drew ?_ | with_reducible refine Below.setCell ?_ ?_ _ | with_reducible refine Below.alloc ?_ ?_ _ | with_reducible exact Nat.le_refl _ | omega | (simp; done) | (simp; omega) | (simp [World.drew]; done) | (simp [World.drew]; omega))
           · first | omega | (simp; done) | (simp; omega) | (simp [World.drew]; done) | (simp [World.drew]; omega)
         have z7 := hE7.out.size
         have A7 := K.keep hE7.out)
      | (go_at_call 66
         with_reducible refine (HFB.out _).mono ?_
         rintro e w8 ⟨rfl, hb8⟩
         have hE8 : From W w8 := by
           refine below_step ?_ ?_ hb8
           · repeat' (first | with_reducible exact Below.refl _ _ | with_reducible assumption | with_reducible exact From.out (by with_reducible assumption) | with_reducible refine Below.drew ?_ | with_reducible refine Below.setCell ?_ ?_ _ | with_reducible refine Below.alloc ?_ ?_ _ | with_reducible exact Nat.le_refl _ | omega | (simp; done) | (simp; omega) | (simp [World.drew]; done) | (simp [World.drew]; omega))
           · first | omega | (simp; done) | (simp; omega) | (simp [World.drew]; done) | (simp [World.drew]; omega)
         have z8 := hE8.out.size
         have A8 := K.keep hE8.out)
      | (go_at_call 66
         with_reducible refine (HFN.out _).mono ?_
         rintro e w9 ⟨rfl, hb9⟩
         have hE9 : From W w9 := by
           refine below_step ?_ ?_ hb9
           · repeat' (first | with_reducible exact Below.refl _ _ | with_reducible assumption | with_reducible exact From.out (by with_reducible assumption) | with_reducible refine Below.drew ?_ | with_reducible refine Below.setCell ?_ ?_ _ | with_reducible refine Below.alloc ?_ ?_ _ | with_reducible exact Nat.le_refl _ | omega | (simp; done) | (simp; omega) | (simp [World.drew]; done) | (simp [World.drew]; omega))
           · first | omega | (simp; done) | (simp; omega) | (simp [World.drew]; done) | (simp [World.drew]; omega)
         have z9 := hE9.out.size
         have A9 := K.keep hE9.out))
  all_goals
    have hW9 := Lib.hid (below_step hW.out hW.out.size hE9.out)
    go_wp2_with fail
    go_ret
    refine ⟨?_, hW9.out⟩
    show Ending.returned (.string _) = _
    rw [HE.out]
end Go.Proofs.YtmjiadfdmchhaaaDoor
namespace Go.Proofs.YtmjiadfdmchhaaaDoor
open Go.RowKit
set_option linter.unusedVariables false
set_option linter.unusedSimpArgs false
set_option maxRecDepth 100000

theorem hd_aggB (w : World) : (isAgg 37).run Tryd.prog w = .ok true w := by kernel_rfl
theorem hd_sizeB (w : World) : (sizeOf 37).run Tryd.prog w = .ok 68 w := by kernel_rfl
theorem load_row (w : World) (b o : Nat) (L : List Value) (h : w.rangeAt b o L) : (loadCellsFrom ⟨b, o, none⟩ 0 L.length #[]).run Tryd.prog w = .ok L.toArray w := by
  exact run_loadCells_list (P := Tryd.prog) w ⟨b, o, none⟩ L (fun j v hv => by rw [Addr.add_mid]; exact h j v hv)
namespace rblock
set_option maxHeartbeats 8000000 in
theorem region1 {t0 t2 t3 t4 t5 t6 t7 t8 t9 t10 t11 t12 t13 t14 t15 t16 t17 t18 t19 t20 t21 t22 t23 t24 t25 t26 t27 t28 t29 : Value} {Q : Exit → Act → World → Prop} (V : World) (g1 n ls_c : Nat) (ls : Option Addr) (A : Array Value) (HL : List Value) (hA : HL.toArray = A) (h68 : HL.length = 68) (s1 s2 : ByteArray)
    (hrg : V.rangeAt g1 0 HL) (hg1 : g1 < V.heap.size) (c68 : V.cell? ⟨g1, 68, none⟩ = some (.slice ls n ls_c)) (hwn : IntKind.u64.wrap (n : Int) = (n : Int)) (hz1 : s1.size ≤ 80) (hz2 : s2.size ≤ 9)
    (HB5 : Hid (∀ W, Below V.heap.size V W → Calls Tryd.prog 51 #[.agg A] W fun e w' => e = .returned (.string s1) ∧ Below W.heap.size W w'))
    (HC6 : Hid (∀ W, Below V.heap.size V W → Calls Tryd.prog 52 #[.int .u64 (n : Int)] W fun e w' => e = .returned (.string s2) ∧ Below W.heap.size W w'))
    (hQ : ∀ (x5 x6 x7 x8 x9 x10 x11 x12 x13 : Value) (w' : World), Below V.heap.size V w' → Q .normal { tmps := List.toArray (t0 :: .pointer (some ⟨g1, 0, none⟩) :: t2 :: .string (s1 ++ s2) :: t4 :: x5 :: x6 :: x7 :: x8 :: x9 :: x10 :: x11 :: x12 :: x13 :: t14 :: t15 :: t16 :: t17 :: t18 :: t19 :: t20 :: t21 :: t22 :: t23 :: t24 :: t25 :: t26 :: t27 :: t28 :: t29 :: []), defers := [] } w') :
    Code.wp Tryd.prog (Code.region 1 #[{ dst := some 5, op := Op.fieldAddr 40 (Operand.tmp 1) 0, type := 0, pos := "ref.go:38", after := #[], guard := none },
{ dst := some 6, op := Op.load 37 (Operand.tmp 5), type := 37, pos := "ref.go:38", after := #[{ on := 0, ground := Ground.data }], guard := none },
{ dst := some 7, op := Op.call { callee := Callee.value (Operand.func 51), args := #[Operand.tmp 6], argTypes := #[37] }, type := 9, pos := "ref.go:38", after := #[{ on := 1, ground := Ground.data }], guard := none },
{ dst := some 8, op := Op.fieldAddr 40 (Operand.tmp 1) 1, type := 0, pos := "ref.go:38", after := #[], guard := none },
{ dst := some 9, op := Op.load 38 (Operand.tmp 8), type := 38, pos := "ref.go:38", after := #[{ on := 3, ground := Ground.data }], guard := none },
{ dst := some 10, op := Op.call { callee := Callee.builtin Builtin.len, args := #[Operand.tmp 9], argTypes := #[38] }, type := 3, pos := "ref.go:38", after := #[{ on := 4, ground := Ground.data }], guard := none },
{ dst := some 11, op := Op.convert 3 81 (Operand.tmp 10), type := 81, pos := "ref.go:38", after := #[{ on := 5, ground := Ground.data }], guard := none },
{ dst := some 12, op := Op.call { callee := Callee.value (Operand.func 52), args := #[Operand.tmp 11], argTypes := #[81] }, type := 9, pos := "ref.go:38", after := #[{ on := 6, ground := Ground.data }, { on := 2, ground := Ground.chain }], guard := none },
{ dst := some 13, op := Op.binOp BinOp.add 9 (Operand.tmp 7) (Operand.tmp 12) 9, type := 9, pos := "ref.go:38", after := #[{ on := 2, ground := Ground.data }, { on := 7, ground := Ground.data }], guard := none },
{ dst := some 3, op := Op.assign (Operand.tmp 13), type := 9, pos := "ref.go:38", after := #[{ on := 8, ground := Ground.data }, { on := 7, ground := Ground.chain }, { on := 0, ground := Ground.phase }, { on := 1, ground := Ground.phase }, { on := 2, ground := Ground.phase }, { on := 3, ground := Ground.phase }, { on := 4, ground := Ground.phase }, { on := 5, ground := Ground.phase }, { on := 6, ground := Ground.phase }, { on := 7, ground := Ground.phase }, { on := 8, ground := Ground.phase }], guard := none }] true) Q { tmps := List.toArray (t0 :: .pointer (some ⟨g1, 0, none⟩) :: t2 :: t3 :: t4 :: t5 :: t6 :: t7 :: t8 :: t9 :: t10 :: t11 :: t12 :: t13 :: t14 :: t15 :: t16 :: t17 :: t18 :: t19 :: t20 :: t21 :: t22 :: t23 :: t24 :: t25 :: t26 :: t27 :: t28 :: t29 :: []), defers := [] } V := by
  have HQ := Lib.hid hQ
  have e68 : ∀ w', Below V.heap.size V w' → w'.cell? ⟨g1, 68, none⟩ = some (.slice ls n ls_c) := fun w' h => (h.cell (p := ⟨g1, 68, none⟩) hg1).trans c68
  obtain ⟨tl, htl⟩ : ∃ tl : TypeId, tl = 37 := ⟨_, rfl⟩
  obtain ⟨sz, hsz0⟩ : ∃ sz : Nat, sz = 68 := ⟨_, rfl⟩
  have hag : ∀ w, (isAgg tl).run Tryd.prog w = .ok true w := by rw [htl]; exact hd_aggB
  have hsz : ∀ w, (sizeOf tl).run Tryd.prog w = .ok sz w := by rw [htl, hsz0]; exact hd_sizeB
  have hlA : ∀ w', Below V.heap.size V w' → (loadCellsFrom ⟨g1, 0, none⟩ 0 sz #[]).run Tryd.prog w' = .ok A w' := fun w' h => by
    have h1 := load_row w' g1 0 HL (rr_below hrg h hg1)
    rw [hA] at h1
    rw [hsz0, ← h68]
    exact h1
  simp only [show ∀ z, Op.load 37 z = Op.load tl z from fun z => by rw [htl]]
  clear htl hsz0 hQ hrg c68
  refine wp_region_noPanic ?_
  go_region_held (fun w' => Below V.heap.size V w')
    (first | with_reducible assumption | with_reducible exact Below.refl _ _ | with_reducible exact (Below.refl _ _).drew)
    (first
      | (go_at_call 51
         with_reducible refine (HB5.out _ (by first | with_reducible assumption | with_reducible exact (Below.refl _ _).drew | with_reducible exact Below.refl _ _)).mono ?_
         rintro e w6 ⟨rfl, hb6⟩
         have hE6 : Below V.heap.size V w6 := by
           refine below_step ?_ ?_ hb6
           · repeat' (first | with_reducible exact Below.refl _ _ | with_reducible assumption | with_reducible exact From.out (by with_reducible assumption) | with_reducible refine Below.drew ?_ | with_reducible refine Below.setCell ?_ ?_ _ | with_reducible refine Below.alloc ?_ ?_ _ | with_reducible exact Nat.le_refl _ | omega | (simp; done) | (simp; omega) | (simp [World.drew]; done) | (simp [World.drew]; omega))
           · first | omega | (simp; done) | (simp; omega) | (simp [World.drew]; done) | (simp [World.drew]; omega)
         have z6 := hE6.size)
      | (go_at_call 52
         with_reducible refine (HC6.out _ (by first | with_reducible assumption | with_reducible exact (Below.refl _ _).drew | with_reducible exact Below.refl _ _)).mono ?_
         rintro e w7 ⟨rfl, hb7⟩
         have hE7 : Below V.heap.size V w7 := by
           refine below_step ?_ ?_ hb7
           · repeat' (first | with_reducible exact Below.refl _ _ | with_reducible assumption | with_reducible exact From.out (by with_reducible assumption) | with_reducible refine Below.drew ?_ | with_reducible refine Below.setCell ?_ ?_ _ | with_reducible refine Below.alloc ?_ ?_ _ | with_reducible exact Nat.le_refl _ | omega | (simp; done) | (simp; omega) | (simp [World.drew]; done) | (simp [World.drew]; omega))
           · first | omega | (simp; done) | (simp; omega) | (simp [World.drew]; done) | (simp [World.drew]; omega)
         have z7 := hE7.size))
  all_goals first
    | exact NoPanic.normal (HQ.out _ _ _ _ _ _ _ _ _ _ hE7)
    | exact NoPanic.normal (HQ.out _ _ _ _ _ _ _ _ _ _ hE6)
end rblock

set_option maxHeartbeats 8000000 in
theorem r7block_any (b : BlkM) (w : World) (hV : BlkV w w.heap.size b) (hF : ∀ t ∈ b.txs, TxFit t) (hn : b.txs.length ≤ 40) :
    Calls Tryd.prog 30 #[.agg (blkL b).toArray] w fun e w' => e = .returned (.string (strN (blkB b))) ∧ Below w.heap.size w w' := by
  have HB5 : Hid (∀ W, Calls Tryd.prog 51 #[.agg (hdL b.hd).toArray] W fun e w' => e = .returned (.string (strN (hB b.hd))) ∧ Below W.heap.size W w') := fun W => bytes5_any b.hd W hV.1
  have HC6 : Hid (∀ W, Calls Tryd.prog 52 #[.int .u64 (b.txs.length : Int)] W fun e w' => e = .returned (.string (strN (countL b.txs.length))) ∧ Below W.heap.size W w') := fun W => rfcount_any b.txs.length W (by omega)
  have HBY : Hid (∀ t ∈ b.txs, ∀ W, Below w.heap.size w W → Calls Tryd.prog 46 #[.agg #[t.iv, t.ov]] W fun e w' => e = .returned (.string (strN (txB t))) ∧ Below W.heap.size W w') := fun t ht W h => r7bytes_any t W (((hV.2.2 t ht).keep h (Nat.le_refl _)).mono h.size) (hF t ht)
  have HRW : Hid (RowV txR w w.heap.size (.slice b.ls b.txs.length b.lc) b.txs) := hV.2.1
  have H68 := Lib.hid (blk_68 hV.1)
  unfold BlkM.lv at H68
  have HHD : Hid (∀ (W : World) (g : Nat), Bk W g 40 (blkL b).toArray → W.rangeAt g 0 (hdL b.hd)) := fun W g K => blk_head K
  have HHN := Lib.hid (hdL_length hV.1)
  have HX : Hid (blkB b = (hB b.hd ++ countL b.txs.length) ++ txsB (b.txs.take b.txs.length)) := by
    show _ = _
    rw [List.take_length]
    unfold blkB
    rw [List.append_assoc]
  have HS : Hid (∀ k t, b.txs[k]? = some t → txsB (b.txs.take (k + 1)) = txsB (b.txs.take k) ++ txB t) := fun k t h => by
    rw [List.take_add_one, h]
    unfold txsB
    simp
  have HTL : Hid (∀ k, (txsB (b.txs.take k)).length ≤ 460000) := fun k => Nat.le_trans (txsB_le b.txs k hF) (by omega)
  have HT4 : Hid (∀ t ∈ b.txs, (txB t).length ≤ 20000) := fun t ht => by have := txB_len t (hF t ht); omega
  obtain ⟨L, hLL⟩ : ∃ L, L = blkL b := ⟨_, rfl⟩
  rw [← hLL] at H68 HHD ⊢
  obtain ⟨TS, hTS⟩ : ∃ TS, TS = b.txs := ⟨_, rfl⟩
  rw [← hTS] at HRW HBY HX HS H68 HC6 hn HTL HT4
  obtain ⟨ls, hls⟩ : ∃ ls, ls = b.ls := ⟨_, rfl⟩
  rw [← hls] at HRW H68
  obtain ⟨lc, hlc⟩ : ∃ lc, lc = b.lc := ⟨_, rfl⟩
  rw [← hlc] at HRW H68
  obtain ⟨n, hn2⟩ : ∃ n, n = TS.length := ⟨_, rfl⟩
  have HN := Lib.hid hn2
  rw [← hn2] at HRW HX H68 HC6 hn
  obtain ⟨HL, hHL⟩ : ∃ HL, HL = hdL b.hd := ⟨_, rfl⟩
  rw [← hHL] at HHD HHN HB5
  obtain ⟨P, hP⟩ : ∃ P, P = hB b.hd ++ countL n := ⟨_, rfl⟩
  have HP : Hid (strN (hB b.hd) ++ strN (countL n) = strN (P ++ txsB (TS.take 0))) := by
    show _ = _
    rw [hP, List.take_zero, strN_append]
    show _ = strN (_ ++ [])
    rw [List.append_nil]
  rw [← hP] at HX
  obtain ⟨s1, hs1⟩ : ∃ s, s = strN (hB b.hd) := ⟨_, rfl⟩
  obtain ⟨s2, hs2⟩ : ∃ s, s = strN (countL n) := ⟨_, rfl⟩
  have HZ1 : Hid (s1.size ≤ 80) := by show _ ≤ _; rw [hs1, strN_size, hB_length hV.1]; exact Nat.le_refl _
  have HZ2 : Hid (s2.size ≤ 9) := by show _ ≤ _; rw [hs2, strN_size]; exact countL_len n
  have HPL : Hid (P.length ≤ 89) := by
    show _ ≤ _
    rw [hP, List.length_append, hB_length hV.1]
    have := countL_len n
    omega
  rw [← hs1] at HB5 HP
  rw [← hs2] at HC6 HP
  obtain ⟨Y, hY⟩ : ∃ Y, Y = blkB b := ⟨_, rfl⟩
  rw [← hY] at HX ⊢
  have hwn : IntKind.u64.wrap (n : Int) = (n : Int) := by
    simp [IntKind.wrap, IntKind.signed, IntKind.bits]
    omega
  have HW64 := Lib.hid hwn
  have HN40 := Lib.hid hn
  clear hV hF hLL hTS hls hlc hn2 hHL hP hs1 hs2 hY hn hwn
  go_enter Tryd.func30, Tryd.ntmps30
  go_upto_region 1 with fail
  refine wp_any (fun W => Below w.heap.size w W ∧ Bk W w.heap.size 40 L.toArray) ⟨(Below.refl _ _).alloc (Nat.le_refl _) _, Bk.new _ _ _⟩ ?_
  obtain ⟨g1, hg1⟩ : ∃ g, g = w.heap.size := ⟨_, rfl⟩
  have HG := Lib.hid hg1
  rw [← hg1]
  clear hg1
  rintro W ⟨hW, K1⟩
  have HW : Hid (Below w.heap.size w W) := by rw [← HG.out]; exact hW
  clear hW
  refine rblock.region1 W g1 n lc ls HL.toArray HL rfl HHN.out s1 s2 (HHD.out W g1 K1) K1.lt ((K1.cell 68).trans H68.out) HW64.out HZ1.out HZ2.out (fun W _ => HB5.out W) (fun W _ => HC6.out W) (fun x5 x6 x7 x8 x9 x10 x11 x12 x13 w' hb => ?_)
  replace K1 := K1.keep hb
  have HW1 := Lib.hid (below_step HW.out HW.out.size hb)
  rw [HP.out]
  obtain ⟨sk, hsk⟩ : ∃ s, s = strN (P ++ txsB (TS.take 0)) := ⟨_, rfl⟩
  have HSK := Lib.hid hsk
  rw [← hsk]
  clear hb HW hsk
  go_wp2_with fail
  go_loopw [3, 4] (fun sv i wr => ∃ (k : Nat) (u : ByteArray), k ≤ n ∧ sv = .string u ∧ i = .int .i64 k ∧ Hid (u = strN (P ++ txsB (TS.take k))) ∧ Hid (Below w.heap.size w wr) ∧ Bk wr g1 40 L.toArray) (fun _ i _ => n - (intOf i).toNat)
  case atStart => exact ⟨0, sk, Nat.zero_le _, rfl, rfl, HSK.out, HW1.out, K1⟩
  case round =>
    obtain ⟨k, u, hk, rfl, rfl, HU, HWr, Kr⟩ := hrel
    clear K1 HW1
    have c68 := (Kr.cell 68).trans H68.out
    have z1 := Kr.lt
    have hn40 := HN40.out
    by_cases hlt : k < n
    · obtain ⟨t, bb, o, hkt, rfl, hbw, hrg⟩ := row_at HRW.out k (by have := HN.out; omega)
      have j1 : decide ((k : Int) < (n : Int)) = true := decide_eq_true (by omega)
      have j2 : (k : Int) < (n : Int) := by omega
      replace hrg := rr_below hrg HWr.out hbw
      change wr.rangeAt bb (o + k * 2) [t.iv, t.ov] at hrg
      have c0_ : wr.cell? ⟨bb, o + k * 2, none⟩ = some t.iv := hrg 0 _ rfl
      have c1_ : wr.cell? ⟨bb, o + k * 2 + 1, none⟩ = some t.ov := hrg 1 _ rfl
      have hbr : bb < wr.heap.size := Nat.lt_of_lt_of_le hbw HWr.out.size
      have HC := Lib.hid (HBY.out t (List.mem_of_getElem? hkt) wr HWr.out)
      have HU2 : Hid (u ++ strN (txB t) = strN (P ++ txsB (TS.take (k + 1)))) := by
        show _ = _
        rw [HU.out, strN_append, HS.out k t hkt, List.append_assoc]
      have hzu : u.size ≤ 1000000 := by
        rw [HU.out, strN_size, List.length_append]
        have h1 := HTL.out k
        have h2 := HPL.out
        omega
      have hz4 : (strN (txB t)).size ≤ 20000 := by rw [strN_size]; exact HT4.out t (List.mem_of_getElem? hkt)
      obtain ⟨s4, hs4⟩ : ∃ s, s = strN (txB t) := ⟨_, rfl⟩
      rw [← hs4] at HC HU2 hz4
      obtain ⟨a, ha⟩ : ∃ a, a = t.iv := ⟨_, rfl⟩
      obtain ⟨b', hb'⟩ : ∃ b, b = t.ov := ⟨_, rfl⟩
      rw [← ha, ← hb'] at HC
      rw [← ha] at c0_
      rw [← hb'] at c1_
      obtain ⟨sa, na, ca, ea⟩ : ∃ s n c, a = .slice s n c := ⟨_, _, _, ha⟩
      obtain ⟨sb, nb, cb, eb⟩ : ∃ s n c, b' = .slice s n c := ⟨_, _, _, hb'⟩
      subst ea
      subst eb
      clear hrg hkt ha hb' hs4 HU
      go_wp2_with fail
      refine HC.out.mono ?_
      rintro e w5 ⟨rfl, hb5⟩
      replace Kr := Kr.keep hb5
      have HW5 := Lib.hid (below_step HWr.out HWr.out.size hb5)
      clear hb5 HC HWr c0_ c1_ hbr c68 z1
      go_wp2_with fail
      go_roundw
      case rel => exact ⟨k + 1, _, by omega, rfl, by go_num, HU2.out, HW5.out, Kr⟩
      case measure => simp [intOf]; omega
    · have hkn : k = n := by omega
      have j1 : decide ((k : Int) < (n : Int)) = false := decide_eq_false (by omega)
      have j0 : decide (k < n) = false := decide_eq_false (by omega)
      have HUE : Hid (u = strN Y) := by show _ = _; rw [HU.out, hkn, ← HX.out]
      clear hlt hkn HU hk
      go_wp2_with fail
      go_ret
      have h := HUE.out
      subst h
      exact ⟨rfl, HWr.out⟩
end Go.Proofs.YtmjiadfdmchhaaaDoor
namespace Go.Proofs.YtmjiadfdmchhaaaDoor
open Go.RowKit
set_option linter.unusedVariables false
set_option linter.unusedSimpArgs false
set_option maxRecDepth 100000
/-- Has one of them as many bytes as two names? -/
def pairB (L : List TxM) : Bool := L.any (fun t => (txB t).length == 64)
theorem pairB_true {L : List TxM} {t : TxM} (h : t ∈ L) (e : (txB t).length = 64) : pairB L = true := List.any_eq_true.2 ⟨t, h, by simp [e]⟩
theorem pairB_false {L : List TxM} (h : ∀ t ∈ L, (txB t).length ≠ 64) : pairB L = false := List.any_eq_false.2 (fun t ht => by simp [h t ht])
theorem pairB_iff (L : List TxM) : pairB L = true ↔ ∃ t ∈ L, (txB t).length = 64 := by
  unfold pairB
  rw [List.any_eq_true]
  constructor
  · rintro ⟨t, h, e⟩
    exact ⟨t, h, by simpa using e⟩
  · rintro ⟨t, h, e⟩
    exact ⟨t, h, by simp [e]⟩
set_option maxHeartbeats 8000000 in
theorem rpairs_any (b : BlkM) (w : World) (hV : BlkV w w.heap.size b) (hF : ∀ t ∈ b.txs, TxFit t) :
    Calls Tryd.prog 31 #[.agg (blkL b).toArray] w fun e w' => e = .returned (.bool (pairB b.txs)) ∧ Below w.heap.size w w' := by
  have HBY : Hid (∀ t ∈ b.txs, ∀ W, Below w.heap.size w W → Calls Tryd.prog 46 #[.agg #[t.iv, t.ov]] W fun e w' => e = .returned (.string (strN (txB t))) ∧ Below W.heap.size W w') := fun t ht W h => r7bytes_any t W (((hV.2.2 t ht).keep h (Nat.le_refl _)).mono h.size) (hF t ht)
  have HRW := Lib.hid (row_at (show RowV txR w w.heap.size (.slice b.ls b.txs.length b.lc) b.txs from hV.2.1))
  have h63 : b.txs.length < 9223372036854775808 := by
    obtain ⟨_, _, e, h1, h2, _⟩ := hV.2.1
    omega
  have H68 := Lib.hid (blk_68 hV.1)
  unfold BlkM.lv at H68
  obtain ⟨A, hA⟩ : ∃ A, A = (blkL b).toArray := ⟨_, rfl⟩
  rw [← hA] at H68 ⊢
  obtain ⟨TS, hTS⟩ : ∃ TS, TS = b.txs := ⟨_, rfl⟩
  rw [← hTS] at HRW HBY H68 h63 ⊢
  obtain ⟨ls, hls⟩ : ∃ ls, ls = b.ls := ⟨_, rfl⟩
  rw [← hls] at HRW H68
  obtain ⟨lc, hlc⟩ : ∃ lc, lc = b.lc := ⟨_, rfl⟩
  rw [← hlc] at H68
  obtain ⟨n, hn2⟩ : ∃ n, n = TS.length := ⟨_, rfl⟩
  have HN := Lib.hid hn2
  rw [← hn2] at HRW H68 h63
  obtain ⟨res, hres⟩ : ∃ r, r = pairB TS := ⟨_, rfl⟩
  rw [← hres]
  have HRT : Hid (∀ t ∈ TS, (txB t).length = 64 → res = true) := fun t ht e => by rw [hres]; exact pairB_true ht e
  have HRF : Hid ((∀ t ∈ TS, (txB t).length ≠ 64) → res = false) := fun h => by rw [hres]; exact pairB_false h
  clear hV hF hA hTS hls hlc hn2 hres
  go_enter Tryd.func31, Tryd.ntmps31
  go_upto_region 1 with fail
  refine wp_any (fun W => Below w.heap.size w W ∧ Bk W w.heap.size 40 A) ⟨(Below.refl _ _).alloc (Nat.le_refl _) _, Bk.new _ _ _⟩ ?_
  obtain ⟨g1, hg1⟩ : ∃ g, g = w.heap.size := ⟨_, rfl⟩
  have HG := Lib.hid hg1
  rw [← hg1]
  clear hg1
  rintro W ⟨hW, K1⟩
  have HW : Hid (Below w.heap.size w W) := by rw [← HG.out]; exact hW
  have HK := Lib.hid K1
  clear hW K1
  go_wp2_with fail
  go_loopw [3] (fun i wr => ∃ (k : Nat), k ≤ n ∧ i = .int .i64 k ∧ Hid (∀ t ∈ TS.take k, (txB t).length ≠ 64) ∧ Hid (Below w.heap.size w wr) ∧ Hid (Bk wr g1 40 A)) (fun i _ => n - (intOf i).toNat)
  case atStart => exact ⟨0, Nat.zero_le _, rfl, (fun t ht => by cases ht), HW.out, HK.out⟩
  case round =>
    obtain ⟨k, hk, rfl, HF, HB, HKr⟩ := hrel
    clear HW HK
    have c68 := (HKr.out.cell 68).trans H68.out
    have z1 := HKr.out.lt
    by_cases hlt : k < n
    · obtain ⟨t, bb, o, hkt, rfl, hbw, hrg⟩ := HRW.out k (by have := HN.out; omega)
      have j1 : decide ((k : Int) < (n : Int)) = true := decide_eq_true (by omega)
      have j2 : (k : Int) < (n : Int) := by omega
      replace hrg := rr_below hrg HB.out hbw
      change wr.rangeAt bb (o + k * 2) [t.iv, t.ov] at hrg
      have c0_ : wr.cell? ⟨bb, o + k * 2, none⟩ = some t.iv := hrg 0 _ rfl
      have c1_ : wr.cell? ⟨bb, o + k * 2 + 1, none⟩ = some t.ov := hrg 1 _ rfl
      have hbr : bb < wr.heap.size := Nat.lt_of_lt_of_le hbw HB.out.size
      have hmem := List.mem_of_getElem? hkt
      have HC := Lib.hid (HBY.out t hmem wr HB.out)
      have HR1 := Lib.hid (HRT.out t hmem)
      have HX := Lib.hid hkt
      obtain ⟨s4, hs4⟩ : ∃ s, s = strN (txB t) := ⟨_, rfl⟩
      rw [← hs4] at HC
      have hz4 : s4.size = (txB t).length := by rw [hs4, strN_size]
      have HZ4 := Lib.hid hz4
      obtain ⟨a, ha⟩ : ∃ a, a = t.iv := ⟨_, rfl⟩
      obtain ⟨b', hb'⟩ : ∃ b, b = t.ov := ⟨_, rfl⟩
      rw [← ha, ← hb'] at HC
      rw [← ha] at c0_
      rw [← hb'] at c1_
      obtain ⟨sa, na, ca, ea⟩ : ∃ s n c, a = .slice s n c := ⟨_, _, _, ha⟩
      obtain ⟨sb, nb, cb, eb⟩ : ∃ s n c, b' = .slice s n c := ⟨_, _, _, hb'⟩
      subst ea
      subst eb
      clear hrg hkt ha hb' hs4 hmem hz4
      go_wp2_with fail
      refine HC.out.mono ?_
      rintro e w5 ⟨rfl, hb5⟩
      have HK5 := Lib.hid (HKr.out.keep hb5)
      have HB5 := Lib.hid (below_step HB.out HB.out.size hb5)
      clear hb5 HC c0_ c1_ hbr c68 z1
      by_cases he : s4.size = 64
      · have q : ((s4.size : Int) == 64) = true := by rw [beq_iff_eq]; omega
        have hr := HR1.out (by rw [← HZ4.out]; exact he)
        clear he
        go_wp2_with fail
        go_ret
        exact ⟨by rw [hr]; rfl, HB5.out⟩
      · have q : ((s4.size : Int) == 64) = false := by rw [beq_eq_false_iff_ne]; omega
        have HF2 : Hid (∀ t ∈ TS.take (k + 1), (txB t).length ≠ 64) := by
          show ∀ _, _
          intro x hx
          rw [List.take_add_one, HX.out] at hx
          rcases List.mem_append.1 hx with h | h
          · exact HF.out x h
          · have : x = t := by simpa using h
            rw [this, ← HZ4.out]
            exact he
        clear he HF
        go_wp2_with fail
        go_roundw
        case rel => exact ⟨k + 1, by omega, by go_num, HF2, HB5.out, HK5.out⟩
        case measure => simp [intOf]; omega
    · have j1 : decide ((k : Int) < (n : Int)) = false := decide_eq_false (by omega)
      have hr := HRF.out (fun t ht => HF.out t (by rw [List.take_of_length_le (by have := HN.out; omega)]; exact ht))
      go_wp2_with fail
      go_ret
      exact ⟨by rw [hr]; rfl, HB.out⟩
theorem r_neq (x y : List Nat) (hx : x.length = 32) (hy : y.length = 32) (w : World) : (binOp .neq 22 (.agg (idA x)) (.agg (idA y))).run Tryd.prog w = .ok (.bool (!decide (x = y))) w := by
  have h := merkleRoots.r_eql x y hx hy w
  show (do let b ← Op.equalIn 10000 22 (.agg (idA x)) (.agg (idA y)); pure (.bool (!b)) : Sem Value).run Tryd.prog w = _
  rw [Sem.run_bind, h]
  rfl
theorem rootE_doc (R : List Nat) (L : List TxM) : rootE R L = if pairB L = true then 40 else if (rootV (L.map tID)).2 = true then 40 else if (rootV (L.map tID)).1 = R then 0 else 40 := by
  unfold rootE
  by_cases h : ∃ t ∈ L, (txB t).length = 64
  · rw [if_pos h, if_pos ((pairB_iff L).2 h)]
  · rw [if_neg h, if_neg (fun e => h ((pairB_iff L).1 e))]
set_option maxHeartbeats 16000000 in
theorem rblock_any (b : BlkM) (w : World) (hV : BlkV w w.heap.size b) (hF : ∀ t ∈ b.txs, TxFit t) (hn : b.txs.length ≤ 40) :
    Calls Tryd.prog 13 #[.agg (blkL b).toArray] w fun r w' => r = .returned (.int .i64 (blkE b : Nat)) ∧ Below w.heap.size w w' := by
  have HVW : Hid (∀ W, Below w.heap.size w W → BlkV W W.heap.size b) := fun W h => ⟨hV.1, (hV.2.1.keep h (Nat.le_refl _)).mono h.size, fun t ht => ((hV.2.2 t ht).keep h (Nat.le_refl _)).mono h.size⟩
  have HTB : Hid (∀ W, Below w.heap.size w W → Calls Tryd.prog 30 #[.agg (blkL b).toArray] W fun e w' => (∃ s, e = .returned (.string s) ∧ s.size = (blkB b).length) ∧ Below W.heap.size W w') := fun W h => (r7block_any b W (HVW.out W h) hF hn).mono fun e w' ⟨he, hb⟩ => ⟨⟨_, he, by rw [strN_size]⟩, hb⟩
  have HPA : Hid (∀ W, Below w.heap.size w W → Calls Tryd.prog 31 #[.agg (blkL b).toArray] W fun r w' => r = .returned (.bool (pairB b.txs)) ∧ Below W.heap.size W w') := fun W h => rpairs_any b W (HVW.out W h) hF
  have HTX : Hid (∀ t ∈ b.txs, ∀ f W, Below w.heap.size w W → Calls Tryd.prog 29 #[.agg #[t.iv, t.ov], .bool f] W fun r w' => r = .returned (.int .i64 (txE f t : Nat)) ∧ Below W.heap.size W w') := fun t ht f W h => rtx_any t f W ((HVW.out W h).2.2 t ht)
  obtain ⟨R, hR⟩ : ∃ R, R = (rootV (b.txs.map tID)).1 := ⟨_, rfl⟩
  obtain ⟨tw, htw⟩ : ∃ tw, tw = (rootV (b.txs.map tID)).2 := ⟨_, rfl⟩
  obtain ⟨pb, hpb⟩ : ∃ p, p = pairB b.txs := ⟨_, rfl⟩
  have hRid : IsId R := by rw [hR]; exact (rootV_id (b.txs.map tID) (tIDs_is b.txs))
  have hre := rootE_doc b.hd.r b.txs
  rw [← hR, ← htw, ← hpb] at hre
  rw [← hpb] at HPA
  have h68 := blk_68 hV.1
  have hlen := blkL_len hV.1
  obtain ⟨s0, c, hlv⟩ : ∃ s c, b.lv = .slice s b.txs.length c := ⟨_, _, rfl⟩
  have HROW := hV.2.1
  rw [hlv] at h68 HROW
  have HRR : Hid (∀ W, Below w.heap.size w W → Calls Tryd.prog 12 #[.slice s0 b.txs.length c] W fun e w' => e = .returned (.tuple #[.agg (idA R), .bool tw]) ∧ Below W.heap.size W w') := by
    show ∀ _, _
    intro W h
    have h1 := r7root_any s0 b.txs.length c b.txs W ((HROW.keep h (Nat.le_refl _)).mono h.size) rfl (fun t ht => ⟨(HVW.out W h).2.2 t ht, hF t ht⟩) hn
    rw [← hR, ← htw] at h1
    exact h1
  have HL := Lib.hid (row_at HROW)
  clear HROW
  obtain ⟨n, hnn⟩ : ∃ n, n = b.txs.length := ⟨_, rfl⟩
  have HN := Lib.hid hnn
  rw [← hnn] at h68 HL hn HRR
  obtain ⟨res, hres⟩ : ∃ r, r = blkE b := ⟨_, rfl⟩
  rw [← hres]
  obtain ⟨re, hre2⟩ : ∃ r, r = rootE b.hd.r b.txs := ⟨_, rfl⟩
  rw [← hre2] at hre
  have HRE := Lib.hid hre
  obtain ⟨bl, hbl⟩ : ∃ r, r = (blkB b).length := ⟨_, rfl⟩
  rw [← hbl] at HTB
  obtain ⟨rest, hrest⟩ : ∃ r, r = if 8192 < bl then 2 else re := ⟨_, rfl⟩
  have HRT := Lib.hid hrest
  have HRS : Hid (res = if ¬ (0 < n ∧ n ≤ 32) then 120 else if txsE true b.txs ≠ 0 then txsE true b.txs else rest) := by
    show _ = _
    rw [hres, hrest, hbl, hre2, hnn]
    rfl
  obtain ⟨A, hA⟩ : ∃ A, A = (blkL b).toArray := ⟨_, rfl⟩
  have hin : (Tryd.prog.info? 40).map (·.size) = some A.size := by rw [blk_info', hA, List.size_toArray, hlen]
  have HIN := Lib.hid hin
  have HRO : Hid (∀ W g, Bk W g 40 A → (loadCellsFrom ⟨g, 33, none⟩ 0 32 #[]).run Tryd.prog W = .ok (idA b.hd.r) W) := by
    show ∀ _, _
    intro W g K
    rw [hA] at K
    exact blk_root hV.1 K
  have hrr : IsId b.hd.r := by
    obtain ⟨a1, a2, a3, a4, a5, a6, a7, a8⟩ := hV.1
    exact ⟨by assumption, by assumption⟩
  obtain ⟨br, hbr⟩ : ∃ r, r = b.hd.r := ⟨_, rfl⟩
  rw [← hbr] at HRO hrr
  have HRE : Hid (re = if pb = true then 40 else if tw = true then 40 else if R = br then 0 else 40) := by rw [hbr]; exact HRE.out
  have HRI := Lib.hid hRid
  have HBI := Lib.hid hrr
  rw [← hA] at h68 HTB HPA ⊢
  have H68 := Lib.hid h68
  clear hV hF hnn hA h68 hlv hres hre hre2 hbl hrest hlen hin hR htw hpb hRid hrr hbr
  go_enter Tryd.func13, Tryd.ntmps13
  go_upto_region 1 with fail
  refine wp_any (fun W => Below w.heap.size w W ∧ Bk W w.heap.size 40 A) ⟨(Below.refl _ _).alloc (Nat.le_refl _) _, Bk.new _ _ _⟩ ?_
  obtain ⟨g, hg⟩ : ∃ g, g = w.heap.size := ⟨_, rfl⟩
  rw [← hg]
  rintro W ⟨hW, K⟩
  have HW : Hid (Below w.heap.size w W) := by rw [hg] at hW; exact hW
  have HK := Lib.hid K
  have c68 := (K.cell 68).trans H68.out
  have zg := K.lt
  clear hW K hg
  by_cases h1 : n < 1
  · have q1 : decide ((n : Int) < 1) = true := decide_eq_true (by omega)
    have hr : res = 120 := HRS.out.trans (if_pos (by omega))
    clear h1
    go_wp2_with fail
    go_ret
    exact ⟨by rw [hr]; rfl, HW.out⟩
  have q1 : decide ((n : Int) < 1) = false := decide_eq_false (by omega)
  by_cases h2 : 32 < n
  · have q2 : decide ((32 : Int) < (n : Int)) = true := decide_eq_true (by omega)
    have hr : res = 120 := HRS.out.trans (if_pos (by omega))
    clear h2
    go_wp2_with fail
    go_ret
    exact ⟨by rw [hr]; rfl, HW.out⟩
  have q2 : decide ((32 : Int) < (n : Int)) = false := decide_eq_false (by omega)
  have HRS := Lib.hid (HRS.out.trans (if_neg (fun h => h ⟨by omega, by omega⟩)))
  clear h1 h2
  go_wp2_with fail
  clear q1 q2
  go_loopw [3] (fun i wr => ∃ k : Nat, k ≤ n ∧ i = .int .i64 k ∧ Hid (res = if txsE (decide (k = 0)) (b.txs.drop k) ≠ 0 then txsE (decide (k = 0)) (b.txs.drop k) else rest) ∧ Hid (Below w.heap.size w wr) ∧ Hid (Bk wr g 40 A)) (fun i _ => n - (intOf i).toNat)
  case atStart => exact ⟨0, Nat.zero_le _, rfl, HRS, HW.out, HK.out⟩
  case round =>
    obtain ⟨k, hk, rfl, HR, HWr, HKr⟩ := hrel
    clear HW HK c68 zg HRS
    have c68 := (HKr.out.cell 68).trans H68.out
    have zg := HKr.out.lt
    by_cases hlt : k < n
    · obtain ⟨t, bb, o, hkt, rfl, hbw, hrg⟩ := HL.out k (by have := HN.out; omega)
      have j1 : decide ((k : Int) < (n : Int)) = true := decide_eq_true (by omega)
      have j2 : (k : Int) < (n : Int) := by omega
      have hmem := List.mem_of_getElem? hkt
      replace hrg := rr_below hrg HWr.out hbw
      change wr.rangeAt bb (o + k * 2) [t.iv, t.ov] at hrg
      have c0_ : wr.cell? ⟨bb, o + k * 2, none⟩ = some t.iv := hrg 0 _ rfl
      have c1_ : wr.cell? ⟨bb, o + k * 2 + 1, none⟩ = some t.ov := hrg 1 _ rfl
      have hbr : bb < wr.heap.size := Nat.lt_of_lt_of_le hbw HWr.out.size
      have hDR : b.txs.drop k = t :: b.txs.drop (k + 1) := by
        obtain ⟨hk', hx⟩ := List.getElem?_eq_some_iff.1 hkt
        rw [List.drop_eq_getElem_cons hk', hx]
      obtain ⟨kf, hkf⟩ : ∃ f, f = decide (k = 0) := ⟨_, rfl⟩
      have q0 : ((k : Int) == 0) = kf := by
        rw [hkf]
        by_cases h : k = 0
        · rw [h]; rfl
        · rw [decide_eq_false h]
          simp
          omega
      have hr1 := HR.out
      rw [hDR, ← hkf] at hr1
      unfold txsE at hr1
      have HTC := Lib.hid (HTX.out t hmem kf)
      obtain ⟨te, hte⟩ : ∃ e, e = txE kf t := ⟨_, rfl⟩
      rw [← hte] at hr1 HTC
      have hk1 : decide (k + 1 = 0) = false := decide_eq_false (by omega)
      have HRB : Hid (te ≠ 0 → res = te) := fun h => by rw [if_pos h, if_pos h] at hr1; exact hr1
      have HRG : Hid (te = 0 → res = if txsE (decide (k + 1 = 0)) (b.txs.drop (k + 1)) ≠ 0 then txsE (decide (k + 1 = 0)) (b.txs.drop (k + 1)) else rest) := fun h => by
        rw [show (if te ≠ 0 then te else txsE false (b.txs.drop (k + 1))) = txsE false (b.txs.drop (k + 1)) from if_neg (fun h' => h' h)] at hr1
        rw [hk1]
        exact hr1
      obtain ⟨a1, ha1⟩ : ∃ a, a = t.iv := ⟨_, rfl⟩
      obtain ⟨a2, ha2⟩ : ∃ a, a = t.ov := ⟨_, rfl⟩
      rw [← ha1, ← ha2] at HTC
      rw [← ha1] at c0_
      rw [← ha2] at c1_
      obtain ⟨sa, na, ca, ea⟩ : ∃ s n c, a1 = .slice s n c := ⟨_, _, _, ha1⟩
      obtain ⟨sb, nb, cb, eb⟩ : ∃ s n c, a2 = .slice s n c := ⟨_, _, _, ha2⟩
      subst ea
      subst eb
      have HTC2 := Lib.hid (HTC.out wr HWr.out)
      clear ha1 ha2 hrg hkt hmem hbw hDR hr1 hte hk1 hkf HR HTC
      cases kf
      all_goals
        go_wp2_with fail
        refine HTC2.out.mono ?_
        rintro e W1 ⟨rfl, hb1⟩
        have HW1 := Lib.hid (below_step HWr.out HWr.out.size hb1)
        have HK1 := Lib.hid (HKr.out.keep hb1)
        clear hb1 c0_ c1_ c68 zg hbr
        by_cases ht : te = 0
        · have q : ((te : Int) != 0) = false := by rw [ht]; rfl
          have HR2 := Lib.hid (HRG.out ht)
          clear ht
          go_wp2_with fail
          go_roundw
          case rel => exact ⟨k + 1, by omega, by go_num, HR2, HW1, HK1⟩
          case measure => simp [intOf]; omega
        · have q : ((te : Int) != 0) = true := by simp; omega
          have hr := HRB.out ht
          clear ht
          go_wp2_with fail
          go_ret
          exact ⟨by first | rfl | (rw [hr]; rfl) | rw [hr], HW1.out⟩
    · obtain rfl : k = n := by omega
      have j1 : decide ((k : Int) < (k : Int)) = false := decide_eq_false (by omega)
      have hr := HR.out
      rw [show b.txs.drop k = [] by rw [HN.out]; exact List.drop_length] at hr
      replace hr : res = rest := by
        unfold txsE at hr
        simpa using hr
      have HR2 := Lib.hid (hr.trans HRT.out)
      clear hlt hr HR
      go_upto_region 9 with fail
      clear c68 j1
      have KB := HKr.out
      go_wp2_with (refine wpList_load_row rfl 40 (.tmp 1) rfl g rfl 40 A (0, 0) _ KB Tryd.underlying40 rfl HIN.out ?_)
      refine (HTB.out _ HWr.out).mono ?_
      rintro e W1 ⟨⟨s1, rfl, hs1⟩, hb1⟩
      have HW1 := Lib.hid (below_step HWr.out HWr.out.size hb1)
      have KB := KB.keep hb1
      have HKB := Lib.hid KB
      have zg := KB.lt
      have HS1 := Lib.hid hs1
      clear hb1 hs1
      by_cases h8 : 8192 < s1.size
      · have d8 : decide ((8192 : Int) < (s1.size : Int)) = true := decide_eq_true (by omega)
        have hr : res = 2 := HR2.out.trans (if_pos (by rw [← HS1.out]; exact h8))
        clear h8
        go_wp2_with fail
        go_ret
        exact ⟨by first | rfl | (rw [hr]; rfl), HW1.out⟩
      have d8 : decide ((8192 : Int) < (s1.size : Int)) = false := decide_eq_false (by omega)
      have HR2 : Hid (res = re) := HR2.out.trans (if_neg (by rw [← HS1.out]; exact h8))
      clear h8
      go_wp2_with (refine wpList_load_row rfl 40 (.tmp 1) rfl g rfl 40 A (0, 0) _ KB Tryd.underlying40 rfl HIN.out ?_)
      refine (HPA.out _ HW1.out).mono ?_
      rintro e W2 ⟨rfl, hb2⟩
      have HW2 := Lib.hid (below_step HW1.out HW1.out.size hb2)
      have HK2 := Lib.hid (HKB.out.keep hb2)
      have c68 := (HK2.out.cell 68).trans H68.out
      have zg2 := HK2.out.lt
      clear hb2 d8 KB HKB zg
      rcases Bool.eq_false_or_eq_true pb with rfl | rfl
      · have hr : res = 40 := HR2.out.trans (HRE.out.trans (if_pos rfl))
        clear c68 zg2
        go_wp2_with fail
        go_ret
        exact ⟨by first | rfl | (rw [hr]; rfl), HW2.out⟩
      have HRE2 := Lib.hid (HR2.out.trans (HRE.out.trans (if_neg (by decide))))
      obtain ⟨RA, hRA⟩ : ∃ RA, RA = idA R := ⟨_, rfl⟩
      have hrt := HRR.out W2 HW2.out
      rw [← hRA] at hrt
      have HRA := Lib.hid hRA
      have hra32 : RA.size = 32 := by rw [hRA, idA_size, HRI.out.1]
      have ho1 : RA.all (·.oneCell') = true := by rw [hRA]; exact id_ones _
      clear hRA HRR HRE HR2 HTB HPA HTX
      go_wp2_with fail
      refine hrt.mono ?_
      rintro e w5 ⟨rfl, hb5⟩
      have HB5 := Lib.hid (below_step HW2.out HW2.out.size hb5)
      have HK5 := Lib.hid (HK2.out.keep hb5)
      have K7 : Bk (w5.alloc (.cells #[.int .u8 0, .int .u8 0, .int .u8 0, .int .u8 0, .int .u8 0, .int .u8 0, .int .u8 0, .int .u8 0, .int .u8 0, .int .u8 0, .int .u8 0, .int .u8 0, .int .u8 0, .int .u8 0, .int .u8 0, .int .u8 0, .int .u8 0, .int .u8 0, .int .u8 0, .int .u8 0, .int .u8 0, .int .u8 0, .int .u8 0, .int .u8 0, .int .u8 0, .int .u8 0, .int .u8 0, .int .u8 0, .int .u8 0, .int .u8 0, .int .u8 0, .int .u8 0] 22)) w5.heap.size 22 #[.int .u8 0, .int .u8 0, .int .u8 0, .int .u8 0, .int .u8 0, .int .u8 0, .int .u8 0, .int .u8 0, .int .u8 0, .int .u8 0, .int .u8 0, .int .u8 0, .int .u8 0, .int .u8 0, .int .u8 0, .int .u8 0, .int .u8 0, .int .u8 0, .int .u8 0, .int .u8 0, .int .u8 0, .int .u8 0, .int .u8 0, .int .u8 0, .int .u8 0, .int .u8 0, .int .u8 0, .int .u8 0, .int .u8 0, .int .u8 0, .int .u8 0, .int .u8 0] := Bk.new _ _ _
      have hth : (w5.alloc (.cells #[.int .u8 0, .int .u8 0, .int .u8 0, .int .u8 0, .int .u8 0, .int .u8 0, .int .u8 0, .int .u8 0, .int .u8 0, .int .u8 0, .int .u8 0, .int .u8 0, .int .u8 0, .int .u8 0, .int .u8 0, .int .u8 0, .int .u8 0, .int .u8 0, .int .u8 0, .int .u8 0, .int .u8 0, .int .u8 0, .int .u8 0, .int .u8 0, .int .u8 0, .int .u8 0, .int .u8 0, .int .u8 0, .int .u8 0, .int .u8 0, .int .u8 0, .int .u8 0] 22)).there w5.heap.size 0 RA.size := Bk.there K7 _ (by rw [hra32]; decide)
      have hinr : (Tryd.prog.info? 22).map (·.size) = some RA.size := by rw [hra32]; kernel_rfl
      have K7' : Bk ((w5.alloc (.cells #[.int .u8 0, .int .u8 0, .int .u8 0, .int .u8 0, .int .u8 0, .int .u8 0, .int .u8 0, .int .u8 0, .int .u8 0, .int .u8 0, .int .u8 0, .int .u8 0, .int .u8 0, .int .u8 0, .int .u8 0, .int .u8 0, .int .u8 0, .int .u8 0, .int .u8 0, .int .u8 0, .int .u8 0, .int .u8 0, .int .u8 0, .int .u8 0, .int .u8 0, .int .u8 0, .int .u8 0, .int .u8 0, .int .u8 0, .int .u8 0, .int .u8 0, .int .u8 0] 22)).setCells w5.heap.size 0 RA.toList) w5.heap.size 22 RA := Bk.setAll K7 (by rw [hra32]; rfl)
      have hB7 : Below w5.heap.size w5 ((w5.alloc (.cells #[.int .u8 0, .int .u8 0, .int .u8 0, .int .u8 0, .int .u8 0, .int .u8 0, .int .u8 0, .int .u8 0, .int .u8 0, .int .u8 0, .int .u8 0, .int .u8 0, .int .u8 0, .int .u8 0, .int .u8 0, .int .u8 0, .int .u8 0, .int .u8 0, .int .u8 0, .int .u8 0, .int .u8 0, .int .u8 0, .int .u8 0, .int .u8 0, .int .u8 0, .int .u8 0, .int .u8 0, .int .u8 0, .int .u8 0, .int .u8 0, .int .u8 0, .int .u8 0] 22)).setCells w5.heap.size 0 RA.toList) := Below.setCells (Nat.le_refl _) _ _ _ ((Below.refl _ _).alloc (Nat.le_refl _) _)
      clear hb5 hrt c68 zg2 K7
      go_upto_region 14 with (refine wpList_store_mid rfl 22 (.tmp 5) (.tmp 45) rfl w5.heap.size 0 RA rfl rfl hth hinr ho1 ?_)
      refine wp_any (fun W => Below w5.heap.size w5 W ∧ Bk W w5.heap.size 22 RA) ⟨hB7, K7'⟩ ?_
      clear hth hinr ho1 K7' hB7
      rintro W7 ⟨hB7, hK7⟩
      have HB7 := Lib.hid (below_step HB5.out HB5.out.size hB7)
      have HK7 := Lib.hid hK7
      have HKB7 := Lib.hid (HK5.out.keep hB7)
      clear hB7 hK7 HK5 HB5
      generalize w5.heap.size = g5 at *
      rcases Bool.eq_false_or_eq_true tw with rfl | rfl
      · have hr : res = 40 := HRE2.out.trans (if_pos rfl)
        go_wp2_with fail
        go_ret
        exact ⟨by first | rfl | (rw [hr]; rfl), HB7.out⟩
      have HRE3 := Lib.hid (HRE2.out.trans (if_neg (by decide)))
      obtain ⟨tj, htj⟩ : ∃ tj : TypeId, tj = 23 := ⟨_, rfl⟩
      obtain ⟨tl, htl⟩ : ∃ tl : TypeId, tl = 22 := ⟨_, rfl⟩
      obtain ⟨sj, hsj0⟩ : ∃ sj : Nat, sj = 32 := ⟨_, rfl⟩
      have hagj : ∀ w, (isAgg tj).run Tryd.prog w = .ok true w := by rw [htj]; exact id_agg
      have hszj : ∀ w, (sizeOf tj).run Tryd.prog w = .ok sj w := by rw [htj, hsj0]; exact id_size
      have hagl : ∀ w, (isAgg tl).run Tryd.prog w = .ok true w := by rw [htl]; exact fun w => by kernel_rfl
      have hszl : ∀ w, (sizeOf tl).run Tryd.prog w = .ok sj w := by rw [htl, hsj0]; exact fun w => by kernel_rfl
      have hl5 : (loadCellsFrom ⟨g5, 0, none⟩ 0 sj #[]).run Tryd.prog W7 = .ok RA W7 := by
        have h := HK7.out
        rw [HRA.out] at h
        rw [hsj0, HRA.out]
        exact id_load _ _ _ _ HRI.out.1 h.range0
      have hlg : (loadCellsFrom ⟨g, 33, none⟩ 0 sj #[]).run Tryd.prog W7 = .ok (idA br) W7 := by rw [hsj0]; exact HRO.out _ _ HKB7.out
      obtain ⟨BA, hBA⟩ : ∃ BA, BA = idA br := ⟨_, rfl⟩
      rw [← hBA] at hlg
      have hne : ∀ W, (binOp .neq 22 (.agg RA) (.agg BA)).run Tryd.prog W = .ok (.bool (!decide (R = br))) W := by
        rw [HRA.out, hBA]
        exact r_neq R br HRI.out.1 HBI.out.1
      have hgd : ∀ W op a b, (eqGuard op 22 a b (.agg RA) (.agg BA)).run Tryd.prog W = .ok () W := fun W op a b => run_eqGuard_agg (P := Tryd.prog) W op 22 a b RA BA (by kernel_rfl)
      have z7 := HK7.out.lt
      have z6 := HKB7.out.lt
      have HTJ := (show ∀ z, Op.load 23 z = Op.load tj z from fun z => by rw [htj])
      have HTL := (show ∀ z, Op.load 22 z = Op.load tl z from fun z => by rw [htl])
      simp only [HTJ, HTL]
      clear HTJ HTL htj htl hsj0 hBA
      by_cases hrb : R = br
      · have hr : res = 0 := HRE3.out.trans (if_pos hrb)
        simp only [decide_eq_true hrb, Bool.not_true] at hne
        clear hrb
        go_wp2_with fail
        go_ret
        exact ⟨by first | rfl | (rw [hr]; rfl), HB7.out⟩
      · have hr : res = 40 := HRE3.out.trans (if_neg hrb)
        simp only [decide_eq_false hrb, Bool.not_false] at hne
        clear hrb
        go_wp2_with fail
        go_ret
        exact ⟨by first | rfl | (rw [hr]; rfl), HB7.out⟩
end Go.Proofs.YtmjiadfdmchhaaaDoor
