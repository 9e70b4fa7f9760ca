/-
  The document's names and Data; the laws' own plain.
-/
import Derived.Test.YtfflgimbgmbpaaaDoorMsY
import Derived.Test.YtfflgimbgmbpaaaDoorTbl
import Derived.Lib.QuietBelow
namespace Go.Proofs.YtfflgimbgmbpaaaDoor
open Go.RowKit
open Go.Sort (grow)
set_option linter.unusedVariables false
set_option linter.unusedSimpArgs false
set_option maxRecDepth 100000

theorem bs_range {w : World} {b o B : Nat} {x : I32} (h : w.rangeAt b o (x.1.map byteV)) (hb : b < B) : BsV w B (.slice (some ⟨b, o, none⟩) 32 32) x.1 :=
  ⟨some ⟨b, o, none⟩, 32, by rw [x.2.1], by rw [x.2.1]; exact Nat.le_refl _, by omega, x.2.2, fun _ => ⟨b, o, rfl, hb, fun i hi => h i _ (by_get x i (by rw [← x.2.1]; exact hi))⟩⟩
set_option maxHeartbeats 8000000 in
theorem refnames_any (s0 : Option Addr) (n c : Nat) (L : List I32) (w : World) (hR : RowV idR w w.heap.size (.slice s0 n c) L) (hn : n ≤ 100) :
    Calls Tryd.prog 68 #[.slice s0 n c] w fun r w' => r = .returned (.string (strN (nmB L))) ∧ Below w.heap.size w w' := by
  have hnl : n = L.length := by obtain ⟨s, cap, e, _⟩ := hR; injection e
  have HN := Lib.hid hnl
  have HL : Hid (∀ k, k < n → ∃ x b o, L[k]? = some x ∧ s0 = some ⟨b, o, none⟩ ∧ b < w.heap.size ∧ w.rangeAt b (o + k * 32) (x.1.map byteV)) := by
    show ∀ k, k < n → _
    rw [hnl]
    exact row_at hR
  have hwr : IntKind.u64.wrap (n : Int) = (n : Int) := by simp [IntKind.wrap, IntKind.signed, IntKind.bits]; omega
  have HC := Lib.hid (rfcount_any n w (by omega))
  have HCL := Lib.hid (countL_len n)
  obtain ⟨u0, hu0⟩ : ∃ u, u = strN (countL n) := ⟨_, rfl⟩
  have HU0 := Lib.hid hu0
  rw [← hu0] at HC
  clear hR hnl hu0
  go_enter Tryd.func68, Tryd.ntmps68
  go_wp2_with fail
  refine HC.out.mono ?_
  rintro e w1 ⟨rfl, hb1⟩
  have HB1 := Lib.hid hb1
  clear hb1 HC hwr
  go_wp2_with fail
  go_loopw [3, 4] (fun sv i wr => ∃ (k : Nat) (u : ByteArray), k ≤ n ∧ i = .int .i64 k ∧ sv = .string u ∧ Hid (u = strN (countL n ++ idsB (L.take k))) ∧ Hid (Below w.heap.size w wr)) (fun _ i _ => n - (intOf i).toNat)
  case atStart => exact ⟨0, u0, Nat.zero_le _, rfl, rfl, by show _ = _; rw [List.take_zero]; show _ = strN (countL n ++ []); rw [List.append_nil]; exact HU0.out, HB1.out⟩
  case round =>
    obtain ⟨k, u, hk, rfl, rfl, HU, HB⟩ := hrel
    by_cases hlt : k < n
    · obtain ⟨x, b, o, hkt, rfl, hbw, hrg⟩ := HL.out k hlt
      have j1 : decide ((k : Int) < (n : Int)) = true := decide_eq_true (by omega)
      have j2 : decide (k < n) = true := decide_eq_true hlt
      replace hrg := rr_below hrg HB.out hbw
      have hbr : b < wr.heap.size := Nat.lt_of_lt_of_le hbw HB.out.size
      have hcv := conv_bs (bs_range hrg hbr)
      have HU2 : Hid (u ++ strN x.1 = strN (countL n ++ idsB (L.take (k + 1)))) := by show _ = _; rw [HU.out, strN_append, idsB_take L k x hkt, List.append_assoc]
      have hs2 : (strN x.1).size ≤ 32 := by rw [strN_size, x.2.1]; exact Nat.le_refl _
      have hs1 : u.size ≤ 9 + 32 * 100 := by
        rw [HU.out, strN_size, List.length_append, idsB_len]
        have h1 := HCL.out
        have h2 := List.length_take_le k L
        omega
      generalize strN x.1 = ux at *
      clear hrg hkt hbw
      go_wp2_with fail
      go_roundw
      case rel => exact ⟨k + 1, _, by omega, by go_num, rfl, HU2, HB⟩
      case measure => simp [intOf]; omega
    · obtain rfl : k = n := by omega
      have j1 : decide ((k : Int) < (k : Int)) = false := decide_eq_false (by omega)
      have hu : u = strN (nmB L) := by
        have h := HU.out
        rw [HN.out, List.take_length] at h
        exact h
      have HUE := Lib.hid hu
      clear hlt HU hu
      go_wp2_with fail
      go_ret
      exact ⟨by rw [HUE.out]; rfl, HB.out⟩
theorem zms : Tryd.zeroCells73 = (msL ms0).toArray := by kernel_rfl
theorem zms_i : (Tryd.prog.info? 73).map (·.size) = some 106 := by kernel_rfl
theorem fold_ovr9 (L : List Value) (o : Nat) : ∀ (k : Nat) (Z : Array Value), List.foldl (fun (cs : Array Value) (x : Value × Nat) => cs.setIfInBounds (o + x.snd) x.fst) Z (L.zipIdx k) = ovr Z (o + k) L := by
  induction L with
  | nil => intro k Z; rfl
  | cons v r ih =>
    intro k Z
    rw [List.zipIdx_cons, List.foldl_cons, ih (k + 1)]
    rfl
theorem plain_cells (m : MsM) (h : IsHd m.bk.hd) : List.foldl (fun (cs : Array Value) (x : Value × Nat) => cs.setIfInBounds (37 + x.snd) x.fst) ((List.foldl (fun (cs : Array Value) (x : Value × Nat) => cs.setIfInBounds (4 + x.snd) x.fst) ((((Tryd.zeroCells73.setIfInBounds 0 (.int .i64 m.kd)).setIfInBounds 1 (.int .u64 (m.nc : Int))).setIfInBounds 2 (.int .u32 (m.ht : Int))).setIfInBounds 3 (.slice m.ns m.nm.length m.cn)) (m.st.1.map byteV).zipIdx).setIfInBounds 36 (.slice m.hs m.hd.length m.ch)) (blkL m.bk).zipIdx = (msL m).toArray := by
  rw [fold_ovr9, fold_ovr9, zms, ms_kd, ms_nc { ms0 with kd := m.kd }, ms_ht { ms0 with kd := m.kd, nc := m.nc }, ms_nm { ms0 with kd := m.kd, nc := m.nc, ht := m.ht }, ms_st { ms0 with kd := m.kd, nc := m.nc, ht := m.ht, ns := m.ns, cn := m.cn, nm := m.nm }, ms_hd { ms0 with kd := m.kd, nc := m.nc, ht := m.ht, ns := m.ns, cn := m.cn, nm := m.nm, st := m.st }]
  exact ms_bk { ms0 with kd := m.kd, nc := m.nc, ht := m.ht, ns := m.ns, cn := m.cn, nm := m.nm, st := m.st, hs := m.hs, ch := m.ch, hd := m.hd } m.bk hd0_is h
set_option maxHeartbeats 8000000 in
theorem mplain_any (m : MsM) (w : World) (h : IsHd m.bk.hd) : Calls Tryd.prog 28 #[.agg (msL m).toArray] w fun r w' => r = .returned (.agg (msL m).toArray) ∧ Below w.heap.size w w' := by
  have hms := fun (W : World) (g : Nat) (K : Bk W g 63 (msL m).toArray) => ms_block K
  have HMS := Lib.hid hms
  have hst := fun (W : World) (g : Nat) (K : Bk W g 63 (msL m).toArray) => ms_stop K
  have HST := Lib.hid hst
  have h0 := msL_0 m
  have h1 := msL_1 m
  have h2 := msL_2 m
  have h3 := msL_3 m
  have h36 := msL_36 m
  unfold MsM.nv at h3
  unfold MsM.hv at h36
  have hcl := plain_cells m h
  have hsz1 : (List.foldl (fun (cs : Array Value) (x : Value × Nat) => cs.setIfInBounds (4 + x.snd) x.fst) ((((Tryd.zeroCells73.setIfInBounds 0 (.int .i64 m.kd)).setIfInBounds 1 (.int .u64 (m.nc : Int))).setIfInBounds 2 (.int .u32 (m.ht : Int))).setIfInBounds 3 (.slice m.ns m.nm.length m.cn)) (m.st.1.map byteV).zipIdx).size = 106 := by
    rw [fold_ovr9, ovr_size, Array.size_setIfInBounds, Array.size_setIfInBounds, Array.size_setIfInBounds, Array.size_setIfInBounds, zms]
    exact msL_len hd0_is
  have HSZ : Hid ((msL m).toArray.size = 106) := msL_len h
  have HON : Hid ((msL m).toArray.all (·.oneCell') = true) := all_oneCell_toArray (msL_one m)
  have HBL : Hid ((blkL m.bk).length = 69) := blkL_len h
  have HIL : Hid ((m.st.1.map byteV).length = 32) := by show _ = _; rw [List.length_map, m.st.2.1]
  have hps1 : (Tryd.prog.info? 29).map (·.size) = some (blkL m.bk).length := by rw [HBL.out]; exact blk_infoS
  have hps2 : (Tryd.prog.info? 24).map (·.size) = some (m.st.1.map byteV).length := by rw [HIL.out]; exact id_infoW
  have HZ : Hid (Tryd.zeroCells73.size = 106) := by show _ = _; rw [zms]; exact msL_len hd0_is
  obtain ⟨A, hA⟩ : ∃ A, A = (msL m).toArray := ⟨_, rfl⟩
  rw [← hA] at h0 h1 h2 h3 h36 HMS HST HSZ HON hcl ⊢
  obtain ⟨BL, hBL⟩ : ∃ B, B = blkL m.bk := ⟨_, rfl⟩
  rw [← hBL] at hps1 HMS hcl HBL
  obtain ⟨IL, hIL⟩ : ∃ B, B = m.st.1.map byteV := ⟨_, rfl⟩
  rw [← hIL] at hps2 HST hcl HIL hsz1
  generalize m.kd = kd at *
  generalize m.nc = nc at *
  generalize m.ht = ht at *
  generalize m.ns = ns at *
  generalize m.cn = cn at *
  generalize m.hs = hs at *
  generalize m.ch = ch at *
  generalize m.nm.length = ln at *
  generalize m.hd.length = lh at *
  clear hA hBL hIL hms hst h
  go_enter Tryd.func28, Tryd.ntmps28
  obtain ⟨ZC, hZC⟩ : ∃ Z, Z = Tryd.zeroCells73 := ⟨_, rfl⟩
  have HZE := Lib.hid hZC
  clear hZC
  go_upto_region 1 with fail
  rw [← HZE.out] at HZ ⊢
  refine wp_any (fun W => Below w.heap.size w W ∧ Bk W w.heap.size 63 A ∧ Bk W (w.heap.size + 1) 73 ZC) ⟨((Below.refl _ _).alloc (Nat.le_refl _) _).alloc (by simp) _, (Bk.new _ _ _).alloc _, Bk.new' _ _ _ (by simp)⟩ ?_
  obtain ⟨g2, hg2⟩ : ∃ g2, g2 = w.heap.size + 1 := ⟨_, rfl⟩
  have HG : Hid (w.heap.size ≤ g2) := by show _ ≤ _; omega
  rw [← hg2]
  obtain ⟨g1, hg1⟩ : ∃ g, g = w.heap.size := ⟨_, rfl⟩
  rintro W ⟨hW, K1, K2⟩
  rw [← hg1] at K1
  rw [show (some ⟨w.heap.size, 0, none⟩ : Option Addr) = some ⟨g1, 0, none⟩ by rw [hg1]]
  have HW := Lib.hid hW
  have c0 := (K1.cell 0).trans h0
  have c1 := (K1.cell 1).trans h1
  have c2 := (K1.cell 2).trans h2
  have c3 := (K1.cell 3).trans h3
  have c36 := (K1.cell 36).trans h36
  have z1 := K1.lt
  have r1 := HMS.out W _ K1
  have r2 := HST.out W _ K1
  have HK2 := Lib.hid K2

  have hil : IL.length = 32 := HIL.out
  have hbl : BL.length = 69 := HBL.out
  clear hg1 hW K1 K2 h0 h1 h2 h3 h36 hg2
  go_wp2_with (first | (refine wpList_load_mid rfl 24 (.tmp 11) rfl g1 4 rfl IL _ r2 Tryd.underlying24 rfl hps2 ?_) | (refine wpList_load_mid rfl 29 (.tmp 15) rfl g1 37 rfl BL _ r1 Tryd.underlying29 rfl hps1 ?_) | (refine wpList_store_mid rfl 73 (.tmp 2) (.tmp 17) rfl g2 0 A rfl rfl (by rw [HSZ.out]; exact HK2.out.there 106 (by rw [HZ.out]; exact Nat.le_refl _)) (by rw [HSZ.out]; exact zms_i) HON.out ?_))
  refine bodyPost_ret (results_cell_row rfl _ _ g2 73 A (0, 0) _ rfl (HK2.out.setAll (HSZ.out.trans HZ.out.symm)) Tryd.underlying73 rfl (by rw [HSZ.out]; exact zms_i)) rfl ⟨rfl, Below.setCells HG.out _ _ _ HW.out⟩
end Go.Proofs.YtfflgimbgmbpaaaDoor
