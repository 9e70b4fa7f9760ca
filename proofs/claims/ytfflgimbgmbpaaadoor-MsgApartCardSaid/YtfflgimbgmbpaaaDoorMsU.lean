/-
  The document's Data.
-/
import Derived.Test.YtfflgimbgmbpaaaDoorMsT
namespace Go.Proofs.YtfflgimbgmbpaaaDoor
open Go.RowKit
open Go.Sort (grow)
set_option linter.unusedVariables false
set_option linter.unusedSimpArgs false
set_option maxRecDepth 100000

def datS (m : MsM) : List Nat := if msE m = 0 then dataL m else []
theorem kindsA (k : Int) : k = 1 ∨ k = 2 ∨ k = 3 ∨ k = 4 ∨ k = 5 ∨ k = 6 ∨ k = 8 ∨ k = 7 ∨ k = 9 ∨ k = 10 ∨ (k ≠ 1 ∧ k ≠ 2 ∧ k ≠ 3 ∧ k ≠ 4 ∧ k ≠ 5 ∧ k ≠ 6 ∧ k ≠ 8 ∧ k ≠ 7 ∧ k ≠ 9 ∧ k ≠ 10) := by omega
theorem e_ok {m : MsM} {k : Int} (h : k = m.kd) (h1 : 1 ≤ k ∧ k ≤ 10) (hl : ¬ MsLong m) : msE m = 0 ∧ datS m = dataL m := by
  have e := msE_ok (m := m) (by rw [← h]; omega) hl
  exact ⟨e, by unfold datS; rw [if_pos e]⟩
theorem e_long {m : MsM} {k : Int} (h : k = m.kd) (h1 : 1 ≤ k ∧ k ≤ 10) (hl : MsLong m) : msE m = 2 ∧ datS m = [] := by
  have e := msE_long (m := m) (by rw [← h]; omega) hl
  exact ⟨e, by unfold datS; rw [if_neg (by rw [e]; decide)]⟩
theorem e_bad {m : MsM} (h : m.kd < 1 ∨ 10 < m.kd) : msE m = 90 ∧ datS m = [] := by
  have e := msE_bad h
  exact ⟨e, by unfold datS; rw [if_neg (by rw [e]; decide)]⟩
theorem nolong {m : MsM} {k : Int} (h : k = m.kd) (h1 : k = 1 ∨ k = 2 ∨ k = 9 ∨ k = 10) : ¬ MsLong m := by unfold MsLong; rw [← h]; omega
theorem data_2 {m : MsM} (h : 2 = m.kd) : dataL m = [] := by unfold dataL; rw [← h]; rfl
theorem str_nil : strN [] = ⟨#[]⟩ := by decide +kernel
set_option maxHeartbeats 16000000 in
theorem refdata_any (m : MsM) (w : World) (hV : MsV w w.heap.size m) (hF : MsFit m) :
    Calls Tryd.prog 27 #[.agg (msL m).toArray] w fun r w' => r = .returned (.tuple #[.string (strN (datS m)), .int .i64 ((msE m : Nat) : Int)]) ∧ Below w.heap.size w w' := by
  have HV := Lib.hid hV
  have HF := Lib.hid hF
  have hms := fun (W : World) (g : Nat) (K : Bk W g 73 (msL m).toArray) => ms_block K
  have HMS := Lib.hid hms
  have hst := fun (W : World) (g : Nat) (K : Bk W g 73 (msL m).toArray) => ms_stop K
  have HST := Lib.hid hst
  have h0 := msL_0 m
  have h1 := msL_1 m
  have h2 := msL_2 m
  have h3 := msL_3 m
  have h36 := msL_36 m
  obtain ⟨kd, hkd⟩ : ∃ kd, kd = m.kd := ⟨_, rfl⟩
  rw [← hkd] at h0
  have HKD := Lib.hid hkd
  unfold MsM.nv at h3
  unfold MsM.hv at h36
  obtain ⟨n3, hn3⟩ : ∃ n, n = m.nm.length := ⟨_, rfl⟩
  obtain ⟨n5, hn5⟩ : ∃ n, n = m.hd.length := ⟨_, rfl⟩
  rw [← hn3] at h3
  rw [← hn5] at h36
  have HN3 := Lib.hid hn3
  have HN5 := Lib.hid hn5
  obtain ⟨A, hA⟩ : ∃ A, A = (msL m).toArray := ⟨_, rfl⟩
  rw [← hA] at h0 h1 h2 h3 h36 HMS HST ⊢
  have H0 := Lib.hid h0
  have H1 := Lib.hid h1
  have H2 := Lib.hid h2
  have H3 := Lib.hid h3
  have H36 := Lib.hid h36
  clear hV hF hA hms hst h0 h1 h2 h3 h36 hkd hn3 hn5
  go_enter Tryd.func27, Tryd.ntmps27
  go_upto_region 1 with fail
  refine wp_any (fun W => Below w.heap.size w W ∧ Bk W w.heap.size 73 A) ⟨(Below.refl _ _).alloc (Nat.le_refl _) _, Bk.new _ _ _⟩ ?_
  rintro W ⟨hW, K0⟩
  obtain ⟨g0, hg0⟩ : ∃ g0, g0 = w.heap.size := ⟨_, rfl⟩
  rw [← hg0] at K0 ⊢
  have HW : Hid (Below w.heap.size w W) := by rw [← hg0]; exact hg0 ▸ hW
  have HK0 := Lib.hid K0
  have HVW := Lib.hid ((HV.out.keep HW.out (Nat.le_refl _)).mono HW.out.size)
  have c0 := (K0.cell 0).trans H0.out
  have z0 := K0.lt
  have HFIN : Hid (∀ (u : ByteArray) (e : Nat) (W' : World), u = strN (datS m) → e = msE m → Below w.heap.size w W' → (Ending.returned (.tuple #[.string u, .int .i64 (e : Int)]) = .returned (.tuple #[.string (strN (datS m)), .int .i64 ((msE m : Nat) : Int)]) ∧ Below w.heap.size w W')) := fun u e W' h1 h2 h3 => ⟨by rw [h1, h2], h3⟩
  clear hg0 hW K0
  rcases kindsA kd with rfl | rfl | rfl | rfl | rfl | rfl | rfl | rfl | rfl | rfl | hx
  · have HE := Lib.hid (e_ok HKD.out (by decide) (nolong HKD.out (by decide)))
    have c1 := (HK0.out.cell 1).trans H1.out
    have c2 := (HK0.out.cell 2).trans H2.out
    have HLN := Lib.hid HV.out.1
    obtain ⟨u1, hu1⟩ : ∃ u, u = strN (toL 1 4) := ⟨_, rfl⟩
    obtain ⟨u2, hu2⟩ : ∃ u, u = strN (toL m.nc 8) := ⟨_, rfl⟩
    obtain ⟨u3, hu3⟩ : ∃ u, u = strN (toL m.ht 4) := ⟨_, rfl⟩
    have HU : Hid (u1 ++ u2 ++ u3 = strN (datS m)) := by show _ = _; rw [hu1, hu2, hu3, HE.out.2, data_1 HKD.out, strN_append, strN_append, List.append_assoc]
    have s1 : u1.size = 4 := by rw [hu1, strN_size, toL_length]
    have s2 : u2.size = 8 := by rw [hu2, strN_size, toL_length]
    have s3 : u3.size = 4 := by rw [hu3, strN_size, toL_length]
    have HN1 : Hid (∀ W, Calls Tryd.prog 67 #[.int .i64 4, .int .u64 1] W fun e w' => e = .returned (.string u1) ∧ Below W.heap.size W w') := fun W => by rw [hu1]; exact rfnum_any 4 1 W (by decide) (by decide)
    have HN2 : Hid (∀ W, Calls Tryd.prog 67 #[.int .i64 8, .int .u64 (m.nc : Int)] W fun e w' => e = .returned (.string u2) ∧ Below W.heap.size W w') := fun W => by rw [hu2]; exact rfnum_any 8 m.nc W (by decide) HLN.out.2.1
    have HN3 : Hid (∀ W, Calls Tryd.prog 67 #[.int .i64 4, .int .u64 (m.ht : Int)] W fun e w' => e = .returned (.string u3) ∧ Below W.heap.size W w') := fun W => by rw [hu3]; exact rfnum_any 4 m.ht W (by decide) (by have := HLN.out.2.2.1; omega)
    have hwt : IntKind.u64.wrap (m.ht : Int) = (m.ht : Int) := by have := HLN.out.2.2.1; simp [IntKind.wrap, IntKind.signed, IntKind.bits]; omega
    have hs12 : (u1 ++ u2).size = 12 := by rw [ByteArray.size_append, s1, s2]
    generalize m.nc = nc at *
    generalize m.ht = ht at *
    have r1 := cell_regrown c1
    have r2 := cell_regrown c2
    clear hu1 hu2 hu3
    go_upto_region 3 with fail
    refine wp_region_quiet_below (by kernel_rfl) (by kernel_rfl) ?_
    quiet_step (exact Calls.regrown_of (HN1.out _))
    quiet_step (fail)
    quiet_step (fail)
    quiet_step (exact Calls.regrown_of (HN2.out _))
    quiet_step (fail)
    quiet_step (fail)
    quiet_step (fail)
    quiet_step (fail)
    quiet_step (exact Calls.regrown_of (HN3.out _))
    quiet_step (fail)
    quiet_step (fail)
    quiet_step (fail)
    refine wpQuiet_nil ?_
    intro _ hw'
    obtain ⟨⟨dq, osq⟩, hw''⟩ := hw'
    subst hw''
    have HG := Lib.hid (below_step HW.out HW.out.size (below_regrown W dq osq))
    clear r1 r2 c0 c1 c2 z0 s1 s2 s3 hs12 hwt
    show Exit.then _ _ Exit.normal _ (Go.Sort.grow (redrawn W dq) osq)
    generalize Go.Sort.grow (redrawn W dq) osq = W2 at *
    go_wp2_with fail
    go_ret2
    exact HFIN.out _ 0 _ (by exact HU.out) (by rw [HE.out.1]) HG.out
  · have HE := Lib.hid (e_ok HKD.out (by decide) (nolong HKD.out (by decide)))
    go_wp2_with fail
    go_ret2
    exact HFIN.out _ 0 _ (by rw [HE.out.2, data_2 HKD.out]; exact str_nil.symm) (by rw [HE.out.1]) HW.out
  · have c3 := (HK0.out.cell 3).trans H3.out
    have hrow : RowV idR W W.heap.size (.slice m.ns n3 m.cn) m.nm := by rw [HN3.out]; exact HVW.out.2.1
    have HNM := Lib.hid (fun d os => refnames_any m.ns n3 m.cn m.nm (grow (redrawn W d) os) ((hrow.keep (below_regrown W d os) (Nat.le_refl _)).mono (below_regrown W d os).size) (by rw [HN3.out]; exact HF.out.1))
    have HNW := Lib.hid (refnames_any m.ns n3 m.cn m.nm W hrow (by rw [HN3.out]; exact HF.out.1))
    generalize m.ns = mns at *
    generalize m.cn = mcn at *
    clear hrow
    by_cases hl : 32 < n3
    · have HE := Lib.hid (e_long HKD.out (by decide) ((long_3 HKD.out).2 (by rw [← HN3.out]; exact hl)))
      have q1 : decide ((32 : Int) < (n3 : Int)) = true := decide_eq_true (by omega)
      clear hl
      go_wp2_with fail
      go_ret2
      exact HFIN.out _ 2 _ (by rw [HE.out.2]; exact str_nil.symm) (by rw [HE.out.1]) HW.out
    · have HE := Lib.hid (e_ok HKD.out (by decide) (fun hc => hl (by have h := (long_3 HKD.out).1 hc; rw [← HN3.out] at h; exact h)))
      have q1 : decide ((32 : Int) < (n3 : Int)) = false := decide_eq_false (by omega)
      clear hl
      have hbs := bs_range (B := W.heap.size) (HST.out W g0 HK0.out) HK0.out.lt
      have hcv : ∀ d os, (convert 40 9 (.slice (some ⟨g0, 4, none⟩) 32 32)).run Tryd.prog (grow (redrawn W d) os) = .ok (.string (strN m.st.1)) (grow (redrawn W d) os) := fun d os => conv_bs (hbs.keep (below_regrown W d os) (Nat.le_refl _))
      obtain ⟨u1, hu1⟩ : ∃ u, u = strN (nmB m.nm) := ⟨_, rfl⟩
      obtain ⟨u2, hu2⟩ : ∃ u, u = strN m.st.1 := ⟨_, rfl⟩
      have HU : Hid (u1 ++ u2 = strN (datS m)) := by show _ = _; rw [hu1, hu2, HE.out.2, data_3 HKD.out, strN_append]
      have s1 : u1.size ≤ 4000 := by
        rw [hu1, strN_size]
        have h1 := nmB_len m.nm
        have h2 := HF.out.1
        omega
      have s2 : u2.size = 32 := by rw [hu2, strN_size, m.st.2.1]
      have s12 : ¬ (9223372036854775807 < u1.size + 32) := by omega
      rw [← hu1] at HNM
      rw [← hu2] at hcv
      have r3 := cell_regrown c3
      clear hu1 hu2 hbs HNW
      go_upto_region 9 with fail
      refine wp_region_quiet_below (by kernel_rfl) (by kernel_rfl) ?_
      quiet_step (fail)
      quiet_step (fail)
      quiet_step (exact Calls.regrown_of (HNM.out _ _))
      quiet_step (fail)
      quiet_step (fail)
      quiet_step (fail)
      quiet_step (fail)
      quiet_step (fail)
      quiet_step (fail)
      refine wpQuiet_nil ?_
      intro _ hw'
      obtain ⟨⟨dq, osq⟩, hw''⟩ := hw'
      subst hw''
      have HG := Lib.hid (below_step HW.out HW.out.size (below_regrown W dq osq))
      clear r3 c0 c3 z0 s1 s2 s12 hcv q1
      show Exit.then _ _ Exit.normal _ (Go.Sort.grow (redrawn W dq) osq)
      generalize Go.Sort.grow (redrawn W dq) osq = W2 at *
      go_wp2_with fail
      go_ret2
      exact HFIN.out _ 0 _ (by exact HU.out) (by rw [HE.out.1]) HG.out
  · have c36 := (HK0.out.cell 36).trans H36.out
    have HL : Hid (∀ k, k < n5 → ∃ x b o, m.hd[k]? = some x ∧ m.hs = some ⟨b, o, none⟩ ∧ b < W.heap.size ∧ W.rangeAt b (o + k * 68) (hdL x.1)) := by
      show ∀ k, k < n5 → _
      rw [HN5.out]
      exact row_at HVW.out.2.2.1
    have hn5 : n5 ≤ 100 := by rw [HN5.out]; exact HF.out.2.1
    have hwr : IntKind.u64.wrap (n5 : Int) = (n5 : Int) := by simp [IntKind.wrap, IntKind.signed, IntKind.bits]; omega
    have HC := Lib.hid (rfcount_any n5 W (by omega))
    obtain ⟨u0, hu0⟩ : ∃ u, u = strN (countL n5) := ⟨_, rfl⟩
    have HU0 := Lib.hid hu0
    rw [← hu0] at HC
    clear hu0
    generalize m.hs = mhs at *
    generalize m.ch = mch at *
    by_cases hl : 32 < n5
    · have HE := Lib.hid (e_long HKD.out (by decide) ((long_4 HKD.out).2 (by rw [← HN5.out]; exact hl)))
      have q1 : decide ((32 : Int) < (n5 : Int)) = true := decide_eq_true (by omega)
      clear hl
      go_wp2_with fail
      go_ret2
      exact HFIN.out _ 2 _ (by rw [HE.out.2]; exact str_nil.symm) (by rw [HE.out.1]) HW.out
    · have HE := Lib.hid (e_ok HKD.out (by decide) (fun hc => hl (by have h := (long_4 HKD.out).1 hc; rw [← HN5.out] at h; exact h)))
      have q1 : decide ((32 : Int) < (n5 : Int)) = false := decide_eq_false (by omega)
      clear hl
      go_wp2_with fail
      refine HC.out.mono ?_
      rintro e W1 ⟨rfl, hb1⟩
      have HW1 := Lib.hid hb1
      clear hb1 HC c0 c36 z0 hwr
      go_wp2_with fail
      go_loopw [4, 5] (fun sv i wr => ∃ (k : Nat) (u : ByteArray), k ≤ n5 ∧ i = .int .i64 k ∧ sv = .string u ∧ Hid (u = strN (countL n5 ++ hdsB (m.hd.take k))) ∧ Hid (Below W.heap.size W wr)) (fun _ i _ => n5 - (intOf i).toNat)
      case atStart => exact ⟨0, u0, Nat.zero_le _, rfl, rfl, by show _ = _; rw [List.take_zero]; show _ = strN (countL n5 ++ []); rw [List.append_nil]; exact HU0.out, HW1.out⟩
      case round =>
        obtain ⟨k, u, hk, rfl, rfl, HU, HB⟩ := hrel
        have K0 := HK0.out.keep HB.out
        have c36 := (K0.cell 36).trans H36.out
        have z0 := K0.lt
        clear K0
        by_cases hlt : k < n5
        · obtain ⟨x, b, o, hkt, rfl, hbw, hrg⟩ := HL.out k hlt
          have j1 : decide ((k : Int) < (n5 : Int)) = true := decide_eq_true (by omega)
          have j2 : decide (k < n5) = true := decide_eq_true hlt
          replace hrg := rr_below hrg HB.out hbw
          have hbr : b < wr.heap.size := Nat.lt_of_lt_of_le hbw HB.out.size
          have hps := row_size hdR_ok x
          change (Tryd.prog.info? 26).map (·.size) = some (hdL x.1).length at hps
          have HU2 : Hid (u ++ strN (hB x.1) = strN (countL n5 ++ hdsB (m.hd.take (k + 1)))) := by show _ = _; rw [HU.out, strN_append, hdsB_take m.hd k x hkt, List.append_assoc]
          have hs2 : (strN (hB x.1)).size = 80 := by rw [strN_size, hB_length x.2]
          have hs1 : u.size ≤ 9 + 80 * 100 := by
            rw [HU.out, strN_size, List.length_append, hdsB_len]
            have h1 := countL_len n5
            have h2 := List.length_take_le k m.hd
            omega
          have HBY : Hid (Calls Tryd.prog 64 #[.agg (hdL x.1).toArray] wr fun e w' => e = .returned (.string (strN (hB x.1))) ∧ Below wr.heap.size wr w') := bytes5_any x.1 wr x.2
          obtain ⟨ux, hux⟩ : ∃ ux, ux = strN (hB x.1) := ⟨_, rfl⟩
          rw [← hux] at HBY hs2 HU2
          obtain ⟨PL, hPL⟩ : ∃ PL, PL = hdL x.1 := ⟨_, rfl⟩
          rw [← hPL] at hrg hps HBY
          clear hkt hbw hux hPL
          go_wp2_with (refine wpList_load_mid rfl 26 (.tmp 58) rfl b (o + k * 68) rfl PL _ hrg Tryd.underlying26 rfl hps ?_)
          refine HBY.out.mono ?_
          rintro e W5 ⟨rfl, hb5⟩
          have HB5 := Lib.hid (below_step HB.out HB.out.size hb5)
          clear hb5 HBY hrg hps z0 c36
          go_wp2_with fail
          go_roundw
          case rel => exact ⟨k + 1, _, by omega, by go_num, rfl, HU2, HB5⟩
          case measure => simp [intOf]; omega
        · obtain rfl : k = n5 := by omega
          have j1 : decide ((k : Int) < (k : Int)) = false := decide_eq_false (by omega)
          have hu : u = strN (heB m.hd) := by
            have h := HU.out
            rw [HN5.out, List.take_length] at h
            exact h
          have HUE := Lib.hid hu
          have HBE := Lib.hid (below_step HW.out HW.out.size HB.out)
          clear hlt HU hu
          go_wp2_with fail
          go_ret2
          exact HFIN.out _ 0 _ (by rw [HE.out.2, data_4 HKD.out, HUE.out]) (by rw [HE.out.1]) HBE.out
  · have c3 := (HK0.out.cell 3).trans H3.out
    have hrow : RowV idR W W.heap.size (.slice m.ns n3 m.cn) m.nm := by rw [HN3.out]; exact HVW.out.2.1
    have HNM := Lib.hid (fun d os => refnames_any m.ns n3 m.cn m.nm (grow (redrawn W d) os) ((hrow.keep (below_regrown W d os) (Nat.le_refl _)).mono (below_regrown W d os).size) (by rw [HN3.out]; exact HF.out.1))
    have HNW := Lib.hid (refnames_any m.ns n3 m.cn m.nm W hrow (by rw [HN3.out]; exact HF.out.1))
    generalize m.ns = mns at *
    generalize m.cn = mcn at *
    clear hrow
    by_cases hl : 64 < n3
    · have HE := Lib.hid (e_long HKD.out (by decide) ((long_5 HKD.out).2 (by rw [← HN3.out]; exact hl)))
      have q1 : decide ((64 : Int) < (n3 : Int)) = true := decide_eq_true (by omega)
      clear hl
      go_wp2_with fail
      go_ret2
      exact HFIN.out _ 2 _ (by rw [HE.out.2]; exact str_nil.symm) (by rw [HE.out.1]) HW.out
    · have HE := Lib.hid (e_ok HKD.out (by decide) (fun hc => hl (by have h := (long_5 HKD.out).1 hc; rw [← HN3.out] at h; exact h)))
      have q1 : decide ((64 : Int) < (n3 : Int)) = false := decide_eq_false (by omega)
      clear hl
      go_wp2_with fail
      refine HNW.out.mono ?_
      rintro e W1 ⟨rfl, hb1⟩
      have HW1 := Lib.hid (below_step HW.out HW.out.size hb1)
      clear hb1 HNW HNM
      go_wp2_with fail
      go_ret2
      exact HFIN.out _ 0 _ (by rw [HE.out.2, data_5 HKD.out]) (by rw [HE.out.1]) HW1.out
  · have c3 := (HK0.out.cell 3).trans H3.out
    have hrow : RowV idR W W.heap.size (.slice m.ns n3 m.cn) m.nm := by rw [HN3.out]; exact HVW.out.2.1
    have HNM := Lib.hid (fun d os => refnames_any m.ns n3 m.cn m.nm (grow (redrawn W d) os) ((hrow.keep (below_regrown W d os) (Nat.le_refl _)).mono (below_regrown W d os).size) (by rw [HN3.out]; exact HF.out.1))
    have HNW := Lib.hid (refnames_any m.ns n3 m.cn m.nm W hrow (by rw [HN3.out]; exact HF.out.1))
    generalize m.ns = mns at *
    generalize m.cn = mcn at *
    clear hrow
    by_cases hl : 64 < n3
    · have HE := Lib.hid (e_long HKD.out (by decide) ((long_6 HKD.out).2 (by rw [← HN3.out]; exact hl)))
      have q1 : decide ((64 : Int) < (n3 : Int)) = true := decide_eq_true (by omega)
      clear hl
      go_wp2_with fail
      go_ret2
      exact HFIN.out _ 2 _ (by rw [HE.out.2]; exact str_nil.symm) (by rw [HE.out.1]) HW.out
    · have HE := Lib.hid (e_ok HKD.out (by decide) (fun hc => hl (by have h := (long_6 HKD.out).1 hc; rw [← HN3.out] at h; exact h)))
      have q1 : decide ((64 : Int) < (n3 : Int)) = false := decide_eq_false (by omega)
      clear hl
      go_wp2_with fail
      refine HNW.out.mono ?_
      rintro e W1 ⟨rfl, hb1⟩
      have HW1 := Lib.hid (below_step HW.out HW.out.size hb1)
      clear hb1 HNW HNM
      go_wp2_with fail
      go_ret2
      exact HFIN.out _ 0 _ (by rw [HE.out.2, data_6 HKD.out]) (by rw [HE.out.1]) HW1.out
  · have c3 := (HK0.out.cell 3).trans H3.out
    have hrow : RowV idR W W.heap.size (.slice m.ns n3 m.cn) m.nm := by rw [HN3.out]; exact HVW.out.2.1
    have HNM := Lib.hid (fun d os => refnames_any m.ns n3 m.cn m.nm (grow (redrawn W d) os) ((hrow.keep (below_regrown W d os) (Nat.le_refl _)).mono (below_regrown W d os).size) (by rw [HN3.out]; exact HF.out.1))
    have HNW := Lib.hid (refnames_any m.ns n3 m.cn m.nm W hrow (by rw [HN3.out]; exact HF.out.1))
    generalize m.ns = mns at *
    generalize m.cn = mcn at *
    clear hrow
    by_cases hl : 64 < n3
    · have HE := Lib.hid (e_long HKD.out (by decide) ((long_8 HKD.out).2 (by rw [← HN3.out]; exact hl)))
      have q1 : decide ((64 : Int) < (n3 : Int)) = true := decide_eq_true (by omega)
      clear hl
      go_wp2_with fail
      go_ret2
      exact HFIN.out _ 2 _ (by rw [HE.out.2]; exact str_nil.symm) (by rw [HE.out.1]) HW.out
    · have HE := Lib.hid (e_ok HKD.out (by decide) (fun hc => hl (by have h := (long_8 HKD.out).1 hc; rw [← HN3.out] at h; exact h)))
      have q1 : decide ((64 : Int) < (n3 : Int)) = false := decide_eq_false (by omega)
      clear hl
      go_wp2_with fail
      refine HNW.out.mono ?_
      rintro e W1 ⟨rfl, hb1⟩
      have HW1 := Lib.hid (below_step HW.out HW.out.size hb1)
      clear hb1 HNW HNM
      go_wp2_with fail
      go_ret2
      exact HFIN.out _ 0 _ (by rw [HE.out.2, data_8 HKD.out]) (by rw [HE.out.1]) HW1.out
  · have hrg := HMS.out W g0 HK0.out
    have hps : (Tryd.prog.info? 29).map (·.size) = some (blkL m.bk).length := by rw [blkL_len HV.out.1.2.2.2]; exact blk_infoS
    have HB7 := Lib.hid (r7block_any m.bk W HVW.out.2.2.2 HF.out.2.2.2 HF.out.2.2.1)
    obtain ⟨PL, hPL⟩ : ∃ PL, PL = blkL m.bk := ⟨_, rfl⟩
    rw [← hPL] at hrg hps HB7
    obtain ⟨lb, hlb⟩ : ∃ lb, lb = (blkB m.bk).length := ⟨_, rfl⟩
    have HLB := Lib.hid hlb
    have hsz : (strN (blkB m.bk)).size = lb := by rw [strN_size, hlb]
    obtain ⟨u, hu⟩ : ∃ u, u = strN (blkB m.bk) := ⟨_, rfl⟩
    rw [← hu] at HB7 hsz
    have HU := Lib.hid hu
    clear hPL hlb hu
    go_wp2_with (refine wpList_load_mid rfl 29 (.tmp 76) rfl g0 37 rfl PL _ hrg Tryd.underlying29 rfl hps ?_)
    refine HB7.out.mono ?_
    rintro e W1 ⟨rfl, hb1⟩
    have HW1 := Lib.hid (below_step HW.out HW.out.size hb1)
    clear hb1 HB7 hrg hps c0 z0
    by_cases hl : 8192 < lb
    · have HE := Lib.hid (e_long HKD.out (by decide) ((long_7 HKD.out).2 (by rw [← HLB.out]; exact hl)))
      have q1 : decide ((8192 : Int) < (lb : Int)) = true := decide_eq_true (by omega)
      clear hl
      go_wp2_with fail
      go_ret2
      exact HFIN.out _ 2 _ (by rw [HE.out.2]; exact str_nil.symm) (by rw [HE.out.1]) HW1.out
    · have HE := Lib.hid (e_ok HKD.out (by decide) (fun hc => hl (by have h := (long_7 HKD.out).1 hc; rw [← HLB.out] at h; exact h)))
      have q1 : decide ((8192 : Int) < (lb : Int)) = false := decide_eq_false (by omega)
      clear hl
      go_wp2_with fail
      go_ret2
      exact HFIN.out _ 0 _ (by rw [HE.out.2, data_7 HKD.out, HU.out]) (by rw [HE.out.1]) HW1.out
  · have HE := Lib.hid (e_ok HKD.out (by decide) (nolong HKD.out (by decide)))
    have c1 := (HK0.out.cell 1).trans H1.out
    have HN2 := Lib.hid (rfnum_any 8 m.nc W (by decide) HV.out.1.2.1)
    obtain ⟨nc, hnc⟩ : ∃ n, n = m.nc := ⟨_, rfl⟩
    rw [← hnc] at HN2 c1
    have HNC := Lib.hid hnc
    clear hnc
    go_wp2_with fail
    refine HN2.out.mono ?_
    rintro e W1 ⟨rfl, hb1⟩
    have HW1 := Lib.hid (below_step HW.out HW.out.size hb1)
    clear hb1 HN2 c0 c1 z0
    go_wp2_with fail
    go_ret2
    exact HFIN.out _ 0 _ (by rw [HE.out.2, data_9 HKD.out, HNC.out]) (by rw [HE.out.1]) HW1.out
  · have HE := Lib.hid (e_ok HKD.out (by decide) (nolong HKD.out (by decide)))
    have c1 := (HK0.out.cell 1).trans H1.out
    have HN2 := Lib.hid (rfnum_any 8 m.nc W (by decide) HV.out.1.2.1)
    obtain ⟨nc, hnc⟩ : ∃ n, n = m.nc := ⟨_, rfl⟩
    rw [← hnc] at HN2 c1
    have HNC := Lib.hid hnc
    clear hnc
    go_wp2_with fail
    refine HN2.out.mono ?_
    rintro e W1 ⟨rfl, hb1⟩
    have HW1 := Lib.hid (below_step HW.out HW.out.size hb1)
    clear hb1 HN2 c0 c1 z0
    go_wp2_with fail
    go_ret2
    exact HFIN.out _ 0 _ (by rw [HE.out.2, data_10 HKD.out, HNC.out]) (by rw [HE.out.1]) HW1.out
  · have HE := Lib.hid (e_bad (m := m) (by rw [← HKD.out]; omega))
    obtain ⟨x1, x2, x3, x4, x5, x6, x8, x7, x9, x10⟩ := hx
    have d1 : (kd == 1) = false := by simpa using x1
    have d2 : (kd == 2) = false := by simpa using x2
    have d3 : (kd == 3) = false := by simpa using x3
    have d4 : (kd == 4) = false := by simpa using x4
    have d5 : (kd == 5) = false := by simpa using x5
    have d6 : (kd == 6) = false := by simpa using x6
    have d8 : (kd == 8) = false := by simpa using x8
    have d7 : (kd == 7) = false := by simpa using x7
    have d9 : (kd == 9) = false := by simpa using x9
    have d10 : (kd == 10) = false := by simpa using x10
    clear x1 x2 x3 x4 x5 x6 x8 x7 x9 x10
    go_wp2_with fail
    go_ret2
    exact HFIN.out _ 90 _ (by rw [HE.out.2]; exact str_nil.symm) (by rw [HE.out.1]) HW.out
end Go.Proofs.YtfflgimbgmbpaaaDoor
