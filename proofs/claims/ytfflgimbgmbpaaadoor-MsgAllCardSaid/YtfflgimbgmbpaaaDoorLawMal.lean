/-
  What is proved: for every list of messages the law MsgAll returns true, and its argument reads behind the call as it read before it; the three listed tables, two of package hash and one of package msg, are taken to hold what the program's text lays in them, and the card ties them to it.
-/
import Derived.Test.YtfflgimbgmbpaaaDoorMsL
import Derived.Test.YtfflgimbgmbpaaaDoorBkZ
import Derived.Test.YtfflgimbgmbpaaaDoorTie
import Derived.Test.YtfflgimbgmbpaaaDoorCards
import Derived.Stop.Joined
namespace Go.Proofs.YtfflgimbgmbpaaaDoor.msgAll
open Go.ChangeShapes Go.WideShapes Go.ChangeAt Go.RowKit
set_option linter.unusedVariables false

theorem own : ownKnob Tryd.prog.godebug = none := by kernel_rfl
theorem laidOut : laidOutB Tryd.prog = true := by kernel_rfl
theorem wf_i64 {z : Int} (h : (Lit.int .i64 z).wf = true) : -9223372036854775808 ≤ z ∧ z ≤ 9223372036854775807 := by
  simp [Lit.wf, IntKind.min, IntKind.max, IntKind.signed, IntKind.bits] at h
  omega
set_option maxRecDepth 100000
set_option linter.unusedSimpArgs false
theorem conv_nil (w : World) : (convert 40 9 (.slice none 0 0)).run Tryd.prog w = .ok (.string (strN [])) w := by
  have h := conv_bs (w := w) (B := w.heap.size) (v := .slice none 0 0) (xs := []) ⟨none, 0, rfl, Nat.le_refl _, by decide, (fun x hx => by cases hx), fun h => absurd rfl h⟩
  exact h
set_option maxHeartbeats 8000000 in
theorem walk (L : List MsI) (v : Value) (w : World) (hL : LaidM w) (hR : RowV msR w w.heap.size v L) (hV : ∀ x ∈ L, MsV w w.heap.size x.1) :
    Calls Tryd.prog 6 #[v] w fun e w' => e = .returned (.bool true) ∧ Below w.heap.size w w' := by
  obtain ⟨s0, c, rfl⟩ := hR.slice
  obtain ⟨n, hnl⟩ : ∃ n, n = L.length := ⟨_, rfl⟩
  rw [← hnl] at hR ⊢
  have HN := Lib.hid hnl
  have HRW := Lib.hid hR
  have HLD := Lib.hid hL
  have HV := Lib.hid hV
  have HSY := Lib.hid (says_any w hL)
  have HL : Hid (∀ k, k < n → ∃ x b o, L[k]? = some x ∧ s0 = some ⟨b, o, none⟩ ∧ b < w.heap.size ∧ w.rangeAt b (o + k * 106) (msL x.1)) := by
    show ∀ k, k < n → _
    rw [hnl]
    exact row_at hR
  clear hR hV hL hnl
  go_enter Tryd.func6, Tryd.ntmps6
  go_wp2_with fail
  refine HSY.out.mono ?_
  rintro e w1 ⟨rfl, hb1⟩
  have HW1 := Lib.hid hb1
  clear hb1 HSY
  by_cases hn6 : 6 < n
  · have d6 : decide ((6 : Int) < (n : Int)) = true := decide_eq_true (by omega)
    clear hn6
    go_wp2_with fail
    go_ret
    exact ⟨rfl, HW1.out⟩
  have d6 : decide ((6 : Int) < (n : Int)) = false := decide_eq_false (by omega)
  have hn : n ≤ 6 := by omega
  have hu0 : strN (allB (L.take 0)) = ⟨#[]⟩ := by rw [List.take_zero]; decide +kernel
  clear hn6
  go_wp2_with fail
  go_loopw [3, 4, 18] (fun sv ev i wr => ∃ (k f : Nat) (u : ByteArray), k ≤ n ∧ i = .int .i64 k ∧ sv = .string u ∧ ev = .int .i64 (f : Int) ∧ Hid (u = strN (allB (L.take k))) ∧ Hid (f = fstE (L.take k)) ∧ Hid (Below w.heap.size w wr) ∧ Hid (∀ x ∈ L.take k, MsFit x.1)) (fun _ _ i _ => n - (intOf i).toNat)
  case atStart => exact ⟨0, 0, _, Nat.zero_le _, rfl, rfl, rfl, hu0.symm, rfl, HW1.out, fun x hx => by simp at hx⟩
  case round =>
    obtain ⟨k, f, u, hk, rfl, rfl, rfl, HU, HF, HB, HFX⟩ := hrel
    clear hu0 HW1
    by_cases hlt : k < n
    · obtain ⟨x, b, o, hkt, rfl, hbw, hrg⟩ := HL.out k hlt
      have j1 : decide ((k : Int) < (n : Int)) = true := decide_eq_true (by omega)
      replace hrg := rr_below hrg HB.out hbw
      have hbr : b < wr.heap.size := Nat.lt_of_lt_of_le hbw HB.out.size
      have hxm := List.mem_of_getElem? hkt
      have HXV := Lib.hid (HV.out x hxm)
      have HST := Lib.hid (allB_take L k x hkt)
      have HFS := Lib.hid (fstE_take L k x hkt)
      have HFN : Hid (MsFit x.1 → ∀ y ∈ L.take (k + 1), MsFit y.1) := fun hf y hy => by
        rw [List.take_add_one, hkt] at hy
        rcases List.mem_append.1 hy with h | h
        · exact HFX.out y h
        · simp at h
          subst h
          exact hf
      have hu1 : u.size ≤ 60000 := by
        have h1 := allB_len (L.take k)
        have h2 := List.length_take_le k L
        have h3 := strN_size (allB (L.take k))
        rw [← HU.out] at h3
        have h4 : (L.take k).length ≤ 6 := by omega
        omega
      obtain ⟨hstc, K6, B6⟩ := row_made msR_ok x wr Tryd.zeroCells63 63 (by rw [msz]; exact msL_len hd0_is)
      change (storeCells ⟨wr.heap.size, 0, none⟩ (msL x.1)).run Tryd.prog _ = .ok () ((wr.alloc _).setCells wr.heap.size 0 (msL x.1)) at hstc
      change Bk ((wr.alloc _).setCells wr.heap.size 0 (msL x.1)) wr.heap.size 63 (msL x.1).toArray at K6
      change Below wr.heap.size wr ((wr.alloc _).setCells wr.heap.size 0 (msL x.1)) at B6
      have hpl : (msL x.1).length = 106 := msL_len x.2
      have hps : (Tryd.prog.info? 63).map (·.size) = some (msL x.1).length := by rw [hpl]; exact msi_r
      have HB6 := Lib.hid (below_step HB.out HB.out.size B6)
      obtain ⟨PL, hPL⟩ : ∃ PL, PL = msL x.1 := ⟨_, rfl⟩
      have HPL := Lib.hid hPL
      rw [← hPL] at hrg hstc K6 hpl hps HB6
      have HPS := Lib.hid hps
      have HU1 := Lib.hid hu1
      clear hPL hkt hbw hxm B6 HFX hu1
      go_upto_region 9 with (refine wpList_load_mid rfl 63 (.tmp 20) rfl b (o + k * 106) rfl PL _ hrg Tryd.underlying63 rfl hps ?_)
      refine wp_any (fun W => Below w.heap.size w W ∧ Bk W wr.heap.size 63 PL.toArray) ⟨HB6.out, K6⟩ ?_
      clear HB6 K6 hstc hpl hps hrg hbr
      generalize wr.heap.size = g6 at *
      rintro W6 ⟨hW6, K6⟩
      have hrg := hd_range K6
      have hps := HPS.out
      have z6 := K6.lt
      have HW6 := Lib.hid hW6
      have HK6 := Lib.hid K6
      have HFT := Lib.hid (mfits_any x.1 W6 ((HXV.out.keep hW6 (Nat.le_refl _)).mono hW6.size))
      rw [← HPL.out] at HFT
      clear hW6 K6
      go_wp2_with (refine wpList_load_mid rfl 63 (.tmp 6) rfl g6 0 rfl PL _ hrg Tryd.underlying63 rfl hps ?_)
      refine HFT.out.mono ?_
      rintro e W7 ⟨bb, rfl, hbf, hb7⟩
      have HW7 := Lib.hid (below_step HW6.out HW6.out.size hb7)
      have K7 := HK6.out.keep hb7
      clear HFT hrg hb7
      cases bb with
      | false =>
        clear hbf z6 hps
        go_wp2_with fail
        go_ret
        exact ⟨rfl, HW7.out⟩
      | true =>
        have HFF := Lib.hid (HFN.out (hbf rfl))
        have HEN := Lib.hid (mencode_any x.1 W7 ((HXV.out.keep HW7.out (Nat.le_refl _)).mono HW7.out.size) (hbf rfl) (HLD.out.keep HW7.out))
        rw [← HPL.out] at HEN
        have hrg := hd_range K7
        have z7 := K7.lt
        clear hbf K7
        go_wp2_with (refine wpList_load_mid rfl 63 (.tmp 6) rfl g6 0 rfl PL _ hrg Tryd.underlying63 rfl hps ?_)
        refine HEN.out.mono ?_
        rintro e W8 ⟨v8, rfl, hb8, hM8, hv8⟩
        have HW8 := Lib.hid (below_step HW7.out HW7.out.size hb8)
        obtain ⟨e0, he0⟩ : ∃ e, e = msE x.1 := ⟨_, rfl⟩
        have HE0 := Lib.hid he0
        rw [← he0] at hv8 HFS ⊢
        have hsl : ∃ s l c', v8 = .slice s l c' ∧ (convert 40 9 (.slice s l c')).run Tryd.prog W8 = .ok (.string (strN (encB x.1))) W8 := by
          by_cases h0 : msE x.1 = 0
          · have hM := hM8 h0
            have hxl := encB_lt HXV.out
            have hEB : encB x.1 = encL (kindL x.1.kd.toNat) (dataL x.1) := by unfold encB; rw [if_pos h0]
            rw [← hEB] at hM
            have hcv := conv_bs (hM.bs hxl)
            obtain ⟨s, c', rfl⟩ := hM.slice
            exact ⟨s, _, c', rfl, hcv⟩
          · have hEB : encB x.1 = [] := by unfold encB; rw [if_neg h0]
            rw [hv8 (by rw [he0]; exact h0), hEB]
            exact ⟨none, 0, 0, rfl, conv_nil W8⟩
        obtain ⟨s8, l8, c8, rfl, hcv⟩ := hsl
        have hsz2 := strN_size (encB x.1)
        have hsz3 : (strN (encB x.1)).size ≤ 8216 := by have := encB_len x.1; omega
        have HU2 : Hid (u ++ strN (encB x.1) = strN (allB (L.take (k + 1)))) := by show _ = _; rw [HST.out, HU.out, strN_append]
        obtain ⟨u8, hu8⟩ : ∃ u8, u8 = strN (encB x.1) := ⟨_, rfl⟩
        rw [← hu8] at hcv hsz3 HU2
        have hu1 := HU1.out
        clear hb8 hM8 hv8 HEN hrg z7 hps z6 he0 hsz2 hu8
        by_cases hf : f = 0
        · subst hf
          have HF2 : Hid (e0 = fstE (L.take (k + 1))) := by show _ = _; rw [HFS.out, ← HF.out]; rfl
          clear HF HFS HU
          go_wp2_with fail
          go_roundw
          case rel => exact ⟨k + 1, e0, _, by omega, by go_num, rfl, rfl, HU2.out, HF2.out, HW8.out, HFF.out⟩
          case measure => simp [intOf]; omega
        · have df : (((f : Nat) : Int) == 0) = false := by simp; omega
          have HF2 : Hid (f = fstE (L.take (k + 1))) := by show _ = _; rw [HFS.out, ← HF.out, if_neg hf]
          clear HF HFS HU hf
          go_wp2_with fail
          go_roundw
          case rel => exact ⟨k + 1, f, _, by omega, by go_num, rfl, rfl, HU2.out, HF2.out, HW8.out, HFF.out⟩
          case measure => simp [intOf]; omega
    · obtain rfl : k = n := by omega
      have j1 : decide ((k : Int) < (k : Int)) = false := decide_eq_false (by omega)
      have hall : L.take k = L := by rw [HN.out, List.take_length]
      have HU2 : Hid (u = strN (allB L)) := by show _ = _; rw [HU.out, hall]
      have HF2 : Hid (f = fstE L) := by show _ = _; rw [HF.out, hall]
      have hFX := HFX.out
      rw [hall] at hFX
      have HLX : Hid (∀ x ∈ allB L, x < 256) := by
        intro x hx
        unfold allB at hx
        simp only [List.mem_flatten, List.mem_map] at hx
        obtain ⟨_, ⟨m, hm, rfl⟩, h⟩ := hx
        exact encB_lt (HV.out m hm) x h
      have HA := Lib.hid (mall_any s0 k c L wr ((HRW.out.keep HB.out (Nat.le_refl _)).mono HB.out.size) (fun x hx => ⟨((HV.out x hx).keep HB.out (Nat.le_refl _)).mono HB.out.size, hFX x hx⟩) (by omega) (HLD.out.keep HB.out))
      rw [← HF2.out] at HA
      clear hlt hall hFX HU HF HFX
      go_wp2_with fail
      refine HA.out.mono ?_
      rintro e W2 ⟨v2, rfl, hb2, hM2, hv2⟩
      have HW2 := Lib.hid (below_step HB.out HB.out.size hb2)
      clear HA hb2
      by_cases hf : f = 0
      · subst hf
        have hcv := conv_bs ((hM2 rfl).bs HLX.out)
        obtain ⟨s2, c2, rfl⟩ := (hM2 rfl).slice
        obtain ⟨l2, hl2⟩ : ∃ l, l = (allB L).length := ⟨_, rfl⟩
        rw [← hl2, ← HU2.out] at hcv
        rw [← hl2]
        have E1 : (u.toList == u.toList) = true := by simp
        clear hM2 hv2 hl2
        go_wp2_with fail
        go_ret
        exact ⟨rfl, HW2.out⟩
      · have df : (((f : Nat) : Int) != 0) = true := by simp; omega
        have df2 : (((f : Nat) : Int) == ((f : Nat) : Int)) = true := by simp
        have hv := hv2 hf
        subst hv
        clear hM2 hv2 hf
        go_wp2_with fail
        go_ret
        exact ⟨rfl, HW2.out⟩

/-- The door's own heap meets the condition. -/
theorem door_met (os : Os) (args : Array Value) : laidMetH Tryd.prog laidL3 ((World.doorLaid Tryd.prog 19 os).forCall (fun _ _ => 0) ⟨#[], args, []⟩).memory :=
  laidMetH_of_parts3 (fuel := 8) (laidMet_of_run' 8 (by kernel_rfl) (by kernel_rfl)) (by kernel_rfl) (by kernel_rfl)

set_option maxRecDepth 100000 in
theorem lifted (os : Os) (started : os.Started) (H : Type) (enc : TypeId × Value → H) :
    ReturnsInHanded {} Tryd.checked os 6 .any (fun w args => (Rows.msgAllSpec.pre enc Tryd.prog Tryd.f6 [] false w args ∧ laidMetH Tryd.prog laidL3 w) ∧ sizedMet enc Tryd.prog Tryd.f6 (OpenSpec.ofChange Rows.msgAllSpec) false w args)
      (Rows.msgAllSpec.post enc Tryd.prog Tryd.f6 false true false false) := by
  refine returnsInHanded_of_change_and (C := Tryd.checked) (X := fun w _ => laidMetH Tryd.prog laidL3 w) (fun _ _ _ hh h => h.of_heap hh) own started (by kernel_rfl) Tryd.func6
    (ChangeSpec.witness_shaped (enc := enc) (C := Tryd.checked) (os := os) (X := fun w _ => laidMetH Tryd.prog laidL3 w) false (World.doorLaid Tryd.prog 19 os) #[.slice none 0 0] 8 rfl (World.shaped_of_RefB (by kernel_rfl) (by kernel_rfl)) (by kernel_rfl) (by kernel_rfl) (by kernel_rfl) (door_met os _)) ?_
  intro W base args ds gs before hval0 hW _ _ hL _
  have hval : ∀ (j : Nat) t v, Tryd.f6.params[j]? = some t → args[j]? = some v → Value.okWide Tryd.prog W .any base t v := hval0
  have hW' := hW
  obtain ⟨p, q, hA0, hV, rfl, hfz, hnd⟩ := hW
  have hA : DataW.TrodAll enc Tryd.prog W 0 (fun _ => true) true Tryd.f6.params.toList args.toList ds p := hA0
  rw [Tryd.params6] at hA hval
  obtain ⟨v0, vs0, d0, ds0, p0, q0, hargs, rfl, rfl, h0, r0⟩ := trodAll_cons hA
  obtain ⟨rfl, rfl, rfl⟩ := trodAll_nil r0
  obtain rfl : args = #[v0] := by cases args; simp_all
  obtain ⟨rfl, rfl⟩ := trodVars_none hV
  have lt0 : ∀ x ∈ p0, x.block < W.heap.size := by obtain ⟨m, hm⟩ := h0; exact DataW.trod_lt m _ _ _ hm
  obtain ⟨x0, hb0⟩ := msgs_arg (hval 0 68 v0 rfl rfl) h0
  have hwalk := walk x0 v0 W (of_laid3 hL) hb0.1 hb0.2
  clear hA0 hval0
  refine hwalk.mono fun e W' ⟨he, bel⟩ => ?_
  subst he
  exact ⟨_, rfl, _, _, _, [], _, [], hW', trodAll_mk1 (shut_bool Tryd.underlying4 _), (trodAll_cons_mk (Below.trod laidOut (by kernel_rfl) (of_decide_eq_true (by kernel_rfl)) h0 bel lt0) trodAll_mk0), rfl, bel.frame _, fun h => by cases h⟩

theorem over : Rows.MsgAllSaid :=
  OpenClaim.holds_of_wide 6 Tryd.f6 rfl rfl rfl rfl rfl rfl rfl ⟨rfl, rfl, rfl, rfl, rfl⟩ rfl rfl rfl rfl rfl (by kernel_rfl) Tryd.func6 (by kernel_rfl)
    (of_decide_eq_true (by kernel_rfl)) (by unfold Func.isWrapper; first | (rw [if_pos (by decide +kernel)]; kernel_rfl) | (rw [if_neg (by decide +kernel)]; exact ⟨rfl, rfl⟩))
    (fun os started H enc _ => lifted os started H enc)

theorem proved : Rows.MsgAllCardSaid :=
  Claim7.holds_tied_plain_at .later [] [.data, .data, .data] true Rows.msgAllCard.stood.harness false
    over (fun _ h => by cases h) (by kernel_rfl) (fun _ h => by cases h) msgAll_row_tie rfl ⟨rfl, rfl⟩ (by kernel_rfl) rfl
    (fun f fn hf hfn => by
      obtain rfl : f = 6 := Option.some.inj ((show Tryd.prog.funcNamed "tallystick/tallysticklaw09.MsgAll" = some 6 by kernel_rfl).symm.trans hf) |>.symm
      obtain rfl : fn = Tryd.f6 := (Option.some.inj (Tryd.func6.symm.trans hfn)).symm
      exact ⟨by kernel_rfl, fun j t ht => by
        rw [Tryd.params6] at ht
        have hm : t ∈ [68] := by simpa using Array.mem_of_getElem? ht
        have hall : ([68].all fun u => !Tryd.prog.wantsStandIn u) = true := by kernel_rfl
        exact (show Tryd.prog.wantsStandIn t = false by simpa using List.all_eq_true.1 hall t hm)⟩)
    (by kernel_rfl)
#print axioms proved
end Go.Proofs.YtfflgimbgmbpaaaDoor.msgAll
