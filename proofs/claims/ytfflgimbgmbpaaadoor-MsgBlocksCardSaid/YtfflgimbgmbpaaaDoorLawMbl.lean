/-
  What is proved: for every block the law MsgBlocks returns true, and its argument reads behind the call as it read before it; the three listed tables, two of package hash and one of package msg, are taken to hold what the program's text lays in them, and the card ties them to it.
-/
import Derived.Test.YtfflgimbgmbpaaaDoorMsY
import Derived.Test.YtfflgimbgmbpaaaDoorTbl
import Derived.Test.YtfflgimbgmbpaaaDoorBkZ
import Derived.Test.YtfflgimbgmbpaaaDoorFedZ
import Derived.Test.YtfflgimbgmbpaaaDoorTie
import Derived.Test.YtfflgimbgmbpaaaDoorCards
import Derived.Stop.Joined
namespace Go.Proofs.YtfflgimbgmbpaaaDoor.msgBlocks
open Go.ChangeShapes Go.WideShapes Go.ChangeAt Go.RowKit
set_option linter.unusedVariables false

theorem own : ownKnob Tryd.prog.godebug = none := by kernel_rfl
theorem laidOut : laidOutB Tryd.prog = true := by kernel_rfl
theorem wf_i64 {z : Int} (h : (Lit.int .i64 z).wf = true) : -9223372036854775808 ≤ z ∧ z ≤ 9223372036854775807 := by
  simp [Lit.wf, IntKind.min, IntKind.max, IntKind.signed, IntKind.bits] at h
  omega
set_option maxRecDepth 100000
set_option linter.unusedSimpArgs false
theorem fold_ovr (L : List Value) (o : Nat) : ∀ (k : Nat) (Z : Array Value), List.foldl (fun (cs : Array Value) (x : Value × Nat) => cs.setIfInBounds (o + x.snd) x.fst) Z (L.zipIdx k) = ovr Z (o + k) L := by
  induction L with
  | nil => intro k Z; rfl
  | cons v r ih =>
    intro k Z
    rw [List.zipIdx_cons, List.foldl_cons, ih (k + 1)]
    rfl
def mB (k : Int) (b : BlkM) : MsM := { ms0 with kd := k, bk := b }
theorem mB_cells (k : Int) (b : BlkM) (h : IsHd b.hd) : List.foldl (fun (cs : Array Value) (x : Value × Nat) => cs.setIfInBounds (37 + x.snd) x.fst) (Tryd.zeroCells63.setIfInBounds 0 (.int .i64 k)) (blkL b).zipIdx = (msL (mB k b)).toArray := by
  rw [fold_ovr, msz, ms_kd]
  exact ms_bk { ms0 with kd := k } b hd0_is h
theorem mB_cells0 (b : BlkM) (h : IsHd b.hd) : List.foldl (fun (cs : Array Value) (x : Value × Nat) => cs.setIfInBounds (37 + x.snd) x.fst) Tryd.zeroCells63 (blkL b).zipIdx = (msL (mB 0 b)).toArray := by
  rw [fold_ovr, msz]
  exact ms_bk ms0 b hd0_is h
theorem mB_v (k : Int) (b : BlkM) (W : World) (hk : 0 ≤ k ∧ k ≤ 10) (h : BlkV W W.heap.size b) : MsV W W.heap.size (mB k b) :=
  ⟨⟨by show -9223372036854775808 ≤ k ∧ k ≤ 9223372036854775807; omega, show (0 : Nat) < 18446744073709551616 by decide, show (0 : Nat) < 4294967296 by decide, h.1⟩,
    ⟨none, 0, rfl, Nat.le_refl _, by decide, fun h => absurd rfl h⟩, ⟨none, 0, rfl, Nat.le_refl _, by decide, fun h => absurd rfl h⟩, h⟩
theorem blkV_kept {w W : World} {b : BlkM} (h : BlkV w w.heap.size b) (hb : Below w.heap.size w W) : BlkV W W.heap.size b :=
  ⟨h.1, (h.2.1.keep hb (Nat.le_refl _)).mono hb.size, fun t ht => ((h.2.2 t ht).keep hb (Nat.le_refl _)).mono hb.size⟩
def blockL : List Nat := [98, 108, 111, 99, 107]
theorem enc_word (D : List Nat) : ((encL (kindL 7) D).drop 4).take 5 = blockL := by
  unfold encL
  simp only [List.append_assoc]
  rfl
set_option maxHeartbeats 8000000 in
theorem walk (b : BlkM) (w : World) (hL : LaidM w) (hV : BlkV w w.heap.size b) :
    Calls Tryd.prog 5 #[.agg (blkL b).toArray] w fun e w' => e = .returned (.bool true) ∧ Below w.heap.size w w' := by
  have HL := Lib.hid hL
  have HV := Lib.hid hV
  have HSY : Hid (∀ W, Below w.heap.size w W → Calls Tryd.prog 22 #[] W fun r w' => r = .returned (.bool true) ∧ Below W.heap.size W w') := fun W h => says_any W (hL.below h hL.size)
  have hrg0 := fun (W : World) (g : Nat) (K : Bk W g 29 (blkL b).toArray) => hd_range K
  have HRG := Lib.hid hrg0
  have hps : (Tryd.prog.info? 29).map (·.size) = some (blkL b).length := by rw [blkL_len hV.1]; exact blk_infoS
  have HPS := Lib.hid hps
  have hbl := blkL_len hV.1
  have HFT : Hid (∀ W, Below w.heap.size w W → Calls Tryd.prog 24 #[.agg (List.foldl (fun (cs : Array Value) (x : Value × Nat) => cs.setIfInBounds (37 + x.snd) x.fst) Tryd.zeroCells63 (blkL b).zipIdx)] W fun r w' => ∃ bb, r = .returned (.bool bb) ∧ (bb = true → BkFit b) ∧ Below W.heap.size W w') := fun W h => by
    rw [mB_cells0 b hV.1]
    refine (mfits_any (mB 0 b) W (mB_v 0 b W (by decide) (blkV_kept hV h))).mono ?_
    rintro r w' ⟨bb, rfl, h1, h2⟩
    exact ⟨bb, rfl, fun h => (h1 h).2.2, h2⟩
  have HEN : Hid (BkFit b → ∀ W, Below w.heap.size w W → Calls Tryd.prog 23 #[.agg (List.foldl (fun (cs : Array Value) (x : Value × Nat) => cs.setIfInBounds (37 + x.snd) x.fst) (Tryd.zeroCells63.setIfInBounds 0 (.int .i64 7)) (blkL b).zipIdx)] W fun r w' => EncM W w' (mB 7 b) r) := fun hf W h => by
    rw [mB_cells 7 b hV.1]
    exact mencode_any (mB 7 b) W (mB_v 7 b W (by decide) (blkV_kept hV h)) ⟨Nat.zero_le _, Nat.zero_le _, hf⟩ (hL.below h hL.size)
  obtain ⟨BL, hBL⟩ : ∃ B, B = blkL b := ⟨_, rfl⟩
  rw [← hBL] at HRG HPS hbl HFT HEN ⊢
  have HBL := Lib.hid hBL
  clear hL hV hrg0 hps hBL
  go_enter Tryd.func5, Tryd.ntmps5
  go_upto_region 1 with fail
  refine wp_any (fun W => Below w.heap.size w W ∧ Bk W w.heap.size 29 BL.toArray) ⟨(Below.refl _ _).alloc (Nat.le_refl _) _, Bk.new _ _ _⟩ ?_
  obtain ⟨g1, hg1⟩ : ∃ g, g = w.heap.size := ⟨_, rfl⟩
  rw [← hg1]
  rintro W ⟨hW, K1⟩
  have HW : Hid (Below w.heap.size w W) := by rw [← hg1]; exact hW
  clear hW hg1
  go_wp2_with fail
  refine (HSY.out W HW.out).mono ?_
  rintro e W1 ⟨rfl, hb1⟩
  have HW1 := Lib.hid (below_step HW.out HW.out.size hb1)
  have K1 := K1.keep hb1
  have hrg := HRG.out _ _ K1
  have hps := HPS.out
  have z1 := K1.lt
  clear hb1 HSY
  go_wp2_with (refine wpList_load_mid rfl 29 (.tmp 1) rfl g1 0 rfl BL _ hrg Tryd.underlying29 rfl hps ?_)
  refine (HFT.out W1 HW1.out).mono ?_
  rintro e W2 ⟨bb, rfl, hbf, hb2⟩
  have HW2 := Lib.hid (below_step HW1.out HW1.out.size hb2)
  have K1 := K1.keep hb2
  clear hb2 HFT hrg
  cases bb with
  | false =>
    clear hbf z1 hps
    go_wp2_with fail
    go_ret
    exact ⟨rfl, HW2.out⟩
  | true =>
    have HBF := Lib.hid (hbf rfl)
    have hrg := HRG.out _ _ K1
    have z1 := K1.lt
    have HK1 := Lib.hid K1
    clear hbf
    go_wp2_with (refine wpList_load_mid rfl 29 (.tmp 1) rfl g1 0 rfl BL _ hrg Tryd.underlying29 rfl hps ?_)
    refine (HEN.out HBF.out W2 HW2.out).mono ?_
    rintro e W3 ⟨v3, rfl, hb3, hM3, hv3⟩
    have HW3 := Lib.hid (below_step HW2.out HW2.out.size hb3)
    have HM3 := Lib.hid hM3
    have HV3 := Lib.hid hv3
    have K1 := HK1.out.keep hb3
    have hrg := HRG.out _ _ K1
    have z1 := K1.lt
    have HB7 := Lib.hid (r7block_any b W3 (blkV_kept HV.out HW3.out) HBF.out.2 HBF.out.1)
    rw [← HBL.out] at HB7
    have HLX := Lib.hid (blkB_lt HV.out)
    have HSZ := Lib.hid (strN_size (blkB b))
    obtain ⟨lb, hlb⟩ : ∃ lb, lb = (blkB b).length := ⟨_, rfl⟩
    have HLB := Lib.hid hlb
    rw [← hlb] at HSZ
    clear hb3 hM3 hv3 HEN HK1 K1 hlb
    by_cases hl : 8192 < lb
    · have he : msE (mB 7 b) = 2 := msE_long (by show ¬ ((7 : Int) < 1 ∨ 10 < (7 : Int)); decide) ((long_7 (m := mB 7 b) rfl).2 (by show 8192 < (blkB b).length; rw [← HLB.out]; exact hl))
      have hv := HV3.out (by rw [he]; decide)
      subst hv
      rw [he]
      have q1 : decide ((8192 : Int) < (lb : Int)) = true := decide_eq_true (by omega)
      have hsz := HSZ.out
      generalize strN (blkB b) = u at *
      clear he hl HM3 HV3
      go_wp2_with (refine wpList_load_mid rfl 29 (.tmp 1) rfl g1 0 rfl BL _ hrg Tryd.underlying29 rfl hps ?_)
      refine HB7.out.mono ?_
      rintro e W4 ⟨rfl, hb4⟩
      have HW4 := Lib.hid (below_step HW3.out HW3.out.size hb4)
      clear hb4 HB7 hrg hps z1
      go_wp2_with fail
      go_ret
      exact ⟨rfl, HW4.out⟩
    · have he : msE (mB 7 b) = 0 := msE_ok (by show ¬ ((7 : Int) < 1 ∨ 10 < (7 : Int)); decide) (fun hc => hl (by have h7 := (long_7 (m := mB 7 b) rfl).1 hc; show 8192 < lb; rw [HLB.out]; exact h7))
      have hM := HM3.out he
      rw [show (mB 7 b).kd.toNat = 7 from rfl, data_7 (m := mB 7 b) rfl, show (mB 7 b).bk = b from rfl] at hM
      have q1 : decide ((8192 : Int) < (lb : Int)) = false := decide_eq_false (by omega)
      have hlen := encL_len (kindL 7) (blkB b) (by decide)
      have hx := encL_lt (kindL 7) (blkB b) (by decide) HLX.out
      have hbs := hM.bs hx
      obtain ⟨s6, c6, hv6⟩ := hM.slice
      rw [← HLB.out] at hlen
      rw [hlen] at hv6
      subst hv6
      rw [he]
      have HBS := Lib.hid hbs
      have HEX := Lib.hid hx
      have HLE := Lib.hid hlen
      have HRS := Lib.hid (encL_rest (kindL 7) (blkB b) (by decide) [])
      have HWD := Lib.hid (enc_word (blkB b))
      obtain ⟨E, hE⟩ : ∃ E, E = encL (kindL 7) (blkB b) := ⟨_, rfl⟩
      rw [← hE] at HBS HEX HLE HRS HWD
      have hsz := HSZ.out
      obtain ⟨u, hu⟩ : ∃ u, u = strN (blkB b) := ⟨_, rfl⟩
      rw [← hu] at HB7 hsz
      have HU := Lib.hid hu
      have HL8 := Lib.hid (show lb ≤ 8192 by omega)
      clear he hl hM hlen hx hbs hE hu HM3 HV3
      go_wp2_with (refine wpList_load_mid rfl 29 (.tmp 1) rfl g1 0 rfl BL _ hrg Tryd.underlying29 rfl hps ?_)
      refine HB7.out.mono ?_
      rintro e W4 ⟨rfl, hb4⟩
      have HW4 := Lib.hid (below_step HW3.out HW3.out.size hb4)
      have HBS4 := Lib.hid (HBS.out.keep hb4 (Nat.le_refl _))
      clear hb4 HB7 hrg hps z1 HBS
      obtain ⟨b6, o6, rfl⟩ : ∃ b o, s6 = some ⟨b, o, none⟩ := by
        obtain ⟨s, c, e, _, _, _, h4⟩ := HBS4.out
        obtain ⟨b, o, e2, _⟩ := h4 (by intro h0; have := HLE.out; rw [h0] at this; simp at this; omega)
        injection e with e1 e3 e4
        exact ⟨b, o, e1.trans e2⟩
      have hcap : 24 + lb ≤ c6 := by
        obtain ⟨s, c, e, h1, _⟩ := HBS4.out
        injection e with e1 e3 e4
        rw [e4, e3]
        exact h1
      have hc63 : c6 < 9223372036854775808 := by
        obtain ⟨s, c, e, h1, h2, _⟩ := HBS4.out
        injection e with e1 e3 e4
        rw [e4]
        exact h2
      have hs1 : ∀ w, (Instr.slice 40 (.slice (some ⟨b6, o6, none⟩) (24 + lb) c6) (some (.int .i64 24)) none none).run Tryd.prog w = .ok (.slice (dropA ⟨b6, o6, none⟩ c6 24) (24 + lb - 24) (c6 - 24)) w := slice_rest b6 o6 (24 + lb) c6 24 (by omega) (by have := HL8.out; omega) (by omega)
      have hr1 := bsv_rest 24 HBS4.out (by have := HLE.out; omega)
      rw [← List.append_nil E, HRS.out, List.append_nil] at hr1
      have hcv1 := conv_bs hr1
      rw [← HU.out] at hcv1
      obtain ⟨s7, c7, hs2, hr2⟩ := mid_slice HBS4.out 4 5 (by have := HLE.out; omega)
      have hs2 : ∀ W, (Instr.slice 40 (.slice (some ⟨b6, o6, none⟩) (24 + lb) c6) (some (.int .i64 4)) (some (.int .i64 9)) none).run Tryd.prog W = .ok (.slice s7 5 c7) W := hs2
      rw [HWD.out] at hr2
      have hcv2 := conv_bs hr2
      rw [show strN blockL = ⟨#[98, 108, 111, 99, 107]⟩ by decide +kernel] at hcv2
      have E1 : (u.toList == u.toList) = true := by simp
      have E2 : ((⟨#[98, 108, 111, 99, 107]⟩ : ByteArray).toList == (⟨#[98, 108, 111, 99, 107]⟩ : ByteArray).toList) = true := by simp
      obtain ⟨sr, hsr⟩ : ∃ s, s = dropA ⟨b6, o6, none⟩ c6 24 := ⟨_, rfl⟩
      obtain ⟨nr, hnr⟩ : ∃ n, n = 24 + lb - 24 := ⟨_, rfl⟩
      obtain ⟨cr, hcr⟩ : ∃ c, c = c6 - 24 := ⟨_, rfl⟩
      rw [← hsr, ← hnr, ← hcr] at hs1 hcv1
      clear hsr hnr hcr hr1 hr2 hcap hc63
      go_wp2_with fail
      go_ret
      exact ⟨rfl, HW4.out⟩

/-- The door's own heap meets the condition. -/
theorem door_met (os : Os) (args : Array Value) : laidMetH Tryd.prog laidL3 ((World.doorLaid Tryd.prog 19 os).forCall (fun _ _ => 0) ⟨#[], args, []⟩).memory :=
  laidMetH_of_parts3 (fuel := 8) (laidMet_of_run' 8 (by kernel_rfl) (by kernel_rfl)) (by kernel_rfl) (by kernel_rfl)

set_option maxRecDepth 100000 in
theorem lifted (os : Os) (started : os.Started) (H : Type) (enc : TypeId × Value → H) :
    ReturnsInHanded {} Tryd.checked os 5 .any (fun w args => (Rows.msgBlocksSpec.pre enc Tryd.prog Tryd.f5 [] false w args ∧ laidMetH Tryd.prog laidL3 w) ∧ sizedMet enc Tryd.prog Tryd.f5 (OpenSpec.ofChange Rows.msgBlocksSpec) false w args)
      (Rows.msgBlocksSpec.post enc Tryd.prog Tryd.f5 false true false false) := by
  refine returnsInHanded_of_change_and (C := Tryd.checked) (X := fun w _ => laidMetH Tryd.prog laidL3 w) (fun _ _ _ hh h => h.of_heap hh) own started (by kernel_rfl) Tryd.func5
    (ChangeSpec.witness_shaped (enc := enc) (C := Tryd.checked) (os := os) (X := fun w _ => laidMetH Tryd.prog laidL3 w) false (World.doorLaid Tryd.prog 19 os) #[.agg (blkL blk0).toArray] 8 rfl (World.shaped_of_RefB (by kernel_rfl) (by kernel_rfl)) (by kernel_rfl) (by kernel_rfl) (by kernel_rfl) (door_met os _)) ?_
  intro W base args ds gs before hval0 hW _ _ hL _
  have hval : ∀ (j : Nat) t v, Tryd.f5.params[j]? = some t → args[j]? = some v → Value.okWide Tryd.prog W .any base t v := hval0
  have hW' := hW
  obtain ⟨p, q, hA0, hV, rfl, hfz, hnd⟩ := hW
  have hA : DataW.TrodAll enc Tryd.prog W 0 (fun _ => true) true Tryd.f5.params.toList args.toList ds p := hA0
  rw [Tryd.params5] at hA hval
  obtain ⟨v0, vs0, d0, ds0, p0, q0, hargs, rfl, rfl, h0, r0⟩ := trodAll_cons hA
  obtain ⟨rfl, rfl, rfl⟩ := trodAll_nil r0
  obtain rfl : args = #[v0] := by cases args; simp_all
  obtain ⟨rfl, rfl⟩ := trodVars_none hV
  have lt0 : ∀ x ∈ p0, x.block < W.heap.size := by obtain ⟨m, hm⟩ := h0; exact DataW.trod_lt m _ _ _ hm
  obtain ⟨x0, hb0, rfl⟩ := blk_arg (hval 0 29 v0 rfl rfl) h0
  have hwalk := walk x0 W (of_laid3 hL) hb0
  clear hA0 hval0
  refine hwalk.mono fun e W' ⟨he, bel⟩ => ?_
  subst he
  exact ⟨_, rfl, _, _, _, [], _, [], hW', trodAll_mk1 (shut_bool Tryd.underlying4 _), (trodAll_cons_mk (Below.trod laidOut (by kernel_rfl) (of_decide_eq_true (by kernel_rfl)) h0 bel lt0) trodAll_mk0), rfl, bel.frame _, fun h => by cases h⟩

theorem over : Rows.MsgBlocksSaid :=
  OpenClaim.holds_of_wide 5 Tryd.f5 rfl rfl rfl rfl rfl rfl rfl ⟨rfl, rfl, rfl, rfl, rfl⟩ rfl rfl rfl rfl rfl (by kernel_rfl) Tryd.func5 (by kernel_rfl)
    (of_decide_eq_true (by kernel_rfl)) (by unfold Func.isWrapper; first | (rw [if_pos (by decide +kernel)]; kernel_rfl) | (rw [if_neg (by decide +kernel)]; exact ⟨rfl, rfl⟩))
    (fun os started H enc _ => lifted os started H enc)

theorem proved : Rows.MsgBlocksCardSaid :=
  Claim7.holds_tied_plain_at .later [] [.data, .data, .data] true Rows.msgBlocksCard.stood.harness false
    over (fun _ h => by cases h) (by kernel_rfl) (fun _ h => by cases h) msgBlocks_row_tie rfl ⟨rfl, rfl⟩ (by kernel_rfl) rfl
    (fun f fn hf hfn => by
      obtain rfl : f = 5 := Option.some.inj ((show Tryd.prog.funcNamed "tallystick/tallysticklaw09.MsgBlocks" = some 5 by kernel_rfl).symm.trans hf) |>.symm
      obtain rfl : fn = Tryd.f5 := (Option.some.inj (Tryd.func5.symm.trans hfn)).symm
      exact ⟨by kernel_rfl, fun j t ht => by
        rw [Tryd.params5] at ht
        have hm : t ∈ [29] := by simpa using Array.mem_of_getElem? ht
        have hall : ([29].all fun u => !Tryd.prog.wantsStandIn u) = true := by kernel_rfl
        exact (show Tryd.prog.wantsStandIn t = false by simpa using List.all_eq_true.1 hall t hm)⟩)
    (by kernel_rfl)
#print axioms proved
end Go.Proofs.YtfflgimbgmbpaaaDoor.msgBlocks
