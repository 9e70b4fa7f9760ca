/-
  What is proved: for every two slices of bytes the law FrameStops returns true, and its arguments read behind the call as they read before it; the two listed tables of package hash are taken to hold what the program's text lays in them, and the card ties them to it.
-/
import Derived.Test.YtanefmjjbilmiaaDoorFrX
import Derived.Test.YtanefmjjbilmiaaDoorTie
import Derived.Test.YtanefmjjbilmiaaDoorCards
import Derived.Stop.Joined
namespace Go.Proofs.YtanefmjjbilmiaaDoor.frameStops
open Go.ChangeShapes Go.WideShapes Go.ChangeAt Go.RowKit
set_option linter.unusedVariables false

theorem own : ownKnob Tryd.prog.godebug = none := by kernel_rfl
theorem laidOut : laidOutB Tryd.prog = true := by kernel_rfl
theorem wf_i64 {z : Int} (h : (Lit.int .i64 z).wf = true) : -9223372036854775808 ≤ z ∧ z ≤ 9223372036854775807 := by
  simp [Lit.wf, IntKind.min, IntKind.max, IntKind.signed, IntKind.bits] at h
  omega
set_option maxRecDepth 100000
set_option linter.unusedSimpArgs false
set_option maxHeartbeats 8000000 in
theorem walk (b m : List Nat) (u v : Value) (w : World) (hL : Laid w) (hb : BsV w w.heap.size u b) (hm : BsV w w.heap.size v m) :
    Calls Tryd.prog 5 #[u, v] w fun e w' => e = .returned (.bool true) ∧ Below w.heap.size w w' := by
  have hbx : ∀ x ∈ b, x < 256 := by
    obtain ⟨s, cap, e, h1, h2, h3, h4⟩ := hb
    exact h3
  have HBX := Lib.hid hbx
  have HFR := Lib.hid (frames_any w hL)
  have HL := Lib.hid hL
  have HB := Lib.hid hb
  have HM := Lib.hid hm
  obtain ⟨sb, cb, rfl, _⟩ := hb
  obtain ⟨sm, cm, rfl, _⟩ := hm
  obtain ⟨nb, hnb⟩ : ∃ n, n = b.length := ⟨_, rfl⟩
  obtain ⟨nm, hnm⟩ : ∃ n, n = m.length := ⟨_, rfl⟩
  rw [← hnb] at HB ⊢
  rw [← hnm] at HM ⊢
  have HNB := Lib.hid hnb
  have HNM := Lib.hid hnm
  clear hbx hnb hnm hL
  go_enter Tryd.func5, Tryd.ntmps5
  go_wp2_with fail
  refine HFR.out.mono ?_
  rintro e w1 ⟨rfl, hb1⟩
  have HW1 := Lib.hid hb1
  clear hb1 HFR
  by_cases h1 : 1000 < nb
  · have q1 : decide ((1000 : Int) < (nb : Int)) = true := decide_eq_true (by omega)
    clear h1
    go_wp2_with fail
    go_ret
    exact ⟨rfl, HW1.out⟩
  have q1 : decide ((1000 : Int) < (nb : Int)) = false := decide_eq_false (by omega)
  by_cases h2 : 1000 < nm
  · have q2 : decide ((1000 : Int) < (nm : Int)) = true := decide_eq_true (by omega)
    clear h1 h2
    go_wp2_with fail
    go_ret
    exact ⟨rfl, HW1.out⟩
  have q2 : decide ((1000 : Int) < (nm : Int)) = false := decide_eq_false (by omega)
  have H12 := Lib.hid (show nb ≤ 1000 ∧ nm ≤ 1000 by omega)
  clear h1 h2
  go_upto_region 6 with fail
  have hA : Below w1.heap.size w1 (w1.alloc (.cells #[.slice none 0 0, .int .i64 0] 36)) := (Below.refl _ _).alloc (Nat.le_refl _) _
  refine wp_any (fun W => Below w.heap.size w W ∧ Bk W w1.heap.size 36 #[.slice none 0 0, .int .i64 0]) ⟨below_step HW1.out HW1.out.size hA, Bk.new _ _ _⟩ ?_
  obtain ⟨p, hp⟩ : ∃ p, p = w1.heap.size := ⟨_, rfl⟩
  have HP : Hid (w.heap.size ≤ p) := by show _ ≤ _; rw [hp]; exact HW1.out.size
  rw [← hp]
  clear hA hp HW1
  rintro W2 ⟨hW2, K2⟩
  have HW2 := Lib.hid hW2
  have hL2 := HL.out.below hW2 HL.out.size
  have HC := Lib.hid (fadd_on p w.heap.size nb cb sb (.slice none 0 0) [] b W2 hL2 HL.out.size HP.out hW2.size (new_feed K2 _) (by simp) (bsn_old (HB.out.keep hW2 (Nat.le_refl _)) hW2.size HP.out (mine_nil _ _)) (by have := H12.out; have := HNB.out; omega))
  clear hW2 K2 hL2
  go_wp2_with fail
  refine HC.out.mono ?_
  rintro r w3 ⟨rv, v3, L, rfl, hF3, hM3, ho3, hb3, hs3, hl3⟩
  rw [List.nil_append] at hF3 ho3
  have HF3 := Lib.hid hF3
  have HW3 := Lib.hid (HW2.out.trans hl3)
  have HE3 := Lib.hid (ferr_any p _ _ _ _ w3 hF3)
  clear hF3 hM3 ho3 hb3 hs3 hl3 HC HW2
  go_wp2_with fail
  refine HE3.out.mono ?_
  rintro r w4 ⟨rfl, rfl⟩
  clear HE3
  obtain ⟨e, he⟩ : ∃ e, e = (FZ b).e := ⟨_, rfl⟩
  rw [← he] at HF3 ⊢
  have HEE := Lib.hid he
  clear he
  obtain ⟨s3, c3, rfl⟩ := HF3.out.2.slice
  by_cases he : e = 0
  · have q3 : ((e : Int) == 0) = true := by rw [he]; rfl
    have HH := Lib.hid (fheld_any p _ _ _ _ _ _ w4 HF3.out)
    have hle := FZ_len b
    obtain ⟨k, hk⟩ : ∃ k, k = (FZ b).h.length := ⟨_, rfl⟩
    rw [← hk] at HH hle
    have q4 : decide ((k : Int) ≤ (nb : Int)) = true := decide_eq_true (by have := HNB.out; omega)
    have q5 : decide (k ≤ nb) = true := decide_eq_true (by have := HNB.out; omega)
    clear he hle hk
    go_wp2_with fail
    refine HH.out.mono ?_
    rintro r w5 ⟨rfl, rfl⟩
    go_wp2_with fail
    go_ret
    exact ⟨rfl, HW3.out⟩
  have q3 : ((e : Int) == 0) = false := by rw [beq_eq_false_iff_ne]; omega
  have hh : (FZ b).h = [] := (FZ_ok b).1 (by rw [← HEE.out]; exact he)
  have hL4 := HL.out.below HW3.out HL.out.size
  have HC := Lib.hid (fadd_on p w.heap.size nm cm sm _ b m w4 hL4 HL.out.size HP.out HW3.out.size (by have := HF3.out; rw [HEE.out] at this; exact this) HBX.out (bsn_old (HM.out.keep HW3.out (Nat.le_refl _)) HW3.out.size HP.out HF3.out.2) (by have := H12.out; have := HNM.out; omega))
  have hbad : FZ (b ++ m) = FZ b := by rw [FZ_app, feedL_bad _ (by rw [← HEE.out]; exact he)]
  have HBAD := Lib.hid hbad
  have HHH := Lib.hid hh
  clear he hh hL4 hbad
  go_wp2_with fail
  refine HC.out.mono ?_
  rintro r w5 ⟨rv5, v5, L5, rfl, hF5, hM5, ho5, hb5, hs5, hl5⟩
  rw [HBAD.out, HHH.out, ← HEE.out] at hF5
  rw [HBAD.out] at ho5
  have hL5 : L5 = [] := by
    have h := congrArg List.length ho5
    rw [List.length_append, List.length_map] at h
    exact List.eq_nil_of_length_eq_zero (by omega)
  subst hL5
  obtain ⟨sr, cr, rfl⟩ := hM5.1.slice
  obtain ⟨s5, c5, rfl⟩ := hF5.2.slice
  have HH := Lib.hid (fheld_any p _ _ _ _ _ _ w5 hF5)
  have HE := Lib.hid (ferr_any p _ _ _ _ w5 hF5)
  have HW5 := Lib.hid (HW3.out.trans hl5)
  clear hF5 hM5 ho5 hb5 hs5 hl5 HC HF3 HW3 HHH HBAD
  go_wp2_with fail
  refine HH.out.mono ?_
  rintro r w6 ⟨rfl, rfl⟩
  clear HH
  go_wp2_with fail
  refine HE.out.mono ?_
  rintro r w7 ⟨rfl, rfl⟩
  go_wp2_with fail
  go_ret
  exact ⟨rfl, HW5.out⟩

/-- The door's own heap meets the condition. -/
theorem door_met (os : Os) (args : Array Value) : laidMetH Tryd.prog laidL ((World.doorLaid Tryd.prog 19 os).forCall (fun _ _ => 0) ⟨#[], args, []⟩).memory :=
  laidMetH_of_parts3 (fuel := 8) (laidMet_of_run' 8 (by kernel_rfl) (by kernel_rfl)) (by kernel_rfl) (by kernel_rfl)

set_option maxRecDepth 100000 in
theorem lifted (os : Os) (started : os.Started) (H : Type) (enc : TypeId × Value → H) :
    ReturnsInHanded {} Tryd.checked os 5 .any (fun w args => (Rows.frameStopsSpec.pre enc Tryd.prog Tryd.f5 [] false w args ∧ laidMetH Tryd.prog laidL w) ∧ sizedMet enc Tryd.prog Tryd.f5 (OpenSpec.ofChange Rows.frameStopsSpec) false w args)
      (Rows.frameStopsSpec.post enc Tryd.prog Tryd.f5 false true false false) := by
  refine returnsInHanded_of_change_and (C := Tryd.checked) (X := fun w _ => laidMetH Tryd.prog laidL w) (fun _ _ _ hh h => h.of_heap hh) own started (by kernel_rfl) Tryd.func5
    (ChangeSpec.witness_shaped (enc := enc) (C := Tryd.checked) (os := os) (X := fun w _ => laidMetH Tryd.prog laidL w) false (World.doorLaid Tryd.prog 19 os) #[.slice none 0 0, .slice none 0 0] 8 rfl (World.shaped_of_RefB (by kernel_rfl) (by kernel_rfl)) (by kernel_rfl) (by kernel_rfl) (by kernel_rfl) (door_met os _)) ?_
  intro W base args ds gs before hval0 hW _ _ hL _
  have hval : ∀ (j : Nat) t v, Tryd.f5.params[j]? = some t → args[j]? = some v → Value.okWide Tryd.prog W .any base t v := hval0
  have hW' := hW
  obtain ⟨p, q, hA0, hV, rfl, hfz, hnd⟩ := hW
  have hA : DataW.TrodAll enc Tryd.prog W 0 (fun _ => true) true Tryd.f5.params.toList args.toList ds p := hA0
  rw [Tryd.params5] at hA hval
  obtain ⟨v0, vs0, d0, ds0, p0, q0, hargs, rfl, rfl, h0, r0⟩ := trodAll_cons hA
  obtain ⟨v1, vs1, d1, ds1, p1, q1, rfl, rfl, rfl, h1, r1⟩ := trodAll_cons r0
  obtain ⟨rfl, rfl, rfl⟩ := trodAll_nil r1
  obtain rfl : args = #[v0, v1] := by cases args; simp_all
  obtain ⟨rfl, rfl⟩ := trodVars_none hV
  have lt0 : ∀ x ∈ p0, x.block < W.heap.size := by obtain ⟨m, hm⟩ := h0; exact DataW.trod_lt m _ _ _ hm
  have lt1 : ∀ x ∈ p1, x.block < W.heap.size := by obtain ⟨m, hm⟩ := h1; exact DataW.trod_lt m _ _ _ hm
  obtain ⟨x0, hb0⟩ := bytes_arg (hval 0 22 v0 rfl rfl) h0
  obtain ⟨x1, hb1⟩ := bytes_arg (hval 1 22 v1 rfl rfl) h1
  have hwalk := walk x0 x1 v0 v1 W (of_laid hL) hb0 hb1
  clear hA0 hval0
  refine hwalk.mono fun e W' ⟨he, bel⟩ => ?_
  subst he
  exact ⟨_, rfl, _, _, _, [], _, [], hW', trodAll_mk1 (shut_bool Tryd.underlying4 _), (trodAll_cons_mk (Below.trod laidOut (by kernel_rfl) (of_decide_eq_true (by kernel_rfl)) h0 bel lt0) (trodAll_cons_mk (Below.trod laidOut (by kernel_rfl) (of_decide_eq_true (by kernel_rfl)) h1 bel lt1) trodAll_mk0)), rfl, bel.frame _, fun h => by cases h⟩

theorem over : Rows.FrameStopsSaid :=
  OpenClaim.holds_of_wide 5 Tryd.f5 rfl rfl rfl rfl rfl rfl rfl ⟨rfl, rfl, rfl, rfl, rfl⟩ rfl rfl rfl rfl rfl (by kernel_rfl) Tryd.func5 (by kernel_rfl)
    (of_decide_eq_true (by kernel_rfl)) (by unfold Func.isWrapper; first | (rw [if_pos (by decide +kernel)]; kernel_rfl) | (rw [if_neg (by decide +kernel)]; exact ⟨rfl, rfl⟩))
    (fun os started H enc _ => lifted os started H enc)

theorem proved : Rows.FrameStopsCardSaid :=
  Claim7.holds_tied_plain_at .later [] [.data, .data] true Rows.frameStopsCard.stood.harness false
    over (fun _ h => by cases h) (by kernel_rfl) (fun _ h => by cases h) frameStops_row_tie rfl ⟨rfl, rfl⟩ (by kernel_rfl) rfl
    (fun f fn hf hfn => by
      obtain rfl : f = 5 := Option.some.inj ((show Tryd.prog.funcNamed "tallystick/tallysticklaw08.FrameStops" = some 5 by kernel_rfl).symm.trans hf) |>.symm
      obtain rfl : fn = Tryd.f5 := (Option.some.inj (Tryd.func5.symm.trans hfn)).symm
      exact ⟨by kernel_rfl, fun j t ht => by
        rw [Tryd.params5] at ht
        have hm : t ∈ [22, 22] := by simpa using Array.mem_of_getElem? ht
        have hall : ([22, 22].all fun u => !Tryd.prog.wantsStandIn u) = true := by kernel_rfl
        exact (show Tryd.prog.wantsStandIn t = false by simpa using List.all_eq_true.1 hall t hm)⟩)
    (by kernel_rfl)
#print axioms proved
end Go.Proofs.YtanefmjjbilmiaaDoor.frameStops
