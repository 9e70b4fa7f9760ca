/-
  What is proved: for every text and every slice of bytes the law FrameWrites returns true, and its arguments read behind the call as they read before it; the two listed tables of package hash are taken to hold what the program's text lays in them, and the card ties them to it.
-/
import Derived.Test.YtanefmjjbilmiaaDoorFwR
import Derived.Test.YtanefmjjbilmiaaDoorTie
import Derived.Test.YtanefmjjbilmiaaDoorCards
import Derived.Stop.Joined
namespace Go.Proofs.YtanefmjjbilmiaaDoor.frameWrites
open Go.ChangeShapes Go.WideShapes Go.ChangeAt Go.RowKit
set_option linter.unusedVariables false

theorem own : ownKnob Tryd.prog.godebug = none := by kernel_rfl
theorem laidOut : laidOutB Tryd.prog = true := by kernel_rfl
theorem wf_i64 {z : Int} (h : (Lit.int .i64 z).wf = true) : -9223372036854775808 ≤ z ∧ z ≤ 9223372036854775807 := by
  simp [Lit.wf, IntKind.min, IntKind.max, IntKind.signed, IntKind.bits] at h
  omega
set_option maxRecDepth 100000
set_option linter.unusedSimpArgs false
set_option maxHeartbeats 8000000 in
theorem walk (x b : List Nat) (v : Value) (w : World) (hL : Laid w) (hx : ∀ y ∈ x, y < 256) (hb : BsV w w.heap.size v b) :
    Calls Tryd.prog 3 #[.string (strN x), v] w fun e w' => e = .returned (.bool true) ∧ Below w.heap.size w w' := by
  have hbx : ∀ x ∈ b, x < 256 := by
    obtain ⟨s, cap, e, h1, h2, h3, h4⟩ := hb
    exact h3
  have HBX := Lib.hid hbx
  have HFR := Lib.hid (frames_any w hL)
  have HL := Lib.hid hL
  have HB := Lib.hid hb
  have HX := Lib.hid hx
  have hzu := strN_size x
  obtain ⟨sb, cb, rfl, _⟩ := hb
  obtain ⟨nb, hnb⟩ : ∃ n, n = b.length := ⟨_, rfl⟩
  rw [← hnb] at HB ⊢
  have HNB := Lib.hid hnb
  have HEN : Hid (b.length ≤ 300 → ∀ W, Below w.heap.size w W → Calls Tryd.prog 17 #[.agg #[.string (strN x), .slice sb nb cb]] W fun r w' => ∃ s n c, r = .returned (.tuple #[.slice s n c, .int .i64 ((encE x b : Nat) : Int)]) ∧ Below W.heap.size W w' ∧ BsV w' w'.heap.size (.slice s n c) (encS x b)) := fun h W hW => by
    refine (fencode_any x b sb nb cb W (hL.below hW hL.size) hx ((HB.out.keep hW (Nat.le_refl _)).mono hW.size) (by omega)).mono ?_
    rintro r w' ⟨v', rfl, hbel, h0, h1⟩
    unfold encS
    by_cases he : encE x b = 0
    · have hM := h0 he
      obtain ⟨s, c, rfl⟩ := hM.slice
      rw [if_pos he]
      exact ⟨s, _, c, rfl, hbel, hM.bs (encL_lt x b hx hbx)⟩
    · rw [if_neg he]
      obtain rfl := h1 he
      exact ⟨none, 0, 0, rfl, hbel, (mine_nil w' 0).bs (by simp)⟩
  have HR8 : Hid (b.length ≤ 300 → ∀ W, Calls Tryd.prog 18 #[.agg #[.string (strN x), .string (strN b)]] W fun r w' => r = .returned (.tuple #[.string (strN (encS x b)), .int .i64 ((encE x b : Nat) : Int)]) ∧ Below W.heap.size W w') := fun h W => r8encode_any x b W hx hbx (by omega)
  have HC1 : Hid (∀ W, Calls Tryd.prog 19 #[.string (strN x)] W fun r w' => r = .returned (.int .i64 ((wordE x : Nat) : Int)) ∧ Below W.heap.size W w') := fun W => fcheck_any x W hx
  have HC2 : Hid (∀ W, Calls Tryd.prog 20 #[.string (strN x)] W fun r w' => r = .returned (.int .i64 ((wordE x : Nat) : Int)) ∧ Below W.heap.size W w') := fun W => r8check_any x W hx
  have HVD : Hid (∀ W, Below w.heap.size w W → (convert 22 9 (.slice sb nb cb)).run Tryd.prog W = .ok (.string (strN b)) W) := fun W h => conv_bs (HB.out.keep h (Nat.le_refl _))
  obtain ⟨nx, hnx⟩ : ∃ n, n = x.length := ⟨_, rfl⟩
  rw [← hnx] at hzu
  obtain ⟨u, hu⟩ : ∃ u, u = strN x := ⟨_, rfl⟩
  rw [← hu] at hzu HEN HR8 HC1 HC2 ⊢
  have HU := Lib.hid hu
  obtain ⟨d, hd⟩ : ∃ d, d = strN b := ⟨_, rfl⟩
  rw [← hd] at HR8 HVD
  have HD := Lib.hid hd
  clear hbx hnb hL hx hnx hu hd
  go_enter Tryd.func3, Tryd.ntmps3
  go_wp2_with fail
  refine HFR.out.mono ?_
  rintro e w1 ⟨rfl, hb1⟩
  have HW1 := Lib.hid hb1
  clear hb1 HFR
  by_cases h1 : 100 < nx
  · have q1 : decide ((100 : Int) < (nx : Int)) = true := decide_eq_true (by omega)
    clear h1
    go_wp2_with fail
    go_ret
    exact ⟨rfl, HW1.out⟩
  have q1 : decide ((100 : Int) < (nx : Int)) = false := decide_eq_false (by omega)
  by_cases h2 : 300 < nb
  · have q2 : decide ((300 : Int) < (nb : Int)) = true := decide_eq_true (by omega)
    clear h1 h2
    go_wp2_with fail
    go_ret
    exact ⟨rfl, HW1.out⟩
  have q2 : decide ((300 : Int) < (nb : Int)) = false := decide_eq_false (by omega)
  have H12 := Lib.hid (show nb ≤ 300 by omega)
  have HE1 := Lib.hid (HEN.out (by have := HNB.out; omega) w1 HW1.out)
  clear h1 h2 HEN
  go_wp2_with fail
  refine HE1.out.mono ?_
  rintro r w2 ⟨s2, n2, c2, rfl, hb2, hB2⟩
  have HW2 := Lib.hid (below_step HW1.out HW1.out.size hb2)
  have HB2 := Lib.hid hB2
  have hcv := HVD.out w2 HW2.out
  have HR := Lib.hid (HR8.out (by have := H12.out; have := HNB.out; omega) w2)
  clear hb2 hB2 HE1 HR8 HW1
  go_wp2_with fail
  refine HR.out.mono ?_
  rintro r w3 ⟨rfl, hb3⟩
  have HW3 := Lib.hid (below_step HW2.out HW2.out.size hb3)
  have HB3 := Lib.hid ((HB2.out.keep hb3 (Nat.le_refl _)).mono hb3.size)
  have hcv3 : (convert 22 9 (.slice s2 n2 c2)).run Tryd.prog w3 = .ok (.string (strN (encS x b))) w3 := conv_bs HB3.out
  have hcc : ((strN (encS x b)).toList == (strN (encS x b)).toList) = true := by simp
  obtain ⟨t, ht⟩ : ∃ t, t = strN (encS x b) := ⟨_, rfl⟩
  rw [← ht] at hcv3 hcc ⊢
  obtain ⟨ee, hee⟩ : ∃ ee, ee = encE x b := ⟨_, rfl⟩
  rw [← hee] at ⊢
  have HEE := Lib.hid hee
  have q3 : ((ee : Int) != (ee : Int)) = false := by simp
  clear hb3 hcv HR ht hee HB2 HW2
  go_wp2_with fail
  refine (HC1.out w3).mono ?_
  rintro r w4 ⟨rfl, hb4⟩
  have HW4 := Lib.hid (below_step HW3.out HW3.out.size hb4)
  have HB4 := Lib.hid ((HB3.out.keep hb4 (Nat.le_refl _)).mono hb4.size)
  clear hb4 HC1 hcv3 hcc HB3 HW3
  go_wp2_with fail
  refine (HC2.out w4).mono ?_
  rintro r w5 ⟨rfl, hb5⟩
  have HW5 := Lib.hid (below_step HW4.out HW4.out.size hb5)
  have HB5 := Lib.hid ((HB4.out.keep hb5 (Nat.le_refl _)).mono hb5.size)
  have q4 : (((wordE x : Nat) : Int) != ((wordE x : Nat) : Int)) = false := by simp
  generalize wordE x = we at *
  clear hb5 HC2 HB4 HW4
  by_cases h0 : ee ≠ 0
  · have q5 : ((ee : Int) != 0) = true := by rw [bne_iff_ne]; omega
    clear h0
    go_wp2_with fail
    go_ret
    exact ⟨rfl, HW5.out⟩
  have h0 : ee = 0 := by omega
  have q5 : ((ee : Int) != 0) = false := by rw [h0]; rfl
  have HOK := Lib.hid (encE_ok (HEE.out.symm.trans h0))
  have hes : encS x b = encL x b := by unfold encS; rw [if_pos (HEE.out.symm.trans h0)]
  rw [hes] at HB5
  clear h0 hes
  go_upto_region 12 with fail
  have hA : Below w5.heap.size w5 (w5.alloc (.cells #[.slice none 0 0, .int .i64 0] 36)) := (Below.refl _ _).alloc (Nat.le_refl _) _
  refine wp_any (fun W => Below w5.heap.size w5 W ∧ Bk W w5.heap.size 36 #[.slice none 0 0, .int .i64 0]) ⟨hA, Bk.new _ _ _⟩ ?_
  rintro W6 ⟨hW6, K6⟩
  have HW6 := Lib.hid (below_step HW5.out HW5.out.size hW6)
  have hL6 := HL.out.below HW6.out HL.out.size
  have hbs6 := HB5.out.keep hW6 (Nat.le_refl _)
  have HP : Hid (w.heap.size ≤ w5.heap.size) := HW5.out.size
  have HC := Lib.hid (fadd_on w5.heap.size w.heap.size n2 c2 s2 (.slice none 0 0) [] (encL x b) W6 hL6 HL.out.size HP.out HW6.out.size (new_feed K6 _) (by simp) (bsn_new (w := w5) hbs6 hW6.size (Nat.le_refl _)) (by rw [encL_len x b HOK.out.1.2.1]; have := HOK.out.2; omega))
  clear hA hW6 K6 hL6 hbs6
  generalize w5.heap.size = p at *
  clear HB5
  go_wp2_with fail
  refine HC.out.mono ?_
  rintro r w7 ⟨rv, v7, L7, rfl, hF7, hM7, ho7, hb7, hs7, hl7⟩
  have hfz : FZ ([] ++ encL x b) = ⟨[], 0, [(x, b)]⟩ := by rw [List.nil_append]; exact feed_one_enc x b HOK.out.1 HOK.out.2 HBX.out
  rw [hfz] at hF7 ho7
  obtain ⟨s8, c8, rfl⟩ := map_one (show L7.map FrM.pr = [(x, b)] from ho7)
  obtain ⟨br, cr, rfl, hbr, hq0, hq1, hcr⟩ := made_one hM7
  have hd7 : Mine w7 W6.heap.size (.slice s8 b.length c8) b := (hM7.2 _ List.mem_cons_self).1
  have hd7b := hd7.bs HBX.out
  have HW7 := Lib.hid (HW6.out.trans hl7)
  obtain ⟨s9, c9, rfl⟩ := hF7.2.slice
  have HF7 := Lib.hid hF7
  have hc1 : w7.cell? ⟨br, 1, none⟩ = some (.slice s8 nb c8) := by rw [HNB.out]; exact hq1
  have hc0 : w7.cell? ⟨br, 0, none⟩ = some (.string u) := by rw [HU.out]; exact hq0
  clear hq0 hq1 hF7 hM7 ho7 hb7 hs7 hl7 hfz HC HW6 HW5
  go_upto_region 13 with fail
  refine fwR13 br cr p nb cb nb c8 sb s8 u d w7 _ _ _ _ _ _ _ _ _ _ _ _ _ _ _ _ _ _ _ _ _ _ _ _ _ _ _ _ _ _ _ _ _ _ _ _ _ _ _ _ _ _ _ _ _ _ _ _ _ _ _ _ _ _ _ _ _ _ _ _ _ _ _ _ _ _ _ _ _ _ _ _ _ _ _ _ _ _ hbr hcr hc0 hc1 (by simp) (by simp) (Lib.hid (fun W hW => by
    have h1 := conv_bs (hd7b.keep hW (Nat.le_refl _))
    rw [← HNB.out, ← HD.out] at h1
    exact h1)) (Lib.hid (fun W hW => HVD.out W (below_step HW7.out HW7.out.size hW))) (Lib.hid (fun W hW => fheld_any p _ _ _ _ _ _ W (HF7.out.keep hW))) (Lib.hid (fun _ _ _ _ _ _ _ _ _ _ _ _ _ _ _ _ _ _ _ _ _ _ _ _ _ w8 hb8 => ?_))
  have HW8 := Lib.hid (below_step HW7.out HW7.out.size hb8)
  clear hb8 hd7 hd7b hc0 hc1
  go_wp2_with fail
  go_ret
  exact ⟨rfl, HW8.out⟩

/-- The door's own heap meets the condition. -/
theorem door_met (os : Os) (args : Array Value) : laidMetH Tryd.prog laidL ((World.doorLaid Tryd.prog 19 os).forCall (fun _ _ => 0) ⟨#[], args, []⟩).memory :=
  laidMetH_of_parts3 (fuel := 8) (laidMet_of_run' 8 (by kernel_rfl) (by kernel_rfl)) (by kernel_rfl) (by kernel_rfl)

set_option maxRecDepth 100000 in
theorem lifted (os : Os) (started : os.Started) (H : Type) (enc : TypeId × Value → H) :
    ReturnsInHanded {} Tryd.checked os 3 .any (fun w args => (Rows.frameWritesSpec.pre enc Tryd.prog Tryd.f3 [] false w args ∧ laidMetH Tryd.prog laidL w) ∧ sizedMet enc Tryd.prog Tryd.f3 (OpenSpec.ofChange Rows.frameWritesSpec) false w args)
      (Rows.frameWritesSpec.post enc Tryd.prog Tryd.f3 false true false false) := by
  refine returnsInHanded_of_change_and (C := Tryd.checked) (X := fun w _ => laidMetH Tryd.prog laidL w) (fun _ _ _ hh h => h.of_heap hh) own started (by kernel_rfl) Tryd.func3
    (ChangeSpec.witness_shaped (enc := enc) (C := Tryd.checked) (os := os) (X := fun w _ => laidMetH Tryd.prog laidL w) false (World.doorLaid Tryd.prog 19 os) #[.string ⟨#[]⟩, .slice none 0 0] 8 rfl (World.shaped_of_RefB (by kernel_rfl) (by kernel_rfl)) (by kernel_rfl) (by kernel_rfl) (by kernel_rfl) (door_met os _)) ?_
  intro W base args ds gs before hval0 hW _ _ hL _
  have hval : ∀ (j : Nat) t v, Tryd.f3.params[j]? = some t → args[j]? = some v → Value.okWide Tryd.prog W .any base t v := hval0
  have hW' := hW
  obtain ⟨p, q, hA0, hV, rfl, hfz, hnd⟩ := hW
  have hA : DataW.TrodAll enc Tryd.prog W 0 (fun _ => true) true Tryd.f3.params.toList args.toList ds p := hA0
  rw [Tryd.params3] at hA hval
  obtain ⟨v0, vs0, d0, ds0, p0, q0, hargs, rfl, rfl, h0, r0⟩ := trodAll_cons hA
  obtain ⟨v1, vs1, d1, ds1, p1, q1, rfl, rfl, rfl, h1, r1⟩ := trodAll_cons r0
  obtain ⟨rfl, rfl, rfl⟩ := trodAll_nil r1
  obtain rfl : args = #[v0, v1] := by cases args; simp_all
  obtain ⟨rfl, rfl⟩ := trodVars_none hV
  have lt0 : ∀ x ∈ p0, x.block < W.heap.size := by obtain ⟨m, hm⟩ := h0; exact DataW.trod_lt m _ _ _ hm
  have lt1 : ∀ x ∈ p1, x.block < W.heap.size := by obtain ⟨m, hm⟩ := h1; exact DataW.trod_lt m _ _ _ hm
  obtain ⟨x0, hb0, rfl⟩ := str_arg (hval 0 9 v0 rfl rfl) h0
  obtain ⟨x1, hb1⟩ := bytes_arg (hval 1 22 v1 rfl rfl) h1
  have hwalk := walk x0 x1 v1 W (of_laid hL) hb0 hb1
  clear hA0 hval0
  refine hwalk.mono fun e W' ⟨he, bel⟩ => ?_
  subst he
  exact ⟨_, rfl, _, _, _, [], _, [], hW', trodAll_mk1 (shut_bool Tryd.underlying4 _), (trodAll_cons_mk (Below.trod laidOut (by kernel_rfl) (of_decide_eq_true (by kernel_rfl)) h0 bel lt0) (trodAll_cons_mk (Below.trod laidOut (by kernel_rfl) (of_decide_eq_true (by kernel_rfl)) h1 bel lt1) trodAll_mk0)), rfl, bel.frame _, fun h => by cases h⟩

theorem over : Rows.FrameWritesSaid :=
  OpenClaim.holds_of_wide 3 Tryd.f3 rfl rfl rfl rfl rfl rfl rfl ⟨rfl, rfl, rfl, rfl, rfl⟩ rfl rfl rfl rfl rfl (by kernel_rfl) Tryd.func3 (by kernel_rfl)
    (of_decide_eq_true (by kernel_rfl)) (by unfold Func.isWrapper; first | (rw [if_pos (by decide +kernel)]; kernel_rfl) | (rw [if_neg (by decide +kernel)]; exact ⟨rfl, rfl⟩))
    (fun os started H enc _ => lifted os started H enc)

theorem proved : Rows.FrameWritesCardSaid :=
  Claim7.holds_tied_plain_at .later [] [.data, .data] true Rows.frameWritesCard.stood.harness false
    over (fun _ h => by cases h) (by kernel_rfl) (fun _ h => by cases h) frameWrites_row_tie rfl ⟨rfl, rfl⟩ (by kernel_rfl) rfl
    (fun f fn hf hfn => by
      obtain rfl : f = 3 := Option.some.inj ((show Tryd.prog.funcNamed "tallystick/tallysticklaw08.FrameWrites" = some 3 by kernel_rfl).symm.trans hf) |>.symm
      obtain rfl : fn = Tryd.f3 := (Option.some.inj (Tryd.func3.symm.trans hfn)).symm
      exact ⟨by kernel_rfl, fun j t ht => by
        rw [Tryd.params3] at ht
        have hm : t ∈ [9, 22] := by simpa using Array.mem_of_getElem? ht
        have hall : ([9, 22].all fun u => !Tryd.prog.wantsStandIn u) = true := by kernel_rfl
        exact (show Tryd.prog.wantsStandIn t = false by simpa using List.all_eq_true.1 hall t hm)⟩)
    (by kernel_rfl)
#print axioms proved
end Go.Proofs.YtanefmjjbilmiaaDoor.frameWrites
