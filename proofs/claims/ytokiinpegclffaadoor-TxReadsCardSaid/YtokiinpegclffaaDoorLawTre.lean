/-
  What is proved: for every slice of bytes the law TxReads returns true, and its argument reads behind the call as it read before it; the two listed tables of package hash are taken to hold what the program's text lays in them, and the card ties them to it.
-/
import Derived.Test.YtokiinpegclffaaDoorTxZ
import Derived.Test.YtokiinpegclffaaDoorTxT
import Derived.Test.YtokiinpegclffaaDoorTny
import Derived.Test.YtokiinpegclffaaDoorTie
import Derived.Test.YtokiinpegclffaaDoorCards
import Derived.Stop.Joined
namespace Go.Proofs.YtokiinpegclffaaDoor.txReads
open Go.ChangeShapes Go.WideShapes Go.ChangeAt Go.RowKit
set_option linter.unusedVariables false

theorem own : ownKnob Tryd.prog.godebug = none := by kernel_rfl
theorem laidOut : laidOutB Tryd.prog = true := by kernel_rfl
theorem wf_i64 {z : Int} (h : (Lit.int .i64 z).wf = true) : -9223372036854775808 ≤ z ∧ z ≤ 9223372036854775807 := by
  simp [Lit.wf, IntKind.min, IntKind.max, IntKind.signed, IntKind.bits] at h
  omega
set_option maxRecDepth 100000
theorem reads_back (xs : List Nat) (u : TxM) (hl : xs.length ≤ 1000000) (hx : ∀ x ∈ xs, x < 256) (hs : NextSays (xs, 0) u) (h : rdEnd (nxSt (xs, 0)) = 0) : txB u = xs := by
  have hI : StI (xs, 0) := ⟨hl, by simp only; omega, hx, fun h => absurd rfl h⟩
  unfold rdEnd at h
  split at h
  · exact absurd h (by omega)
  rename_i hn
  have e := (tx_eats (xs, 0) u hI hs h).2
  have h0 : (nxSt (xs, 0)).1 = [] := by
    rcases Nat.eq_zero_or_pos (nxSt (xs, 0)).1.length with h1 | h1
    · exact List.length_eq_zero_iff.1 h1
    · exact absurd ⟨h, h1⟩ hn
  rw [h0, List.append_nil] at e
  exact e.symm
theorem says_fit' {s : St} {u : TxM} (h : NextSays s u) : TxFit u := by
  have hg := says_good h
  exact ⟨by have := hg.1; omega, by have := hg.2.1; omega, fun x hx => by have := hg.2.2 x hx; show _ ≤ 200; omega⟩
set_option maxHeartbeats 8000000 in
theorem walk (xs : List Nat) (v : Value) (w : World) (hL : Laid w) (hb : BsV w w.heap.size v xs) :
    Calls Tryd.prog 5 #[v] w fun e w' => e = .returned (.bool true) ∧ Below w.heap.size w w' := by
  have hx : ∀ x ∈ xs, x < 256 := by
    obtain ⟨s, cap, e, h1, h2, h3, h4⟩ := hb
    exact h3
  have HX := Lib.hid hx
  have HWR : Hid (∀ W, Below w.heap.size w W → Calls Tryd.prog 16 #[] W fun e w' => e = .returned (.bool true) ∧ Below W.heap.size W w') := fun W h => txwrites_any W (hL.below h hL.size)
  have HB := Lib.hid hb
  obtain ⟨sv, n, cv, ev, hn⟩ : ∃ s n c, v = .slice s n c ∧ n = xs.length := by
    obtain ⟨s, cap, e, _⟩ := hb
    exact ⟨s, _, cap, e, rfl⟩
  subst ev
  have HN := Lib.hid hn
  clear hb hx hn hL
  go_enter Tryd.func5, Tryd.ntmps5
  go_wp2_with fail
  refine (HWR.out w (Below.refl _ _)).mono ?_
  rintro e W1 ⟨rfl, hb1⟩
  have HW1 := Lib.hid hb1
  clear hb1 HWR
  by_cases h5 : ¬ n ≤ 5000
  · have q1 : decide ((5000 : Int) < (n : Int)) = true := decide_eq_true (by omega)
    clear h5
    go_wp2_with fail
    go_ret
    exact ⟨rfl, HW1.out⟩
  have h5 : n ≤ 5000 := by omega
  have q1 : decide ((5000 : Int) < (n : Int)) = false := decide_eq_false (by omega)
  have HPL : Hid (xs.length ≤ 1000000) := by show _ ≤ _; rw [← HN.out]; omega
  have HB1 : Hid (BsV W1 W1.heap.size (.slice sv n cv) xs) := (HB.out.keep HW1.out (Nat.le_refl _)).mono HW1.out.size
  have HRD := Lib.hid (tread_any _ xs W1 HB1.out HPL.out HX.out)
  clear h5 HB HN
  go_wp2_with fail
  refine HRD.out.mono ?_
  rintro e W2 ⟨u, he, hb2, hsy, hno⟩
  have HW2 := Lib.hid (below_step HW1.out HW1.out.size hb2)
  have HB2 : Hid (BsV W2 W2.heap.size (.slice sv n cv) xs) := (HB1.out.keep hb2 (Nat.le_refl _)).mono hb2.size
  obtain ⟨e0, hE⟩ : ∃ e, e = rdEnd (nxSt (xs, 0)) := ⟨_, rfl⟩
  have HSY : Hid (e0 = 0 → TxV W2 W2.heap.size u ∧ TxFit u ∧ txB u = xs) := fun h => by
    rw [hE] at h
    obtain ⟨h1, h2⟩ := hsy h
    exact ⟨h2.txv ⟨HPL.out, show (0 : Nat) < 1000 by omega, HX.out, fun h => absurd rfl h⟩ h1, says_fit' h1, reads_back xs u HPL.out HX.out h1 h⟩
  have HNO : Hid (e0 ≠ 0 → u = tx0) := fun h => hno (by rw [← hE]; exact h)
  have HRR : Hid (∀ W, Calls Tryd.prog 24 #[.string (strN xs)] W fun e w' => e = .returned (.int .i64 ((e0 : Nat) : Int)) ∧ Below W.heap.size W w') := fun W => by rw [hE]; exact rreads_any xs W HPL.out HX.out
  rw [← hE] at he
  obtain ⟨c, hc⟩ : ∃ c, c = u.iv := ⟨_, rfl⟩
  obtain ⟨d, hd⟩ : ∃ d, d = u.ov := ⟨_, rfl⟩
  have HCD : Hid (c = u.iv ∧ d = u.ov) := ⟨hc, hd⟩
  rw [← hc, ← hd] at he
  obtain ⟨sc, nc, cc, ec⟩ : ∃ s n k, c = .slice s n k := ⟨_, _, _, hc⟩
  obtain ⟨sd, nd, cd, ed⟩ : ∃ s n c, d = .slice s n c := ⟨_, _, _, hd⟩
  subst ec
  subst ed
  subst he
  clear hsy hno hb2 hE hc hd HRD HW1 HB1 q1
  go_upto_region 6 with fail
  have hA : Below W2.heap.size W2 (W2.alloc (.cells #[.slice sc nc cc, .slice sd nd cd] 25)) := (Below.refl _ _).alloc (Nat.le_refl _) _
  refine wp_any (fun W => Below w.heap.size w W ∧ Bk W W2.heap.size 25 #[.slice sc nc cc, .slice sd nd cd] ∧ Below W2.heap.size W2 W) ⟨below_step HW2.out HW2.out.size hA, Bk.new _ _ _, hA⟩ ?_
  clear hA
  obtain ⟨g3, hg3⟩ : ∃ g, g = W2.heap.size := ⟨_, rfl⟩
  have HG3 := Lib.hid hg3
  rw [← hg3]
  rintro W ⟨hW, K3, hb⟩
  rw [hg3] at hb
  have HW := Lib.hid hW
  have HB3 : Hid (BsV W W.heap.size (.slice sv n cv) xs) := (HB2.out.keep hb (Nat.le_refl _)).mono hb.size
  have HSY : Hid (e0 = 0 → TxV W W.heap.size u ∧ TxFit u ∧ txB u = xs) := fun h => ⟨((HSY.out h).1.keep hb (Nat.le_refl _)).mono hb.size, (HSY.out h).2⟩
  have hcv : (convert 33 9 (.slice sv n cv)).run Tryd.prog W = .ok (.string (strN xs)) W := conv_bs HB3.out
  obtain ⟨st, hst⟩ : ∃ st, st = strN xs := ⟨_, rfl⟩
  have HST := Lib.hid hst
  rw [← hst] at hcv HRR
  clear hg3 hW hb HB2 HW2 hst
  go_wp2_with fail
  refine (HRR.out W).mono ?_
  rintro e W4 ⟨rfl, hb4⟩
  have K4 := K3.keep hb4
  have HW4 := Lib.hid (below_step HW.out HW.out.size hb4)
  have HB4 : Hid (BsV W4 W4.heap.size (.slice sv n cv) xs) := (HB3.out.keep hb4 (Nat.le_refl _)).mono hb4.size
  have HSY : Hid (e0 = 0 → TxV W4 W4.heap.size u ∧ TxFit u ∧ txB u = xs) := fun h => ⟨((HSY.out h).1.keep hb4 (Nat.le_refl _)).mono hb4.size, (HSY.out h).2⟩
  have hne : ((e0 : Int) != (e0 : Int)) = false := by simp
  clear hcv HRR K3 HW HB3 hb4
  by_cases h0 : e0 = 0
  · have HQ := Lib.hid (HSY.out h0)
    have hn2 : ((e0 : Int) != 0) = false := by rw [h0]; rfl
    clear h0 HSY HNO
    go_upto_region 10 with fail
    have HBY : Hid (∀ W, Below W4.heap.size W4 W → Calls Tryd.prog 18 #[.agg #[.slice sc nc cc, .slice sd nd cd]] W fun e w' => ∃ s m c, e = .returned (.slice s m c) ∧ (∀ w2, Below w'.heap.size w' w2 → (convert 33 9 (.slice s m c)).run Tryd.prog w2 = .ok (.string st) w2) ∧ Below W.heap.size W w') := fun W hb => by
      rw [HCD.out.1, HCD.out.2]
      refine (tbytes_any u W ((HQ.out.1.keep hb (Nat.le_refl _)).mono hb.size) HQ.out.2.1).mono ?_
      rintro e w' ⟨v', rfl, M, hb'⟩
      have hbs := M.bs HQ.out.1.lt
      obtain ⟨s, c, rfl⟩ := M.slice
      refine ⟨s, _, c, rfl, fun w2 h2 => ?_, hb'⟩
      rw [HST.out, ← HQ.out.2.2]
      exact conv_bs (hbs.keep h2 (Nat.le_refl _))
    have e1 : ∀ w', Below W4.heap.size W4 w' → w'.cell? ⟨g3, 0, none⟩ = some (.slice sc nc cc) := fun w' hb => (K4.keep hb).cell 0
    have e2 : ∀ w', Below W4.heap.size W4 w' → w'.cell? ⟨g3, 1, none⟩ = some (.slice sd nd cd) := fun w' hb => (K4.keep hb).cell 1
    have e3 : ∀ w', Below W4.heap.size W4 w' → (convert 33 9 (.slice sv n cv)).run Tryd.prog w' = .ok (.string st) w' := fun w' h => by rw [HST.out]; exact conv_bs (HB4.out.keep h (Nat.le_refl _))
    have heq : (st.toList == st.toList) = true := by simp
    have HWV := HW4
    clear K4 HB4 HQ
    go_region_held (fun w' => Below W4.heap.size W4 w')
      (first | with_reducible assumption | with_reducible exact Below.refl _ _ | with_reducible exact (Below.refl _ _).drew)
      (first
        | (go_at_call 18
           with_reducible refine (HBY.out _ (by first | with_reducible assumption | with_reducible exact (Below.refl _ _).drew | with_reducible exact Below.refl _ _)).mono ?_
           rintro e w7 ⟨s7, m7, c7, rfl, hc7, hb7⟩
           have hE7 : Below W4.heap.size W4 w7 := by
             refine below_step ?_ ?_ hb7
             · repeat' (first | with_reducible exact Below.refl _ _ | with_reducible assumption | with_reducible exact From.out (by with_reducible assumption) | with_reducible refine Below.drew ?_ | with_reducible refine Below.setCell ?_ ?_ _ | with_reducible refine Below.alloc ?_ ?_ _ | with_reducible exact Nat.le_refl _ | omega | (simp; done) | (simp; omega) | (simp [World.drew]; done) | (simp [World.drew]; omega))
             · first | omega | (simp; done) | (simp; omega) | (simp [World.drew]; done) | (simp [World.drew]; omega)
           have z7 := hE7.size
           have hc7s := hc7 w7 (Below.refl _ _))
        | fail)
    all_goals
      go_wp2_with fail
      go_ret
      exact ⟨rfl, HWV.out.trans (hE7.mono HWV.out.size)⟩
  · have hu := HNO.out h0
    have hn2 : ((e0 : Int) != 0) = true := by simp; omega
    have e1 := HCD.out.1
    have e2 := HCD.out.2
    rw [hu] at e1 e2
    obtain ⟨a1, a2, a3⟩ : sc = none ∧ nc = 0 ∧ cc = 0 := by
      have e : Value.slice sc nc cc = .slice none 0 0 := e1
      injection e with a b c
      exact ⟨a, b, c⟩
    obtain ⟨b1, b2, b3⟩ : sd = none ∧ nd = 0 ∧ cd = 0 := by
      have e : Value.slice sd nd cd = .slice none 0 0 := e2
      injection e with a b c
      exact ⟨a, b, c⟩
    clear e1 e2
    subst a1 a2 a3 b1 b2 b3
    have c0 := K4.cell 0
    have c1 := K4.cell 1
    have z4 := K4.lt
    clear hu h0 HSY HNO HCD HB4
    go_wp2_with fail
    go_ret
    exact ⟨rfl, HW4.out⟩

/-- The door's own heap meets the condition. -/
theorem door_met (os : Os) (args : Array Value) : laidMetH Tryd.prog laidL ((World.doorLaid Tryd.prog 19 os).forCall (fun _ _ => 0) ⟨#[], args, []⟩).memory :=
  laidMetH_of_parts3 (fuel := 8) (laidMet_of_run' 8 (by kernel_rfl) (by kernel_rfl)) (by kernel_rfl) (by kernel_rfl)

set_option maxRecDepth 100000 in
theorem lifted (os : Os) (started : os.Started) (H : Type) (enc : TypeId × Value → H) :
    ReturnsInHanded {} Tryd.checked os 5 .any (fun w args => (Rows.txReadsSpec.pre enc Tryd.prog Tryd.f5 [] false w args ∧ laidMetH Tryd.prog laidL w) ∧ sizedMet enc Tryd.prog Tryd.f5 (OpenSpec.ofChange Rows.txReadsSpec) false w args)
      (Rows.txReadsSpec.post enc Tryd.prog Tryd.f5 false true false false) := by
  refine returnsInHanded_of_change_and (C := Tryd.checked) (X := fun w _ => laidMetH Tryd.prog laidL w) (fun _ _ _ hh h => h.of_heap hh) own started (by kernel_rfl) Tryd.func5
    (ChangeSpec.witness_shaped (enc := enc) (C := Tryd.checked) (os := os) (X := fun w _ => laidMetH Tryd.prog laidL w) false (World.doorLaid Tryd.prog 19 os) #[.slice none 0 0] 8 rfl (World.shaped_of_RefB (by kernel_rfl) (by kernel_rfl)) (by kernel_rfl) (by kernel_rfl) (by kernel_rfl) (door_met os _)) ?_
  intro W base args ds gs before hval0 hW _ _ hL _
  have hval : ∀ (j : Nat) t v, Tryd.f5.params[j]? = some t → args[j]? = some v → Value.okWide Tryd.prog W .any base t v := hval0
  have hW' := hW
  obtain ⟨p, q, hA0, hV, rfl, hfz, hnd⟩ := hW
  have hA : DataW.TrodAll enc Tryd.prog W 0 (fun _ => true) true Tryd.f5.params.toList args.toList ds p := hA0
  rw [Tryd.params5] at hA hval
  obtain ⟨v0, vs0, d0, ds0, p0, q0, hargs, rfl, rfl, h0, r0⟩ := trodAll_cons hA
  obtain ⟨rfl, rfl, rfl⟩ := trodAll_nil r0
  obtain rfl : args = #[v0] := by cases args; simp_all
  obtain ⟨rfl, rfl⟩ := trodVars_none hV
  have lt0 : ∀ x ∈ p0, x.block < W.heap.size := by obtain ⟨m, hm⟩ := h0; exact DataW.trod_lt m _ _ _ hm
  obtain ⟨x0, hb0⟩ := bytes_arg (hval 0 33 v0 rfl rfl) h0
  have hwalk := walk x0 v0 W (of_laid hL) hb0
  clear hA0 hval0
  refine hwalk.mono fun e W' ⟨he, bel⟩ => ?_
  subst he
  exact ⟨_, rfl, _, _, _, [], _, [], hW', trodAll_mk1 (shut_bool Tryd.underlying4 _), (trodAll_cons_mk (Below.trod laidOut (by kernel_rfl) (of_decide_eq_true (by kernel_rfl)) h0 bel lt0) trodAll_mk0), rfl, bel.frame _, fun h => by cases h⟩

theorem over : Rows.TxReadsSaid :=
  OpenClaim.holds_of_wide 5 Tryd.f5 rfl rfl rfl rfl rfl rfl rfl ⟨rfl, rfl, rfl, rfl, rfl⟩ rfl rfl rfl rfl rfl (by kernel_rfl) Tryd.func5 (by kernel_rfl)
    (of_decide_eq_true (by kernel_rfl)) (by unfold Func.isWrapper; first | (rw [if_pos (by decide +kernel)]; kernel_rfl) | (rw [if_neg (by decide +kernel)]; exact ⟨rfl, rfl⟩))
    (fun os started H enc _ => lifted os started H enc)

theorem proved : Rows.TxReadsCardSaid :=
  Claim7.holds_tied_plain_at .later [] [.data, .data] true Rows.txReadsCard.stood.harness false
    over (fun _ h => by cases h) (by kernel_rfl) (fun _ h => by cases h) txReads_row_tie rfl ⟨rfl, rfl⟩ (by kernel_rfl) rfl
    (fun f fn hf hfn => by
      obtain rfl : f = 5 := Option.some.inj ((show Tryd.prog.funcNamed "tallystick/tallysticklaw07.TxReads" = some 5 by kernel_rfl).symm.trans hf) |>.symm
      obtain rfl : fn = Tryd.f5 := (Option.some.inj (Tryd.func5.symm.trans hfn)).symm
      exact ⟨by kernel_rfl, fun j t ht => by
        rw [Tryd.params5] at ht
        have hm : t ∈ [33] := by simpa using Array.mem_of_getElem? ht
        have hall : ([33].all fun u => !Tryd.prog.wantsStandIn u) = true := by kernel_rfl
        exact (show Tryd.prog.wantsStandIn t = false by simpa using List.all_eq_true.1 hall t hm)⟩)
    (by kernel_rfl)
#print axioms proved
end Go.Proofs.YtokiinpegclffaaDoor.txReads
