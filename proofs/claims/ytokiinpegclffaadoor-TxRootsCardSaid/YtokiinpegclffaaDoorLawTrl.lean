/-
  What is proved: for every list of transactions the law TxRoots returns true, and its argument reads behind the call as it read before it; the two listed tables of package hash are taken to hold what the program's text lays in them, and the card ties them to it.
-/
import Derived.Test.YtokiinpegclffaaDoorTxZ
import Derived.Test.YtokiinpegclffaaDoorBlkP
import Derived.Test.YtokiinpegclffaaDoorTrt
import Derived.Test.YtokiinpegclffaaDoorTie
import Derived.Test.YtokiinpegclffaaDoorCards
import Derived.Stop.Joined
namespace Go.Proofs.YtokiinpegclffaaDoor.txRoots
open Go.ChangeShapes Go.WideShapes Go.ChangeAt Go.RowKit
set_option linter.unusedVariables false

theorem own : ownKnob Tryd.prog.godebug = none := by kernel_rfl
theorem laidOut : laidOutB Tryd.prog = true := by kernel_rfl
theorem wf_i64 {z : Int} (h : (Lit.int .i64 z).wf = true) : -9223372036854775808 ≤ z ∧ z ≤ 9223372036854775807 := by
  simp [Lit.wf, IntKind.min, IntKind.max, IntKind.signed, IntKind.bits] at h
  omega
set_option maxRecDepth 100000
set_option maxHeartbeats 16000000 in
theorem walk (s : Option Addr) (c : Nat) (L : List TxM) (w : World) (hL : Laid w) (hR : RowV txR w w.heap.size (.slice s L.length c) L) (hT : ∀ x ∈ L, TxV w w.heap.size x) :
    Calls Tryd.prog 6 #[.slice s L.length c] w fun e w' => e = .returned (.bool true) ∧ Below w.heap.size w w' := by
  have HWR : Hid (∀ W, Below w.heap.size w W → Calls Tryd.prog 16 #[] W fun e w' => e = .returned (.bool true) ∧ Below W.heap.size W w') := fun W h => txwrites_any W (hL.below h hL.size)
  have HFI : Hid (∀ t, TxV w w.heap.size t → ∀ W, Below w.heap.size w W → Calls Tryd.prog 17 #[.agg #[t.iv, t.ov]] W fun e w' => e = .returned (.bool (fitB t)) ∧ Below W.heap.size W w') := fun t hT W h => fits_any t W ((hT.keep h (Nat.le_refl _)).mono h.size)
  have HRT : Hid ((∀ t ∈ L, TxFit t) → L.length ≤ 6 → ∀ W, Below w.heap.size w W → Calls Tryd.prog 25 #[.slice s L.length c] W fun e w' => e = .returned (.tuple #[.agg (idA (rootV (L.map tID)).1), .bool (rootV (L.map tID)).2]) ∧ Below W.heap.size W w') := fun hf h6 W h => troot_any s _ c L W ((hR.keep h (Nat.le_refl _)).mono h.size) rfl (fun t ht => ⟨((hT t ht).keep h (Nat.le_refl _)).mono h.size, hf t ht⟩) (hL.below h hL.size) (by omega)
  have HR7 : Hid ((∀ t ∈ L, TxFit t) → L.length ≤ 6 → ∀ W, Below w.heap.size w W → Calls Tryd.prog 26 #[.slice s L.length c] W fun e w' => e = .returned (.tuple #[.agg (idA (rootV (L.map tID)).1), .bool (rootV (L.map tID)).2]) ∧ Below W.heap.size W w') := fun hf h6 W h => r7root_any s _ c L W ((hR.keep h (Nat.le_refl _)).mono h.size) rfl (fun t ht => ⟨((hT t ht).keep h (Nat.le_refl _)).mono h.size, hf t ht⟩) h6
  have HRL := Lib.hid (rootV_id (L.map tID) (tIDs_is L)).1
  obtain ⟨R0, hR0⟩ : ∃ R0, R0 = (rootV (L.map tID)).1 := ⟨_, rfl⟩
  obtain ⟨b0, hb0⟩ : ∃ b0, b0 = (rootV (L.map tID)).2 := ⟨_, rfl⟩
  rw [← hR0, ← hb0] at HRT HR7
  rw [← hR0] at HRL
  have HRW := Lib.hid hR
  have HTX := Lib.hid hT
  obtain ⟨n, hn⟩ : ∃ n, n = L.length := ⟨_, rfl⟩
  rw [← hn] at HRW HRT HR7 ⊢
  have HN := Lib.hid hn
  clear hL hR hT hR0 hb0 hn
  go_enter Tryd.func6, Tryd.ntmps6
  go_wp2_with fail
  refine (HWR.out w (Below.refl _ _)).mono ?_
  rintro e W1 ⟨rfl, hb1⟩
  have HW1 := Lib.hid hb1
  clear hb1 HWR
  by_cases h6 : ¬ n ≤ 6
  · have q1 : decide ((6 : Int) < (n : Int)) = true := decide_eq_true (by omega)
    clear h6
    go_wp2_with fail
    go_ret
    exact ⟨rfl, HW1.out⟩
  have h6 : n ≤ 6 := by omega
  have q1 : decide ((6 : Int) < (n : Int)) = false := decide_eq_false (by omega)
  have H6 := Lib.hid h6
  go_wp2_with fail
  go_loopw [16] (fun i wr => ∃ k : Nat, k ≤ n ∧ i = .int .i64 k ∧ Hid (Below w.heap.size w wr) ∧ Hid (∀ j t, j < k → L[j]? = some t → TxFit t)) (fun i _ => n - (intOf i).toNat)
  case atStart => exact ⟨0, Nat.zero_le _, rfl, HW1.out, fun j t hj _ => absurd hj (by omega)⟩
  case round =>
    obtain ⟨k, hk, rfl, HWr, HX⟩ := hrel
    clear HW1 q1
    by_cases hlt : k < n
    · obtain ⟨t, bb, o, hkt, rfl, hbw, hrg⟩ := row_at HRW.out k (by have := HN.out; omega)
      have j1 : decide ((k : Int) < (n : Int)) = true := decide_eq_true (by omega)
      have hTT := HTX.out t (List.mem_of_getElem? hkt)
      replace hrg := rr_below hrg HWr.out hbw
      change wr.rangeAt bb (o + k * 2) [t.iv, t.ov] at hrg
      have c0_ : wr.cell? ⟨bb, o + k * 2, none⟩ = some t.iv := hrg 0 _ rfl
      have c1_ : wr.cell? ⟨bb, o + k * 2 + 1, none⟩ = some t.ov := hrg 1 _ rfl
      have hbr : bb < wr.heap.size := Nat.lt_of_lt_of_le hbw HWr.out.size
      have HFT := Lib.hid (HFI.out t hTT)
      have HKT := Lib.hid hkt
      obtain ⟨B1, hB1⟩ : ∃ B, B = fitB t := ⟨_, rfl⟩
      have HF : Hid (B1 = true → TxFit t) := by show _ → _; rw [hB1]; exact (fitB_iff t).1
      rw [← hB1] at HFT
      obtain ⟨a, ha⟩ : ∃ a, a = t.iv := ⟨_, rfl⟩
      obtain ⟨b', hb'⟩ : ∃ b, b = t.ov := ⟨_, rfl⟩
      rw [← ha, ← hb'] at HFT
      rw [← ha] at c0_
      rw [← hb'] at c1_
      obtain ⟨sa, na, ca, ea⟩ : ∃ s n c, a = .slice s n c := ⟨_, _, _, ha⟩
      obtain ⟨sb, nb, cb, eb⟩ : ∃ s n c, b' = .slice s n c := ⟨_, _, _, hb'⟩
      subst ea
      subst eb
      clear hrg hTT hkt ha hb' hB1
      go_upto_region 8 with fail
      have hA : Below wr.heap.size wr (wr.alloc (.cells #[.slice sa na ca, .slice sb nb cb] 25)) := (Below.refl _ _).alloc (Nat.le_refl _) _
      refine wp_any (fun W => Below w.heap.size w W ∧ Bk W wr.heap.size 25 #[.slice sa na ca, .slice sb nb cb]) ⟨below_step HWr.out HWr.out.size hA, Bk.new _ _ _⟩ ?_
      clear hA HWr c0_ c1_ hbr
      generalize wr.heap.size = g8 at *
      rintro W ⟨hW, K8⟩
      have HW := Lib.hid hW
      have c0 := K8.cell 0
      have c1 := K8.cell 1
      have z8 := K8.lt
      clear hW
      by_cases ha4 : ¬ na ≤ 4
      · have q2 : decide ((4 : Int) < (na : Int)) = true := decide_eq_true (by omega)
        clear ha4
        go_wp2_with fail
        go_ret
        exact ⟨rfl, HW.out⟩
      have q2 : decide ((4 : Int) < (na : Int)) = false := decide_eq_false (by omega)
      by_cases hb4 : ¬ nb ≤ 4
      · have q3 : decide ((4 : Int) < (nb : Int)) = true := decide_eq_true (by omega)
        clear ha4 hb4
        go_wp2_with fail
        go_ret
        exact ⟨rfl, HW.out⟩
      have q3 : decide ((4 : Int) < (nb : Int)) = false := decide_eq_false (by omega)
      clear ha4 hb4
      go_wp2_with fail
      refine (HFT.out W HW.out).mono ?_
      rintro e W2 ⟨rfl, hb2⟩
      have HW2 := Lib.hid (below_step HW.out HW.out.size hb2)
      clear hb2 HW HFT c0 c1 z8 K8 q2 q3
      cases B1
      · go_wp2_with fail
        go_ret
        exact ⟨rfl, HW2.out⟩
      have HF1 := Lib.hid (HF.out rfl)
      clear HF
      go_wp2_with fail
      go_roundw
      case rel =>
        refine ⟨k + 1, by omega, by go_num, HW2.out, ?_⟩
        show ∀ j u, j < k + 1 → L[j]? = some u → TxFit u
        intro j u hj hu
        rcases Nat.lt_or_ge j k with h | h
        · exact HX.out j u h hu
        · obtain rfl : j = k := by omega
          have e := HKT.out
          rw [hu] at e
          obtain rfl : u = t := by simpa using e
          exact HF1.out
      case measure => simp [intOf]; omega
    · have hkn : k = n := by omega
      have j1 : decide ((k : Int) < (n : Int)) = false := decide_eq_false (by omega)
      have j0 : decide (k < n) = false := decide_eq_false (by omega)
      have HALL : Hid (∀ t ∈ L, TxFit t) := fun t ht => by
        obtain ⟨j, hj, rfl⟩ := List.mem_iff_getElem.1 ht
        exact HX.out j _ (by have := HN.out; omega) (List.getElem?_eq_getElem hj)
      have HRT := Lib.hid (HRT.out HALL.out H6.out)
      have HR7 := Lib.hid (HR7.out HALL.out H6.out)
      clear HX hlt hkn hk
      go_wp2_with fail
      refine (HRT.out wr HWr.out).mono ?_
      rintro e W2 ⟨rfl, hb2⟩
      have HW2 := Lib.hid (below_step HWr.out HWr.out.size hb2)
      have hA : Below W2.heap.size W2 ((W2.alloc (.cells (idA (zeros 32)) 29)).setCells W2.heap.size 0 (idA R0).toList) := Below.setCells (Nat.le_refl _) _ _ _ ((Below.refl _ _).alloc (Nat.le_refl _) _)
      have hK : Bk ((W2.alloc (.cells (idA (zeros 32)) 29)).setCells W2.heap.size 0 (idA R0).toList) W2.heap.size 29 (idA R0) := (Bk.new W2 29 (idA (zeros 32))).setAll (by rw [idA_size, idA_size, HRL.out]; rfl)
      clear hb2 HWr HRT j1 j0
      go_upto_region 12 with (refine wpList_store_mid rfl 29 (.tmp 5) (.tmp 39) rfl W2.heap.size 0 (idA R0) rfl rfl (by rw [idA_size, HRL.out]; exact (Bk.new W2 29 (idA (zeros 32))).there 32 (by rw [idA_size]; decide)) (by rw [idA_size, HRL.out]; exact id_info') (id_ones _) ?_)
      refine wp_any (fun W => Below w.heap.size w W ∧ Bk W W2.heap.size 29 (idA R0)) ⟨below_step HW2.out HW2.out.size hA, hK⟩ ?_
      clear hA hK HW2
      generalize W2.heap.size = g5 at *
      rintro W ⟨hW, K5⟩
      have HW := Lib.hid hW
      clear hW
      go_wp2_with fail
      refine (HR7.out W HW.out).mono ?_
      rintro e W3 ⟨rfl, hb3⟩
      replace K5 := K5.keep hb3
      have HW3 := Lib.hid (below_step HW.out HW.out.size hb3)
      have hA : Below W3.heap.size W3 ((W3.alloc (.cells (idA (zeros 32)) 28)).setCells W3.heap.size 0 (idA R0).toList) := Below.setCells (Nat.le_refl _) _ _ _ ((Below.refl _ _).alloc (Nat.le_refl _) _)
      have hK : Bk ((W3.alloc (.cells (idA (zeros 32)) 28)).setCells W3.heap.size 0 (idA R0).toList) W3.heap.size 28 (idA R0) := (Bk.new W3 28 (idA (zeros 32))).setAll (by rw [idA_size, idA_size, HRL.out]; rfl)
      clear hb3 HW HR7
      go_upto_region 13 with (refine wpList_store_mid rfl 28 (.tmp 7) (.tmp 44) rfl W3.heap.size 0 (idA R0) rfl rfl (by rw [idA_size, HRL.out]; exact (Bk.new W3 28 (idA (zeros 32))).there 32 (by rw [idA_size]; decide)) (by rw [idA_size, HRL.out]; exact merkleRoots.r_info) (id_ones _) ?_)
      refine wp_any (fun W => Below w.heap.size w W ∧ Bk W g5 29 (idA R0) ∧ Bk W W3.heap.size 28 (idA R0)) ⟨below_step HW3.out HW3.out.size hA, K5.keep hA, hK⟩ ?_
      clear hA hK HW3 K5
      generalize W3.heap.size = g7 at *
      rintro W ⟨hW, K5, K7⟩
      have HW := Lib.hid hW
      clear hW
      have hr5 := K5.range0
      have hr7 := K7.range0
      have z5 := K5.lt
      have z7 := K7.lt
      have hs5 : (Tryd.prog.info? 29).map (·.size) = some (idA R0).toList.length := by rw [Array.length_toList, idA_size, HRL.out]; exact id_info'
      have hs7 : (Tryd.prog.info? 28).map (·.size) = some (idA R0).toList.length := by rw [Array.length_toList, idA_size, HRL.out]; exact merkleRoots.r_info
      obtain ⟨A, hA0⟩ : ∃ A, A = idA R0 := ⟨_, rfl⟩
      have hgd : ∀ (a b : Operand) W, (eqGuard .eql 29 a b (.agg A.toList.toArray) (.agg A.toList.toArray)).run Tryd.prog W = .ok () W := fun a b W => by rw [hA0, Array.toArray_toList]; exact id_guard _ _ .eql a b W
      have hbn : ∀ W, (binOp .eql 29 (.agg A.toList.toArray) (.agg A.toList.toArray)).run Tryd.prog W = .ok (.bool true) W := fun W => by rw [hA0, Array.toArray_toList]; exact id_bin R0 HRL.out W
      rw [← hA0] at hr5 hr7 hs5 hs7
      obtain ⟨AL, hAL⟩ : ∃ AL, AL = A.toList := ⟨_, rfl⟩
      rw [← hAL] at hr5 hr7 hs5 hs7 hgd hbn
      have hbb : (b0 == b0) = true := by simp
      clear hA0 hAL K5 K7
      go_wp2_with (first | (refine wpList_load_mid rfl 29 (.tmp 5) rfl g5 0 rfl AL _ hr5 Tryd.underlying29 rfl hs5 ?_) | (refine wpList_load_mid rfl 28 (.tmp 7) rfl g7 0 rfl AL _ hr7 Tryd.underlying28 rfl hs7 ?_))
      go_ret
      exact ⟨rfl, HW.out⟩

/-- The door's own heap meets the condition. -/
theorem door_met (os : Os) (args : Array Value) : laidMetH Tryd.prog laidL ((World.doorLaid Tryd.prog 19 os).forCall (fun _ _ => 0) ⟨#[], args, []⟩).memory :=
  laidMetH_of_parts3 (fuel := 8) (laidMet_of_run' 8 (by kernel_rfl) (by kernel_rfl)) (by kernel_rfl) (by kernel_rfl)

set_option maxRecDepth 100000 in
theorem lifted (os : Os) (started : os.Started) (H : Type) (enc : TypeId × Value → H) :
    ReturnsInHanded {} Tryd.checked os 6 .any (fun w args => (Rows.txRootsSpec.pre enc Tryd.prog Tryd.f6 [] false w args ∧ laidMetH Tryd.prog laidL w) ∧ sizedMet enc Tryd.prog Tryd.f6 (OpenSpec.ofChange Rows.txRootsSpec) false w args)
      (Rows.txRootsSpec.post enc Tryd.prog Tryd.f6 false true false false) := by
  refine returnsInHanded_of_change_and (C := Tryd.checked) (X := fun w _ => laidMetH Tryd.prog laidL w) (fun _ _ _ hh h => h.of_heap hh) own started (by kernel_rfl) Tryd.func6
    (ChangeSpec.witness_shaped (enc := enc) (C := Tryd.checked) (os := os) (X := fun w _ => laidMetH Tryd.prog laidL w) false (World.doorLaid Tryd.prog 19 os) #[.slice none 0 0] 8 rfl (World.shaped_of_RefB (by kernel_rfl) (by kernel_rfl)) (by kernel_rfl) (by kernel_rfl) (by kernel_rfl) (door_met os _)) ?_
  intro W base args ds gs before hval0 hW _ _ hL _
  have hval : ∀ (j : Nat) t v, Tryd.f6.params[j]? = some t → args[j]? = some v → Value.okWide Tryd.prog W .any base t v := hval0
  have hW' := hW
  obtain ⟨p, q, hA0, hV, rfl, hfz, hnd⟩ := hW
  have hA : DataW.TrodAll enc Tryd.prog W 0 (fun _ => true) true Tryd.f6.params.toList args.toList ds p := hA0
  rw [Tryd.params6] at hA hval
  obtain ⟨v0, vs0, d0, ds0, p0, q0, hargs, rfl, rfl, h0, r0⟩ := trodAll_cons hA
  obtain ⟨rfl, rfl, rfl⟩ := trodAll_nil r0
  obtain rfl : args = #[v0] := by cases args; simp_all
  obtain ⟨rfl, rfl⟩ := trodVars_none hV
  have lt0 : ∀ x ∈ p0, x.block < W.heap.size := by obtain ⟨m, hm⟩ := h0; exact DataW.trod_lt m _ _ _ hm
  obtain ⟨s0, x0, c0, rfl, hb0, hd0⟩ := list_arg (hval 0 47 v0 rfl rfl) h0
  have hwalk := walk s0 c0 x0 W (of_laid hL) hb0 hd0
  clear hA0 hval0
  refine hwalk.mono fun e W' ⟨he, bel⟩ => ?_
  subst he
  exact ⟨_, rfl, _, _, _, [], _, [], hW', trodAll_mk1 (shut_bool Tryd.underlying4 _), (trodAll_cons_mk (Below.trod laidOut (by kernel_rfl) (of_decide_eq_true (by kernel_rfl)) h0 bel lt0) trodAll_mk0), rfl, bel.frame _, fun h => by cases h⟩

theorem over : Rows.TxRootsSaid :=
  OpenClaim.holds_of_wide 6 Tryd.f6 rfl rfl rfl rfl rfl rfl rfl ⟨rfl, rfl, rfl, rfl, rfl⟩ rfl rfl rfl rfl rfl (by kernel_rfl) Tryd.func6 (by kernel_rfl)
    (of_decide_eq_true (by kernel_rfl)) (by unfold Func.isWrapper; first | (rw [if_pos (by decide +kernel)]; kernel_rfl) | (rw [if_neg (by decide +kernel)]; exact ⟨rfl, rfl⟩))
    (fun os started H enc _ => lifted os started H enc)

theorem proved : Rows.TxRootsCardSaid :=
  Claim7.holds_tied_plain_at .later [] [.data, .data] true Rows.txRootsCard.stood.harness false
    over (fun _ h => by cases h) (by kernel_rfl) (fun _ h => by cases h) txRoots_row_tie rfl ⟨rfl, rfl⟩ (by kernel_rfl) rfl
    (fun f fn hf hfn => by
      obtain rfl : f = 6 := Option.some.inj ((show Tryd.prog.funcNamed "tallystick/tallysticklaw07.TxRoots" = some 6 by kernel_rfl).symm.trans hf) |>.symm
      obtain rfl : fn = Tryd.f6 := (Option.some.inj (Tryd.func6.symm.trans hfn)).symm
      exact ⟨by kernel_rfl, fun j t ht => by
        rw [Tryd.params6] at ht
        have hm : t ∈ [47] := by simpa using Array.mem_of_getElem? ht
        have hall : ([47].all fun u => !Tryd.prog.wantsStandIn u) = true := by kernel_rfl
        exact (show Tryd.prog.wantsStandIn t = false by simpa using List.all_eq_true.1 hall t hm)⟩)
    (by kernel_rfl)
#print axioms proved
end Go.Proofs.YtokiinpegclffaaDoor.txRoots
