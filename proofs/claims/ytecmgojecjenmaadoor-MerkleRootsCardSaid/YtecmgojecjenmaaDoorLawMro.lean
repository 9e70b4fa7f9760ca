/-
  What is proved: for every list of names the law MerkleRoots returns true, and its arguments read behind the call as they read before; the two listed tables of package hash are taken to hold what the program's text lays in them, and the card ties them to it.
-/
import Derived.Test.YtecmgojecjenmaaDoorMerJ
import Derived.Test.YtecmgojecjenmaaDoorMroR
import Derived.Test.YtecmgojecjenmaaDoorIdArg
import Derived.Test.YtecmgojecjenmaaDoorTie
import Derived.Test.YtecmgojecjenmaaDoorCards
import Derived.Stop.Joined
namespace Go.Proofs.YtecmgojecjenmaaDoor.merkleRoots
open Go.ChangeShapes Go.WideShapes Go.ChangeAt Go.RowKit
set_option linter.unusedVariables false

theorem own : ownKnob Tryd.prog.godebug = none := by kernel_rfl
theorem laidOut : laidOutB Tryd.prog = true := by kernel_rfl
theorem wf_i64 {z : Int} (h : (Lit.int .i64 z).wf = true) : -9223372036854775808 ≤ z ∧ z ≤ 9223372036854775807 := by
  simp [Lit.wf, IntKind.min, IntKind.max, IntKind.signed, IntKind.bits] at h
  omega

set_option linter.unusedSimpArgs false
set_option maxRecDepth 100000 in
set_option maxHeartbeats 1000000 in
theorem walk_big (s : Option Addr) (n c : Nat) (w : World) (hL : Laid w) (h : 14 < n) :
    Calls Tryd.prog 6 #[.slice s n c] w fun e w' => e = .returned (.bool true) ∧ Below w.heap.size w w' := by
  have HJ := Lib.hid (joins_any _ hL)
  have hd2 : decide ((14 : Int) < (n : Int)) = true := decide_eq_true (by omega)
  clear hL
  go_enter Tryd.func6, Tryd.ntmps6
  go_wp2_with fail
  refine HJ.out.mono ?_
  rintro e w1 ⟨rfl, hb1⟩
  clear HJ
  go_wp2_with fail
  go_ret
  exact ⟨rfl, hb1⟩
set_option maxRecDepth 100000 in
set_option maxHeartbeats 8000000 in
theorem walk_inn (L : List (List Nat)) (s : Option Addr) (c : Nat) (w : World) (hL : Laid w) (hv : IdsV w w.heap.size (.slice s L.length c) L) (hn : ¬ 14 < L.length) :
    Calls Tryd.prog 6 #[.slice s L.length c] w fun e w' => e = .returned (.bool true) ∧ Below w.heap.size w w' := by
  have HL := Lib.hid hL
  have HJ := Lib.hid (joins_any _ hL)
  have hids := hv.ids
  have HB : Hid (∀ W, Below w.heap.size w W → IdsV W W.heap.size (.slice s L.length c) L) := fun W h => (hv.keep h (Nat.le_refl _)).mono h.size
  have hat := hv.at_
  have HII := Lib.hid hids
  have HQ := Lib.hid (rootV_id L hids)
  have HRT : Hid (∀ v W, Below w.heap.size w W → IdsV W W.heap.size v L → Calls Tryd.prog 14 #[v] W fun e w' => e = .returned (.tuple #[.agg (idA (rootV L).1), .bool (rootV L).2]) ∧ Below W.heap.size W w') := fun v W h1 h2 => root_any v L W (hL.below h1 hL.size) h2 (by omega)
  have HRR : Hid (∀ v W, IdsV W W.heap.size v L → Calls Tryd.prog 17 #[v] W fun e w' => e = .returned (.tuple #[.agg (idA (rootV L).1), .bool (rootV L).2]) ∧ Below W.heap.size W w') := fun v W h => rroot_any v L W h (by omega)
  have HPL : Hid (∀ W, Below w.heap.size w W → Calls Tryd.prog 18 #[.slice s L.length c] W fun e w' => ∃ v', e = .returned v' ∧ IdsV w' w'.heap.size v' L ∧ Below W.heap.size W w') := fun W h => plain_any _ L W (HB.out W h) (by omega)
  have HAT : Hid (∀ k, k < L.length → ∃ b o, s = some ⟨b, o, none⟩ ∧ b < w.heap.size ∧ w.rangeAt b (o + k * 32) (idA (nthI L k)).toList) := fun k hk => by
    obtain ⟨b, o, e, h1, _, r1⟩ := hat (fun h => by rw [h] at hk; simp at hk)
    exact ⟨b, o, e, h1, r1 k _ (nthI_get hk)⟩
  have HID : Hid (∀ k, k < L.length → IsId (nthI L k)) := fun k hk => nthI_id hids hk
  have HM : Hid (∀ (W : World) (s3 : Option Addr) (c3 : Nat), IdsV W W.heap.size (.slice s3 L.length c3) L → ∀ k, k < L.length → ∃ b o, s3 = some ⟨b, o, none⟩ ∧ b < W.heap.size ∧ W.rangeAt b (o + k * 32) (idA (nthI L k)).toList) := fun W s3 c3 h k hk => by
    obtain ⟨b, o, e, h1, _, r1⟩ := h.at_ (fun h => by rw [h] at hk; simp at hk)
    exact ⟨b, o, e, h1, r1 k _ (nthI_get hk)⟩
  clear hids hat hv hL
  generalize (rootV L).1 = q at *
  generalize (rootV L).2 = tw at *
  obtain ⟨n, hnn⟩ : ∃ n, n = L.length := ⟨_, rfl⟩
  have HNN := Lib.hid hnn
  rw [← hnn] at HB HPL HAT HID HM hn ⊢
  have hd1 : decide ((14 : Int) < (n : Int)) = false := decide_eq_false (by omega)
  have hql := HQ.out.1
  clear hnn
  go_enter Tryd.func6, Tryd.ntmps6
  go_wp2_with fail
  refine HJ.out.mono ?_
  rintro e w1 ⟨rfl, hb1⟩
  have hA : Below w1.heap.size w1 (w1.alloc (.cells #[] 27)) := (Below.refl _ _).alloc (Nat.le_refl _) _
  have hWA := hb1.trans (hA.mono hb1.size)
  obtain ⟨v3, W3, hrun, M3, hb3⟩ := appI [] L (.slice (some ⟨w1.heap.size, 0, none⟩) 0 0) (.slice s n c) w1.heap.size (w1.alloc (.cells #[] 27)) (mine_none (Nat.le_refl _) (Bk.new _ _ _)) IsIds.nil hA.size (HB.out _ hWA) (by simp; have := HNN.out; omega)
  rw [List.nil_append] at M3
  have hW3 := hb1.trans ((hA.trans hb3).mono hb1.size)
  have M3 := Lib.hid (M3.ids HII.out)
  obtain ⟨s3, c3, e3⟩ := M3.out.slice
  rw [← HNN.out] at e3
  subst e3
  have HRT3 := Lib.hid (HRT.out _ W3 hW3 M3.out)
  have HM3 := Lib.hid (HM.out W3 s3 c3 M3.out)
  have hW3 := Lib.hid hW3
  clear hb1 HJ hA hWA hb3 HRT HM M3
  go_wp2_with (at_builtin; refine wpList_appI (v1 := .slice (some ⟨w1.heap.size, 0, none⟩) 0 0) (v2 := .slice s n c) (v := .slice s3 n c3) rfl (.tmp 14) (.tmp 15) rfl rfl rfl rfl hrun ?_)
  clear hrun
  refine HRT3.out.mono ?_
  rintro e w4 ⟨rfl, hb⟩
  have hW4 := Lib.hid hb
  have N0 := Bk.new w4 27 (idA (zeros 32))
  clear hb HRT3
  go_upto_region 7 with (refine wpList_store_mid rfl 27 (.tmp 4) (.tmp 20) rfl w4.heap.size 0 (idA q) rfl rfl (by rw [idA_size, hql]; exact N0.there 32 (by rw [idA_size]; decide)) (by rw [idA_size, hql]; exact id_info') (id_ones _) ?_)
  have hA3 : Below w4.heap.size w4 ((w4.alloc (.cells (idA (zeros 32)) 27)).setCells w4.heap.size 0 (idA q).toList) := Below.setCells (Nat.le_refl _) _ _ _ ((Below.refl _ _).alloc (Nat.le_refl _) _)
  refine wp_any (fun V => Below W3.heap.size W3 V ∧ Bk V w4.heap.size 27 (idA q)) ⟨hW4.out.trans (hA3.mono hW4.out.size), N0.setAll (by rw [idA_size, idA_size, hql]; rfl)⟩ ?_
  generalize w4.heap.size = g4 at *
  clear N0 hA3 hW4
  rintro V ⟨hW4, K4⟩
  have HP1 := Lib.hid (HPL.out V (hW3.out.trans (hW4.mono hW3.out.size)))
  have hW4 := Lib.hid hW4
  clear HPL
  go_wp2_with fail
  refine HP1.out.mono ?_
  rintro e w5 ⟨v5, rfl, H5, hb5⟩
  have K4 := K4.keep hb5
  have hW5 := Lib.hid (hW4.out.trans (hb5.mono hW4.out.size))
  have HR5 := Lib.hid (HRR.out v5 w5 H5)
  clear hb5 HP1 H5 HRR hW4
  go_wp2_with fail
  refine HR5.out.mono ?_
  rintro e w6 ⟨rfl, hb6⟩
  have K4 := K4.keep hb6
  have hW6 := Lib.hid (hW5.out.trans (hb6.mono hW5.out.size))
  have N0 := Bk.new w6 26 (idA (zeros 32))
  have z4 := K4.lt
  clear hb6 HR5 hW5
  go_upto_region 8 with (refine wpList_store_mid rfl 26 (.tmp 6) (.tmp 26) rfl w6.heap.size 0 (idA q) rfl rfl (by rw [idA_size, hql]; exact N0.there 32 (by rw [idA_size]; decide)) (by rw [idA_size, hql]; exact r_info) (id_ones _) ?_)
  have hA3 : Below w6.heap.size w6 ((w6.alloc (.cells (idA (zeros 32)) 26)).setCells w6.heap.size 0 (idA q).toList) := Below.setCells (Nat.le_refl _) _ _ _ ((Below.refl _ _).alloc (Nat.le_refl _) _)
  refine wp_any (fun V => Below W3.heap.size W3 V ∧ Bk V g4 27 (idA q) ∧ Bk V w6.heap.size 26 (idA q)) ⟨hW6.out.trans (hA3.mono hW6.out.size), K4.keep hA3, N0.setAll (by rw [idA_size, idA_size, hql]; rfl)⟩ ?_
  generalize w6.heap.size = g6 at *
  clear N0 hA3 hW6 K4 z4
  rintro V2 ⟨hW6, K4, K6⟩
  have hW6 := Lib.hid hW6
  have heq : ∀ W, (Op.equalIn 10000 27 (.agg (idA q)) (.agg (idA q))).run Tryd.prog W = .ok true W := fun W => by have h := id_eql q q hql hql W; rwa [decide_eq_true rfl] at h
  have HEQ := Lib.hid heq
  clear heq
  go_wp2_with fail
  go_loopw [30] (fun iv wr => ∃ (k : Nat), k ≤ n ∧ .int .i64 (k : Int) = iv ∧ Hid (Below V2.heap.size V2 wr)) (fun iv _ => n - (intOf iv).toNat)
  case atStart => exact ⟨0, Nat.zero_le _, rfl, Below.refl _ _⟩
  case round =>
    obtain ⟨k, hk, e1, hWr⟩ := hrel
    subst e1
    by_cases hlt : k < n
    · have hdk : decide ((k : Int) < (n : Int)) = true := decide_eq_true (by omega)
      have hdk' : decide (k < n) = true := decide_eq_true hlt
      obtain ⟨bB, oB, rfl, l1, r1⟩ := HAT.out k hlt
      obtain ⟨bA, oA, rfl, l2, r2⟩ := HM3.out k hlt
      have hB3 := hW6.out.trans (hWr.out.mono hW6.out.size)
      have hB0 := hW3.out.trans (hB3.mono hW3.out.size)
      have HR2 : Hid (bA < wr.heap.size ∧ bB < wr.heap.size ∧ wr.rangeAt bA (oA + k * 32) (idA (nthI L k)).toList ∧ wr.rangeAt bB (oB + k * 32) (idA (nthI L k)).toList) :=
        ⟨Nat.lt_of_lt_of_le l2 hB3.size, Nat.lt_of_lt_of_le l1 hB0.size, idr_below r2 hB3 l2, idr_below r1 hB0 l1⟩
      have HI := Lib.hid (HID.out k hlt)
      have HJ : Hid ((0 : Int) ≤ (k : Int) ∧ (k : Int) < (n : Int)) := ⟨by omega, by omega⟩
      have HE : Hid (∀ W, (Op.equalIn 10000 27 (.agg (idA (nthI L k))) (.agg (idA (nthI L k)))).run Tryd.prog W = .ok true W) := fun W => by have h := id_eql _ _ HI.out.1 HI.out.1 W; rwa [decide_eq_true rfl] at h
      have hk1 : k + 1 ≤ n := hlt
      clear r1 r2 hB3 hB0 l1 l2
      go_upto_region 11 with fail
      refine region11 bA oA c3 bB oB c n k wr (nthI L k) _ _ _ _ _ _ _ _ _ _ _ _ _ _ _ _ _ _ _ _ _ _ _ _ _ _ _ _ _ _ _ _ _ _ _ _ _ _ _ _ _ _ _ _ _ _ _ _ _ HI HJ HR2 HE (fun x33 x34 x35 x36 x37 x38 x39 x40 wd hbd => ?_)
      have hWd := Lib.hid (hWr.out.trans (hbd.mono hWr.out.size))
      clear hbd HE HI HR2
      go_wp2_with fail
      go_roundw
      case rel =>
        have hi : Value.int .i64 ((k + 1 : Nat) : Int) = .int .i64 ((k : Int) + 1) := by go_num
        first | exact ⟨k + 1, hk1, hi, hWd⟩ | ((repeat apply Exists.intro); exact ⟨⟨k + 1, hk1, hi, hWd⟩, rfl⟩)
      case measure => simp [intOf] <;> omega
    · have hdk : decide ((k : Int) < (n : Int)) = false := decide_eq_false (by omega)
      have hdk' : decide (k < n) = false := decide_eq_false hlt
      have K4 := K4.keep hWr.out
      have K6 := K6.keep hWr.out
      have hB3 := hW6.out.trans (hWr.out.mono hW6.out.size)
      have hB0 := Lib.hid (hW3.out.trans (hB3.mono hW3.out.size))
      clear hB3 hWr
      obtain ⟨tl, htl⟩ : ∃ tl : TypeId, tl = 27 := ⟨_, rfl⟩
      have heq := HEQ.out
      go_wp2_with (first
        | (refine wpList_load_mid rfl 27 (.tmp 4) rfl g4 0 rfl (idA q).toList _ K4.range0 Tryd.underlying27 rfl (by rw [Array.length_toList, idA_size, hql]; exact id_info') ?_)
        | (refine wpList_load_mid rfl 26 (.tmp 6) rfl g6 0 rfl (idA q).toList _ K6.range0 Tryd.underlying26 rfl (by rw [Array.length_toList, idA_size, hql]; exact r_info) ?_))
      go_ret
      exact ⟨rfl, hB0.out⟩
theorem walk (v : Value) (L : List (List Nat)) (w : World) (hL : Laid w) (hv : IdsV w w.heap.size v L) :
    Calls Tryd.prog 6 #[v] w fun e w' => e = .returned (.bool true) ∧ Below w.heap.size w w' := by
  obtain ⟨s, c, rfl⟩ := hv.slice
  by_cases h0 : 14 < L.length
  · exact walk_big s _ c w hL h0
  · exact walk_inn L s c w hL hv h0

/-- The door's own heap meets the condition. -/
theorem door_met (os : Os) (args : Array Value) : laidMetH Tryd.prog laidL ((World.doorLaid Tryd.prog 19 os).forCall (fun _ _ => 0) ⟨#[], args, []⟩).memory :=
  laidMetH_of_parts3 (fuel := 8) (laidMet_of_run' 8 (by kernel_rfl) (by kernel_rfl)) (by kernel_rfl) (by kernel_rfl)

set_option maxRecDepth 100000 in
theorem lifted (os : Os) (started : os.Started) (H : Type) (enc : TypeId × Value → H) :
    ReturnsInHanded {} Tryd.checked os 6 .any (fun w args => (Rows.merkleRootsSpec.pre enc Tryd.prog Tryd.f6 [] false w args ∧ laidMetH Tryd.prog laidL w) ∧ sizedMet enc Tryd.prog Tryd.f6 (OpenSpec.ofChange Rows.merkleRootsSpec) false w args)
      (Rows.merkleRootsSpec.post enc Tryd.prog Tryd.f6 false true false false) := by
  refine returnsInHanded_of_change_and (C := Tryd.checked) (X := fun w _ => laidMetH Tryd.prog laidL w) (fun _ _ _ hh h => h.of_heap hh) own started (by kernel_rfl) Tryd.func6
    (ChangeSpec.witness_shaped (enc := enc) (C := Tryd.checked) (os := os) (X := fun w _ => laidMetH Tryd.prog laidL w) false (World.doorLaid Tryd.prog 19 os) #[.slice none 0 0] 8 rfl (World.shaped_of_RefB (by kernel_rfl) (by kernel_rfl)) (by kernel_rfl) (by kernel_rfl) (by kernel_rfl) (door_met os _)) ?_
  intro W base args ds gs before hval0 hW _ _ hL _
  have hval : ∀ (j : Nat) t v, Tryd.f6.params[j]? = some t → args[j]? = some v → Value.okWide Tryd.prog W .any base t v := hval0
  have hW' := hW
  obtain ⟨p, q, hA0, hV, rfl, hfz, hnd⟩ := hW
  have hA : DataW.TrodAll enc Tryd.prog W 0 (fun _ => true) true Tryd.f6.params.toList args.toList ds p := hA0
  rw [Tryd.params6] at hA hval
  obtain ⟨v0, vs0, d0, ds0, p0, q0, hargs, rfl, rfl, h0, r0⟩ := trodAll_cons hA
  obtain ⟨rfl, rfl, rfl⟩ := trodAll_nil r0
  obtain rfl : args = #[v0] := by cases args; simp_all
  obtain ⟨rfl, rfl⟩ := trodVars_none hV
  have lt0 : ∀ x ∈ p0, x.block < W.heap.size := by obtain ⟨m, hm⟩ := h0; exact DataW.trod_lt m _ _ _ hm
  obtain ⟨x0, hb0⟩ := ids_arg (hval 0 32 v0 rfl rfl) h0
  have hwalk := walk v0 x0 W (of_laid hL) hb0
  clear hA0 hval0
  refine hwalk.mono fun e W' ⟨he, bel⟩ => ?_
  subst he
  exact ⟨_, rfl, _, _, _, [], _, [], hW', trodAll_mk1 (shut_bool Tryd.underlying4 _), (trodAll_cons_mk (Below.trod laidOut (by kernel_rfl) (of_decide_eq_true (by kernel_rfl)) h0 bel lt0) trodAll_mk0), rfl, bel.frame _, fun h => by cases h⟩

theorem over : Rows.MerkleRootsSaid :=
  OpenClaim.holds_of_wide 6 Tryd.f6 rfl rfl rfl rfl rfl rfl rfl ⟨rfl, rfl, rfl, rfl, rfl⟩ rfl rfl rfl rfl rfl (by kernel_rfl) Tryd.func6 (by kernel_rfl)
    (of_decide_eq_true (by kernel_rfl)) (by unfold Func.isWrapper; first | (rw [if_pos (by decide +kernel)]; kernel_rfl) | (rw [if_neg (by decide +kernel)]; exact ⟨rfl, rfl⟩))
    (fun os started H enc _ => lifted os started H enc)

theorem proved : Rows.MerkleRootsCardSaid :=
  Claim7.holds_tied_plain_at .later [] [.data, .data] true Rows.merkleRootsCard.stood.harness false
    over (fun _ h => by cases h) (by kernel_rfl) (fun _ h => by cases h) merkleRoots_row_tie rfl ⟨rfl, rfl⟩ (by kernel_rfl) rfl
    (fun f fn hf hfn => by
      obtain rfl : f = 6 := Option.some.inj ((show Tryd.prog.funcNamed "tallystick/tallysticklaw04.MerkleRoots" = some 6 by kernel_rfl).symm.trans hf) |>.symm
      obtain rfl : fn = Tryd.f6 := (Option.some.inj (Tryd.func6.symm.trans hfn)).symm
      exact ⟨by kernel_rfl, fun j t ht => by
        rw [Tryd.params6] at ht
        have hm : t ∈ [32] := by simpa using Array.mem_of_getElem? ht
        have hall : ([32].all fun u => !Tryd.prog.wantsStandIn u) = true := by kernel_rfl
        exact (show Tryd.prog.wantsStandIn t = false by simpa using List.all_eq_true.1 hall t hm)⟩)
    (by kernel_rfl)
#print axioms proved
end Go.Proofs.YtecmgojecjenmaaDoor.merkleRoots
