/-
  What is proved: for every header and every slice of bytes the law HeadBytes returns true, and its arguments read behind the call as they read before; the two listed tables of package hash are taken to hold what the program's text lays in them, and the card ties them to it.
-/
import Derived.Test.YtkhiicnahijnoaaDoorHeaI
import Derived.Test.YtkhiicnahijnoaaDoorHdArg
import Derived.Test.YtkhiicnahijnoaaDoorHe5C
import Derived.Test.YtkhiicnahijnoaaDoorHbyR
import Derived.Test.YtkhiicnahijnoaaDoorHbyS
import Derived.Test.YtkhiicnahijnoaaDoorTie
import Derived.Test.YtkhiicnahijnoaaDoorCards
import Derived.Stop.Joined
namespace Go.Proofs.YtkhiicnahijnoaaDoor.headBytes
open Go.ChangeShapes Go.WideShapes Go.ChangeAt Go.RowKit
set_option linter.unusedVariables false

theorem own : ownKnob Tryd.prog.godebug = none := by kernel_rfl
theorem laidOut : laidOutB Tryd.prog = true := by kernel_rfl
theorem wf_i64 {z : Int} (h : (Lit.int .i64 z).wf = true) : -9223372036854775808 ≤ z ∧ z ≤ 9223372036854775807 := by
  simp [Lit.wf, IntKind.min, IntKind.max, IntKind.signed, IntKind.bits] at h
  omega

set_option maxRecDepth 100000 in
set_option maxHeartbeats 8000000 in
theorem walk_out (h : Hd) (s : Option Addr) (n c : Nat) (w : World) (hL : Laid w) (hn : 500 < n) :
    Calls Tryd.prog 6 #[hdv h, .slice s n c] w fun e w' => e = .returned (.bool true) ∧ Below w.heap.size w w' := by
  have HL := Lib.hid hL
  have hd1 : decide ((500 : Int) < (n : Int)) = true := decide_eq_true (by omega)
  have hd2 : decide (500 < n) = true := decide_eq_true hn
  show Calls Tryd.prog _ #[.agg (hdA h), _] w _
  generalize hdA h = A at *
  clear hL
  go_enter Tryd.func6, Tryd.ntmps6
  have hA : Below w.heap.size w (w.alloc (.cells A 26)) := (Below.refl _ _).alloc (Nat.le_refl _) _
  go_wp2_with fail
  refine (reads_any _ (HL.out.keep hA)).mono ?_
  rintro e w1 ⟨rfl, hb1⟩
  have KA : Bk w1 w.heap.size 26 A := Bk.keep (Bk.new _ _ _) hb1
  have hW := Lib.hid (below_step hA (by simp) hb1)
  clear hb1 hA
  go_wp2_with fail
  go_ret
  exact ⟨rfl, hW.out⟩
set_option maxRecDepth 100000 in
set_option maxHeartbeats 8000000 in
theorem walk_inn (h : Hd) (v : Value) (ys : List Nat) (w : World) (hL : Laid w) (k : IsHd h) (hv : BsV w w.heap.size v ys) (hn : ¬ 500 < ys.length) :
    Calls Tryd.prog 6 #[hdv h, v] w fun e w' => e = .returned (.bool true) ∧ Below w.heap.size w w' := by
  have HB := Lib.hid hv
  have hys : ∀ y ∈ ys, y < 256 := by obtain ⟨_, _, _, _, _, h, _⟩ := hv; exact h
  have HYS := Lib.hid hys
  obtain ⟨s, c, hsv⟩ : ∃ s c, v = .slice s ys.length c := by obtain ⟨s, c, h, _⟩ := hv; exact ⟨s, c, h⟩
  subst hsv
  have HBY := Lib.hid (fun W => hbytes_any h W k)
  have HRX := Lib.hid (show ∀ v W, BsV W W.heap.size v (hB h) → _ from fun v W hb => read_good v (hB h) W hb (hB_length k))
  rw [hOf_hB k] at HRX
  have HR5 := Lib.hid (fun W => bytes5_any h W k)
  have HTW := Lib.hid (fun W => rtwice_any (hB h) W (hB_lt k) (by rw [hB_length k]; omega))
  have HID := Lib.hid (fun W (hw : Laid W) => hid_any h W k hw)
  have HXL := Lib.hid (hB_lt k)
  have hxl := hB_length k
  have sa := hdA_size k
  have onea := hdA_one h
  have hil := hID_length h
  change Hid (∀ W, Calls Tryd.prog _ #[.agg (hdA h)] W _) at HBY
  change Hid (∀ v W, BsV W W.heap.size v (hB h) → Calls Tryd.prog _ #[v] W fun e w' => e = .returned (.tuple #[.agg (hdA h), .int .i64 0]) ∧ _) at HRX
  change Hid (∀ W, Calls Tryd.prog _ #[.agg (hdA h)] W _) at HR5
  change Hid (∀ W, Calls Tryd.prog _ _ W fun e w' => e = .returned (.agg (idA (hID h))) ∧ _) at HTW
  obtain ⟨S, hS0⟩ : ∃ S, S = strN (hB h) := ⟨_, rfl⟩
  have hS := hS0.symm
  rw [← hS0] at HR5 HTW
  clear hS0
  change Hid (∀ W, Laid W → Calls Tryd.prog _ #[.agg (hdA h)] W fun e w' => e = .returned (.agg (idA (hID h))) ∧ _) at HID
  have heqA : ∀ W, (Op.equalIn 10000 26 (.agg (hdA h)) (.agg (hdA h))).run Tryd.prog W = .ok true W := fun W => by
    have h := hd_eql k k W
    rwa [(hdEq_iff _ _).2 rfl] at h
  have heqI : ∀ W, (Op.equalIn 10000 24 (.agg (idA (hID h))) (.agg (idA (hID h)))).run Tryd.prog W = .ok true W := fun W => by
    have h := name_eql (hID h) (hID h) hil hil W
    rwa [decide_eq_true rfl] at h
  have heq0 : ∀ W, (Op.equalIn 10000 26 (.agg (hdA hd0)) (.agg (hdA hd0))).run Tryd.prog W = .ok true W := fun W => by
    have h := hd_eql hd0_is hd0_is W
    rwa [(hdEq_iff _ _).2 rfl] at h
  have hzv := zero_hd
  have hne := hd_ne
  have s0 := hdA_size hd0_is
  have one0 := hdA_one hd0
  have HL := Lib.hid hL
  obtain ⟨n, hnn⟩ : ∃ n, n = ys.length := ⟨_, rfl⟩
  have HN := Lib.hid hnn
  rw [← hnn] at hn HB ⊢
  have hd1 : decide ((500 : Int) < (n : Int)) = false := decide_eq_false (by omega)
  have hd2 : decide (500 < n) = false := decide_eq_false hn
  have HGOOD := Lib.hid (fun W (hb : BsV W W.heap.size (.slice s n c) ys) (h80 : n = 80) => read_good _ ys W hb (by rw [← hnn]; exact h80))
  have HBACK := Lib.hid (fun (h80 : n = 80) W => hbytes_any (hOf ys) W (hOf_is (by rw [← hnn]; exact h80) hys))
  have HBX := Lib.hid (fun (h80 : n = 80) => hB_hOf (l := ys) (by rw [← hnn]; exact h80) hys)
  have HS80 := Lib.hid (fun (h80 : n = 80) => hdA_size (hOf_is (l := ys) (by rw [← hnn]; exact h80) hys))
  have HON := Lib.hid (hdA_one (hOf ys))
  have HBAD := Lib.hid (fun W (hb : n ≠ 80) => read_bad s n c W hb)
  change Hid (∀ W, _ → _ → Calls Tryd.prog _ _ W fun e w' => e = .returned (.tuple #[.agg (hdA (hOf ys)), .int .i64 0]) ∧ _) at HGOOD
  change Hid (n = 80 → ∀ W, Calls Tryd.prog _ #[.agg (hdA (hOf ys))] W _) at HBACK
  change Hid (∀ W, _ → Calls Tryd.prog _ _ W fun e w' => e = .returned (.tuple #[.agg (hdA hd0), .int .i64 6]) ∧ _) at HBAD
  show Calls Tryd.prog _ #[.agg (hdA h), _] w _
  generalize hdA h = A at *
  generalize hdA hd0 = A0 at *
  generalize hdA (hOf ys) = AY at *
  generalize idA (hID h) = I at *
  generalize hB h = X at *
  clear hL k hv hys hnn hil
  obtain ⟨tl, htl⟩ : ∃ tl : TypeId, tl = 26 := ⟨_, rfl⟩
  obtain ⟨sz, hsz0⟩ : ∃ sz : Nat, sz = 68 := ⟨_, rfl⟩
  have hag : ∀ w, (isAgg tl).run Tryd.prog w = .ok true w := by rw [htl]; exact hd_agg
  have hsz : ∀ w, (sizeOf tl).run Tryd.prog w = .ok sz w := by rw [htl, hsz0]; exact hd_size
  have HLD := Lib.hid (show ∀ (B : Array Value) (w : World) (g : Nat), B.size = 68 → Bk w g 26 B → (loadCellsFrom ⟨g, 0, none⟩ 0 sz #[]).run Tryd.prog w = .ok B w by rw [hsz0]; exact fun B w g hs h => hd_load h hs)
  have HTL := Lib.hid (show ∀ z, Op.load 26 z = Op.load tl z from fun z => by rw [htl])
  clear htl hsz0
  go_enter Tryd.func6, Tryd.ntmps6
  have hA : Below w.heap.size w (w.alloc (.cells A 26)) := (Below.refl _ _).alloc (Nat.le_refl _) _
  go_wp2_with fail
  refine (reads_any _ (HL.out.keep hA)).mono ?_
  rintro e w1 ⟨rfl, hb1⟩
  have KA : Bk w1 w.heap.size 26 A := Bk.keep (Bk.new _ _ _) hb1
  have hW := Lib.hid (below_step hA (by simp) hb1)
  clear hb1 hA
  have l0 := HLD.out _ _ _ sa KA
  have htl := HTL.out
  go_upto_region 5 with fail
  simp only [htl]
  clear htl
  go_wp2_with fail
  refine (HBY.out _).mono ?_
  rintro e w2 ⟨v2, rfl, M2, hb2⟩
  have hW := Lib.hid (below_step hW.out hW.out.size hb2)
  have KA := KA.keep hb2
  have BX2 := Lib.hid (M2.bs HXL.out)
  obtain ⟨s2, c2, e2⟩ := M2.slice
  subst e2
  rw [hxl] at BX2 ⊢
  have HR2 := Lib.hid (HRX.out _ _ BX2.out)
  clear hb2 l0 M2 HBY HRX
  go_wp2_with fail
  refine HR2.out.mono ?_
  rintro e w3 ⟨rfl, hb3⟩
  have hW := Lib.hid (below_step hW.out hW.out.size hb3)
  have KA := KA.keep hb3
  have BX3 := Lib.hid ((BX2.out.keep hb3 (Nat.le_refl _)).mono hb3.size)
  clear hb3 HR2 BX2
  have zk := KA.lt
  have N3 := Bk.new w3 26 A0
  go_upto_region 7 with (refine wpList_store_mid rfl 26 (.tmp 6) (.tmp 20) rfl w3.heap.size 0 A rfl rfl (by rw [sa]; exact N3.there 68 (by rw [s0]; exact Nat.le_refl _)) (by rw [sa]; exact hd_info) onea ?_)
  refine wp_any (fun V => Below w.heap.size w V ∧ Bk V w.heap.size 26 A ∧ Bk V w3.heap.size 26 A ∧ BsV V w3.heap.size (.slice s2 80 c2) X) ⟨Below.setCells hW.out.size _ _ _ (hW.out.alloc hW.out.size _), rowFar (KA.alloc _) (by omega) _ _, N3.setAll (by rw [sa, s0]), BX3.out.keep (Below.setCells (Nat.le_refl _) _ _ _ ((Below.refl _ _).alloc (Nat.le_refl _) _)) (Nat.le_refl _)⟩ ?_
  clear hW KA BX3 N3
  generalize w3.heap.size = g6 at *
  rintro V ⟨hW, KA, K6, BX3⟩
  have hgv : w.heap.size ≤ V.heap.size := hW.size
  have h6v := K6.lt
  have hW := Lib.hid hW
  have HLV := Lib.hid (HL.out.below hW.out HL.out.size)
  go_upto_region 7 with fail
  refine region7 w.heap.size g6 c2 s2 V A I X S HLV KA K6 BX3 sa hS HR5 HTW HID heqA heqI _ _ _ _ _ _ _ _ _ _ _ _ _ _ _ _ _ _ _ _ _ _ _ _ _ _ _ _ _ _ _ _ _ _ _ _ _ _ _ _ _ _ _ _ _ _ _ _ _ _ _ _ _ _ _ _ _ _ _ _ _ _ _ _ _ _ (fun x22 x23 x24 x25 x26 x27 x28 x29 x30 x31 x32 x33 x34 x35 x36 x37 x38 x39 x40 x41 x42 wc hb => ?_)
  have hW := Lib.hid (below_step hW.out hgv hb)
  clear hb KA K6 BX3 HR5 HTW HID HLV
  have HBC := Lib.hid ((HB.out.keep hW.out (Nat.le_refl _)).mono hW.out.size)
  by_cases h80 : n = 80
  · have HRD := Lib.hid (fun W hb => HGOOD.out W hb h80)
    have sy := HS80.out h80
    have hby := HBX.out h80
    have HBK := Lib.hid (HBACK.out h80)
    rw [hby] at HBK
    have oney := HON.out
    have hd3 : ((n : Int) != 80) = false := by rw [h80]; rfl
    clear hby HGOOD HBACK HBX HS80 HON HBAD h80
    go_wp2_with fail
    refine (HRD.out _ HBC.out).mono ?_
    rintro e w9 ⟨rfl, hb9⟩
    have hW := Lib.hid (below_step hW.out hW.out.size hb9)
    have HBC := Lib.hid ((HBC.out.keep hb9 (Nat.le_refl _)).mono hb9.size)
    clear hb9 HRD
    have N9 := Bk.new w9 26 A0
    go_upto_region 10 with (refine wpList_store_mid rfl 26 (.tmp 8) (.tmp 47) rfl w9.heap.size 0 AY rfl rfl (by rw [sy]; exact N9.there 68 (by rw [s0]; exact Nat.le_refl _)) (by rw [sy]; exact hd_info) oney ?_)
    refine wp_any (fun V => Below w.heap.size w V ∧ Bk V w9.heap.size 26 AY ∧ BsV V V.heap.size (.slice s n c) ys) ⟨Below.setCells hW.out.size _ _ _ (hW.out.alloc hW.out.size _), N9.setAll (by rw [sy, s0]), (HBC.out.keep (Below.setCells (Nat.le_refl _) _ _ _ ((Below.refl _ _).alloc (Nat.le_refl _) (.cells A0 26))) (Nat.le_refl _)).mono (Below.setCells (Nat.le_refl _) _ _ _ ((Below.refl _ _).alloc (Nat.le_refl _) (.cells A0 26))).size⟩ ?_
    clear hW HBC N9
    generalize w9.heap.size = g8 at *
    rintro V2 ⟨hW, K8, BC⟩
    have hW := Lib.hid hW
    go_upto_region 12 with fail
    refine region12 g8 n c s V2 AY ys K8 BC sy HYS HBK _ _ _ _ _ _ _ _ _ _ _ _ _ _ _ _ _ _ _ _ _ _ _ _ _ _ _ _ _ _ _ _ _ _ _ _ _ _ _ _ _ _ _ _ _ _ _ _ _ _ _ _ _ _ _ _ _ _ _ _ _ _ _ _ _ _ _ (fun x59 x60 x61 x62 x63 x64 x65 x66 x67 wd hb => ?_)
    have hW := Lib.hid (below_step hW.out hW.out.size hb)
    go_wp2_with fail
    go_ret
    exact ⟨rfl, hW.out⟩
  · have hd3 : ((n : Int) != 80) = true := by simp; omega
    have HRD := Lib.hid (fun W => HBAD.out W h80)
    clear HGOOD HBACK HBX HS80 HON HBAD
    go_wp2_with fail
    refine (HRD.out _).mono ?_
    rintro e w9 ⟨rfl, hb9⟩
    have hW := Lib.hid (below_step hW.out hW.out.size hb9)
    clear hb9 HRD HBC
    have N9 := Bk.new w9 26 A0
    go_upto_region 10 with (refine wpList_store_mid rfl 26 (.tmp 8) (.tmp 47) rfl w9.heap.size 0 A0 rfl rfl (by rw [s0]; exact N9.there 68 (by rw [s0]; exact Nat.le_refl _)) (by rw [s0]; exact hd_info) one0 ?_)
    refine wp_any (fun V => Below w.heap.size w V ∧ Bk V w9.heap.size 26 A0) ⟨Below.setCells hW.out.size _ _ _ (hW.out.alloc hW.out.size _), N9.setAll rfl⟩ ?_
    clear hW N9
    generalize w9.heap.size = g8 at *
    rintro V2 ⟨hW, K8⟩
    have hW := Lib.hid hW
    have l8 := HLD.out _ _ _ s0 K8
    have htl := HTL.out
    go_upto_region 11 with fail
    simp only [htl]
    clear htl
    go_wp2_with fail
    go_ret
    exact ⟨rfl, hW.out⟩
theorem bytes_walk (h : Hd) (v : Value) (ys : List Nat) (w : World) (hL : Laid w) (k : IsHd h) (hv : BsV w w.heap.size v ys) :
    Calls Tryd.prog 6 #[hdv h, v] w fun e w' => e = .returned (.bool true) ∧ Below w.heap.size w w' := by
  by_cases h5 : 500 < ys.length
  · obtain ⟨s, c, rfl, _⟩ := hv
    exact walk_out h s _ c w hL h5
  · exact walk_inn h v ys w hL k hv h5

/-- The door's own heap meets the condition. -/
theorem door_met (os : Os) (args : Array Value) : laidMetH Tryd.prog laidL ((World.doorLaid Tryd.prog 19 os).forCall (fun _ _ => 0) ⟨#[], args, []⟩).memory :=
  laidMetH_of_parts3 (fuel := 8) (laidMet_of_run' 8 (by kernel_rfl) (by kernel_rfl)) (by kernel_rfl) (by kernel_rfl)

set_option maxRecDepth 100000 in
theorem lifted (os : Os) (started : os.Started) (H : Type) (enc : TypeId × Value → H) :
    ReturnsInHanded {} Tryd.checked os 6 .any (fun w args => (Rows.headBytesSpec.pre enc Tryd.prog Tryd.f6 [] false w args ∧ laidMetH Tryd.prog laidL w) ∧ sizedMet enc Tryd.prog Tryd.f6 (OpenSpec.ofChange Rows.headBytesSpec) false w args)
      (Rows.headBytesSpec.post enc Tryd.prog Tryd.f6 false true false false) := by
  refine returnsInHanded_of_change_and (C := Tryd.checked) (X := fun w _ => laidMetH Tryd.prog laidL w) (fun _ _ _ hh h => h.of_heap hh) own started (by kernel_rfl) Tryd.func6
    (ChangeSpec.witness_shaped (enc := enc) (C := Tryd.checked) (os := os) (X := fun w _ => laidMetH Tryd.prog laidL w) false (World.doorLaid Tryd.prog 19 os) #[hdv hd0, .slice none 0 0] 8 rfl (World.shaped_of_RefB (by kernel_rfl) (by kernel_rfl)) (by kernel_rfl) (by kernel_rfl) (by kernel_rfl) (door_met os _)) ?_
  intro W base args ds gs before hval0 hW _ _ hL _
  have hval : ∀ (j : Nat) t v, Tryd.f6.params[j]? = some t → args[j]? = some v → Value.okWide Tryd.prog W .any base t v := hval0
  have hW' := hW
  obtain ⟨p, q, hA0, hV, rfl, hfz, hnd⟩ := hW
  have hA : DataW.TrodAll enc Tryd.prog W 0 (fun _ => true) true Tryd.f6.params.toList args.toList ds p := hA0
  rw [Tryd.params6] at hA hval
  obtain ⟨v0, vs0, d0, ds0, p0, q0, hargs, rfl, rfl, h0, r0⟩ := trodAll_cons hA
  obtain ⟨v1, vs1, d1, ds1, p1, q1, rfl, rfl, rfl, h1, r1⟩ := trodAll_cons r0
  obtain ⟨rfl, rfl, rfl⟩ := trodAll_nil r1
  obtain rfl : args = #[v0, v1] := by cases args; simp_all
  obtain ⟨rfl, rfl⟩ := trodVars_none hV
  have lt0 : ∀ x ∈ p0, x.block < W.heap.size := by obtain ⟨m, hm⟩ := h0; exact DataW.trod_lt m _ _ _ hm
  have lt1 : ∀ x ∈ p1, x.block < W.heap.size := by obtain ⟨m, hm⟩ := h1; exact DataW.trod_lt m _ _ _ hm
  obtain ⟨x0, hb0, rfl⟩ := hd_arg (hval 0 26 v0 rfl rfl) h0
  obtain ⟨x1, hb1⟩ := bytes_arg (hval 1 28 v1 rfl rfl) h1
  have hwalk := bytes_walk x0 v1 x1 W (of_laid hL) hb0 hb1
  clear hA0 hval0
  refine hwalk.mono fun e W' ⟨he, bel⟩ => ?_
  subst he
  exact ⟨_, rfl, _, _, _, [], _, [], hW', trodAll_mk1 (shut_bool Tryd.underlying4 _), (trodAll_cons_mk (Below.trod laidOut (by kernel_rfl) (of_decide_eq_true (by kernel_rfl)) h0 bel lt0) (trodAll_cons_mk (Below.trod laidOut (by kernel_rfl) (of_decide_eq_true (by kernel_rfl)) h1 bel lt1) trodAll_mk0)), rfl, bel.frame _, fun h => by cases h⟩

theorem over : Rows.HeadBytesSaid :=
  OpenClaim.holds_of_wide 6 Tryd.f6 rfl rfl rfl rfl rfl rfl rfl ⟨rfl, rfl, rfl, rfl, rfl⟩ rfl rfl rfl rfl rfl (by kernel_rfl) Tryd.func6 (by kernel_rfl)
    (of_decide_eq_true (by kernel_rfl)) (by unfold Func.isWrapper; first | (rw [if_pos (by decide +kernel)]; kernel_rfl) | (rw [if_neg (by decide +kernel)]; exact ⟨rfl, rfl⟩))
    (fun os started H enc _ => lifted os started H enc)

theorem proved : Rows.HeadBytesCardSaid :=
  Claim7.holds_tied_plain_at .later [] [.data, .data] true Rows.headBytesCard.stood.harness false
    over (fun _ h => by cases h) (by kernel_rfl) (fun _ h => by cases h) headBytes_row_tie rfl ⟨rfl, rfl⟩ (by kernel_rfl) rfl
    (fun f fn hf hfn => by
      obtain rfl : f = 6 := Option.some.inj ((show Tryd.prog.funcNamed "tallystick/tallysticklaw05.HeadBytes" = some 6 by kernel_rfl).symm.trans hf) |>.symm
      obtain rfl : fn = Tryd.f6 := (Option.some.inj (Tryd.func6.symm.trans hfn)).symm
      exact ⟨by kernel_rfl, fun j t ht => by
        rw [Tryd.params6] at ht
        have hm : t ∈ [26, 28] := by simpa using Array.mem_of_getElem? ht
        have hall : ([26, 28].all fun u => !Tryd.prog.wantsStandIn u) = true := by kernel_rfl
        exact (show Tryd.prog.wantsStandIn t = false by simpa using List.all_eq_true.1 hall t hm)⟩)
    (by kernel_rfl)
#print axioms proved
end Go.Proofs.YtkhiicnahijnoaaDoor.headBytes
