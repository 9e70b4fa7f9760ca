/-
  What is proved: for every two headers the law HeadApart returns true, and its arguments read behind the call as they read before; the two listed tables of package hash are taken to hold what the program's text lays in them, and the card ties them to it.
-/
import Derived.Test.YtkhiicnahijnoaaDoorHeaI
import Derived.Test.YtkhiicnahijnoaaDoorHdArg
import Derived.Test.YtkhiicnahijnoaaDoorStr
import Derived.Test.YtkhiicnahijnoaaDoorTie
import Derived.Test.YtkhiicnahijnoaaDoorCards
import Derived.Stop.Joined
namespace Go.Proofs.YtkhiicnahijnoaaDoor.headApart
open Go.ChangeShapes Go.WideShapes Go.ChangeAt Go.RowKit
set_option linter.unusedVariables false

theorem own : ownKnob Tryd.prog.godebug = none := by kernel_rfl
theorem laidOut : laidOutB Tryd.prog = true := by kernel_rfl
theorem wf_i64 {z : Int} (h : (Lit.int .i64 z).wf = true) : -9223372036854775808 ≤ z ∧ z ≤ 9223372036854775807 := by
  simp [Lit.wf, IntKind.min, IntKind.max, IntKind.signed, IntKind.bits] at h
  omega

theorem strN_eqb (x y : List Nat) (hx : ∀ a ∈ x, a < 256) (hy : ∀ a ∈ y, a < 256) : ((strN x).toList == (strN y).toList) = decide (x = y) := by
  rw [strN_toList, strN_toList]
  by_cases e : x = y
  · subst e; simp
  · rw [decide_eq_false e, Bool.eq_false_iff]
    intro h
    apply e
    have h2 : x.map UInt8.ofNat = y.map UInt8.ofNat := by simpa using h
    have h3 := congrArg (List.map UInt8.toNat) h2
    rw [List.map_map, List.map_map] at h3
    have id1 : ∀ l : List Nat, (∀ a ∈ l, a < 256) → l.map (UInt8.toNat ∘ UInt8.ofNat) = l := fun l hl => by
      refine (List.map_congr_left (g := id) fun a ha => ?_).trans (List.map_id l)
      have := hl a ha
      show (UInt8.ofNat a).toNat = a
      rw [UInt8.toNat_ofNat']
      omega
    rwa [id1 x hx, id1 y hy] at h3
theorem str_hd {a b : Hd} (ka : IsHd a) (kb : IsHd b) : ((strN (hB a)).toList == (strN (hB b)).toList) = hdEq a b := by
  rw [strN_eqb _ _ (hB_lt ka) (hB_lt kb)]
  by_cases e : a = b
  · rw [(hdEq_iff a b).2 e, e]; simp
  · have h1 : hdEq a b = false := by
      rcases h : hdEq a b with _ | _
      · rfl
      · exact absurd ((hdEq_iff a b).1 h) e
    rw [h1, decide_eq_false (fun h => e (hB_inj ka kb h))]
set_option maxRecDepth 100000 in
set_option maxHeartbeats 8000000 in
theorem walk (a b : Hd) (w : World) (hL : Laid w) (ka : IsHd a) (kb : IsHd b) :
    Calls Tryd.prog 3 #[hdv a, hdv b] w fun e w' => e = .returned (.bool true) ∧ Below w.heap.size w w' := by
  have HBA := Lib.hid (fun W => hbytes_any a W ka)
  have HBB := Lib.hid (fun W => hbytes_any b W kb)
  have HXA := Lib.hid (hB_lt ka)
  have HXB := Lib.hid (hB_lt kb)
  have hse := str_hd ka kb
  have heq : ∀ W, (Op.equalIn 10000 26 (.agg (hdA a)) (.agg (hdA b))).run Tryd.prog W = .ok (hdEq a b) W := fun W => hd_eql ka kb W
  have sa := hdA_size ka
  have sb := hdA_size kb
  have la := hB_length ka
  have lb := hB_length kb
  have HL := Lib.hid hL
  change Hid (∀ W, Calls Tryd.prog _ #[.agg (hdA a)] W _) at HBA
  change Hid (∀ W, Calls Tryd.prog _ #[.agg (hdA b)] W _) at HBB
  show Calls Tryd.prog _ #[.agg (hdA a), .agg (hdA b)] w _
  generalize hdEq a b = d at *
  generalize hdA a = A at *
  generalize hdA b = B at *
  generalize hB a = X at *
  generalize hB b = Y at *
  clear hL ka kb
  go_enter Tryd.func3, Tryd.ntmps3
  have hA : Below w.heap.size w ((w.alloc (.cells A 26)).alloc (.cells B 26)) := ((Below.refl _ _).alloc (Nat.le_refl _) _).alloc (by simp) _
  go_wp2_with fail
  refine (reads_any _ (HL.out.keep hA)).mono ?_
  rintro e w1 ⟨rfl, hb1⟩
  have KA : Bk w1 w.heap.size 26 A := Bk.keep ((Bk.new _ _ _).alloc _) hb1
  have KB : Bk w1 (w.heap.size + 1) 26 B := Bk.keep (Bk.new' _ _ _ (by simp)) hb1
  have hW := Lib.hid (below_step hA (by simp; omega) hb1)
  clear hb1 hA
  go_upto_region 3 with fail
  obtain ⟨tl, htl⟩ : ∃ tl : TypeId, tl = 26 := ⟨_, rfl⟩
  obtain ⟨sz, hsz0⟩ : ∃ sz : Nat, sz = 68 := ⟨_, rfl⟩
  have hag : ∀ w, (isAgg tl).run Tryd.prog w = .ok true w := by rw [htl]; exact hd_agg
  have hsz : ∀ w, (sizeOf tl).run Tryd.prog w = .ok sz w := by rw [htl, hsz0]; exact hd_size
  have hlA : ∀ w', Bk w' w.heap.size 26 A → (loadCellsFrom ⟨w.heap.size, 0, none⟩ 0 sz #[]).run Tryd.prog w' = .ok A w' := by rw [hsz0]; exact fun w' h => hd_load h sa
  have hlB : ∀ w', Bk w' (w.heap.size + 1) 26 B → (loadCellsFrom ⟨w.heap.size + 1, 0, none⟩ 0 sz #[]).run Tryd.prog w' = .ok B w' := by rw [hsz0]; exact fun w' h => hd_load h sb
  simp only [show ∀ z, Op.load 26 z = Op.load tl z from fun z => by rw [htl]]
  clear htl hsz0
  generalize w.heap.size + 1 = gb at *
  have hgs : w.heap.size ≤ w1.heap.size := hW.out.size
  generalize hga : w.heap.size = ga at *
  go_cut [4] (fun s0 wx => s0 = .bool true ∧ Below w1.heap.size w1 wx)
  case first =>
    go_region_held (fun w' => w1.heap.size ≤ w'.heap.size ∧ Bk w' ga 26 A ∧ Bk w' gb 26 B)
      ((refine ⟨?_, ?_, ?_⟩; (focus (first | omega | (simp; done) | (simp; omega) | (simp [World.drew]; done) | (simp [World.drew]; omega))); (focus (repeat' (first | with_reducible assumption | with_reducible exact Bk.new _ _ _ | with_reducible refine Bk.new' _ _ _ ?_ | with_reducible refine Bk.alloc ?_ _ | with_reducible refine Bk.drew ?_ | (with_reducible refine Bk.keep ?_ (by with_reducible assumption)) | (simp; done) | (simp; omega) | (simp [World.drew]; done) | (simp [World.drew]; omega)))); (focus (repeat' (first | with_reducible assumption | with_reducible exact Bk.new _ _ _ | with_reducible refine Bk.new' _ _ _ ?_ | with_reducible refine Bk.alloc ?_ _ | with_reducible refine Bk.drew ?_ | (with_reducible refine Bk.keep ?_ (by with_reducible assumption)) | (simp; done) | (simp; omega) | (simp [World.drew]; done) | (simp [World.drew]; omega))))))
      (first
      | (go_at_call 15
         with_reducible refine (HBA.out _).mono ?_
         rintro e w6 ⟨v6, rfl, M6, hb6⟩
         have hE6 : From w1 w6 := by
           refine below_step ?_ ?_ hb6
           · repeat' (first | with_reducible exact Below.refl _ _ | with_reducible assumption | with_reducible exact From.out (by with_reducible assumption) | with_reducible refine Below.drew ?_ | with_reducible refine Below.setCell ?_ ?_ _ | with_reducible refine Below.alloc ?_ ?_ _ | with_reducible exact Nat.le_refl _ | omega | (simp; done) | (simp; omega) | (simp [World.drew]; done) | (simp [World.drew]; omega))
           · first | omega | (simp; done) | (simp; omega) | (simp [World.drew]; done) | (simp [World.drew]; omega)
         have z6 := hE6.out.size
         have A6 := KA.keep hE6.out
         have B6 := KB.keep hE6.out
         have b6 := Lib.hid (M6.bs HXA.out)
         have q6 := conv_bs b6.out
         obtain ⟨s6, c6, e6⟩ := M6.slice
         subst e6
         rw [la] at q6)
      | (go_at_call 15
         with_reducible refine (HBB.out _).mono ?_
         rintro e w7 ⟨v7, rfl, M7, hb7⟩
         have hE7 : From w1 w7 := by
           refine below_step ?_ ?_ hb7
           · repeat' (first | with_reducible exact Below.refl _ _ | with_reducible assumption | with_reducible exact From.out (by with_reducible assumption) | with_reducible refine Below.drew ?_ | with_reducible refine Below.setCell ?_ ?_ _ | with_reducible refine Below.alloc ?_ ?_ _ | with_reducible exact Nat.le_refl _ | omega | (simp; done) | (simp; omega) | (simp [World.drew]; done) | (simp [World.drew]; omega))
           · first | omega | (simp; done) | (simp; omega) | (simp [World.drew]; done) | (simp [World.drew]; omega)
         have z7 := hE7.out.size
         have A7 := KA.keep hE7.out
         have B7 := KB.keep hE7.out
         have b7 := Lib.hid (M7.bs HXB.out)
         have q7 := conv_bs b7.out
         have q67 := conv_bs (b6.out.keep hb7 (Nat.le_refl _))
         obtain ⟨s7, c7, e7⟩ := M7.slice
         subst e7
         rw [lb] at q7
         rw [la] at q67))
    all_goals
      go_wp2_with fail
      go_meet
      exact ⟨rfl, hE7.out⟩
  case rest =>
    obtain ⟨rfl, hb⟩ := hcut
    have hW2 := below_step hW.out hgs hb
    go_wp2_with fail
    go_ret
    exact ⟨rfl, by rw [hga]; exact hW2⟩

/-- The door's own heap meets the condition. -/
theorem door_met (os : Os) (args : Array Value) : laidMetH Tryd.prog laidL ((World.doorLaid Tryd.prog 19 os).forCall (fun _ _ => 0) ⟨#[], args, []⟩).memory :=
  laidMetH_of_parts3 (fuel := 8) (laidMet_of_run' 8 (by kernel_rfl) (by kernel_rfl)) (by kernel_rfl) (by kernel_rfl)

set_option maxRecDepth 100000 in
theorem lifted (os : Os) (started : os.Started) (H : Type) (enc : TypeId × Value → H) :
    ReturnsInHanded {} Tryd.checked os 3 .any (fun w args => (Rows.headApartSpec.pre enc Tryd.prog Tryd.f3 [] false w args ∧ laidMetH Tryd.prog laidL w) ∧ sizedMet enc Tryd.prog Tryd.f3 (OpenSpec.ofChange Rows.headApartSpec) false w args)
      (Rows.headApartSpec.post enc Tryd.prog Tryd.f3 false true false false) := by
  refine returnsInHanded_of_change_and (C := Tryd.checked) (X := fun w _ => laidMetH Tryd.prog laidL w) (fun _ _ _ hh h => h.of_heap hh) own started (by kernel_rfl) Tryd.func3
    (ChangeSpec.witness_shaped (enc := enc) (C := Tryd.checked) (os := os) (X := fun w _ => laidMetH Tryd.prog laidL w) false (World.doorLaid Tryd.prog 19 os) #[hdv hd0, hdv hd0] 8 rfl (World.shaped_of_RefB (by kernel_rfl) (by kernel_rfl)) (by kernel_rfl) (by kernel_rfl) (by kernel_rfl) (door_met os _)) ?_
  intro W base args ds gs before hval0 hW _ _ hL _
  have hval : ∀ (j : Nat) t v, Tryd.f3.params[j]? = some t → args[j]? = some v → Value.okWide Tryd.prog W .any base t v := hval0
  have hW' := hW
  obtain ⟨p, q, hA0, hV, rfl, hfz, hnd⟩ := hW
  have hA : DataW.TrodAll enc Tryd.prog W 0 (fun _ => true) true Tryd.f3.params.toList args.toList ds p := hA0
  rw [Tryd.params3] at hA hval
  obtain ⟨v0, vs0, d0, ds0, p0, q0, hargs, rfl, rfl, h0, r0⟩ := trodAll_cons hA
  obtain ⟨v1, vs1, d1, ds1, p1, q1, rfl, rfl, rfl, h1, r1⟩ := trodAll_cons r0
  obtain ⟨rfl, rfl, rfl⟩ := trodAll_nil r1
  obtain rfl : args = #[v0, v1] := by cases args; simp_all
  obtain ⟨rfl, rfl⟩ := trodVars_none hV
  have lt0 : ∀ x ∈ p0, x.block < W.heap.size := by obtain ⟨m, hm⟩ := h0; exact DataW.trod_lt m _ _ _ hm
  have lt1 : ∀ x ∈ p1, x.block < W.heap.size := by obtain ⟨m, hm⟩ := h1; exact DataW.trod_lt m _ _ _ hm
  obtain ⟨x0, hb0, rfl⟩ := hd_arg (hval 0 26 v0 rfl rfl) h0
  obtain ⟨x1, hb1, rfl⟩ := hd_arg (hval 1 26 v1 rfl rfl) h1
  have hwalk := walk x0 x1 W (of_laid hL) hb0 hb1
  clear hA0 hval0
  refine hwalk.mono fun e W' ⟨he, bel⟩ => ?_
  subst he
  exact ⟨_, rfl, _, _, _, [], _, [], hW', trodAll_mk1 (shut_bool Tryd.underlying4 _), (trodAll_cons_mk (Below.trod laidOut (by kernel_rfl) (of_decide_eq_true (by kernel_rfl)) h0 bel lt0) (trodAll_cons_mk (Below.trod laidOut (by kernel_rfl) (of_decide_eq_true (by kernel_rfl)) h1 bel lt1) trodAll_mk0)), rfl, bel.frame _, fun h => by cases h⟩

theorem over : Rows.HeadApartSaid :=
  OpenClaim.holds_of_wide 3 Tryd.f3 rfl rfl rfl rfl rfl rfl rfl ⟨rfl, rfl, rfl, rfl, rfl⟩ rfl rfl rfl rfl rfl (by kernel_rfl) Tryd.func3 (by kernel_rfl)
    (of_decide_eq_true (by kernel_rfl)) (by unfold Func.isWrapper; first | (rw [if_pos (by decide +kernel)]; kernel_rfl) | (rw [if_neg (by decide +kernel)]; exact ⟨rfl, rfl⟩))
    (fun os started H enc _ => lifted os started H enc)

theorem proved : Rows.HeadApartCardSaid :=
  Claim7.holds_tied_plain_at .later [] [.data, .data] true Rows.headApartCard.stood.harness false
    over (fun _ h => by cases h) (by kernel_rfl) (fun _ h => by cases h) headApart_row_tie rfl ⟨rfl, rfl⟩ (by kernel_rfl) rfl
    (fun f fn hf hfn => by
      obtain rfl : f = 3 := Option.some.inj ((show Tryd.prog.funcNamed "tallystick/tallysticklaw05.HeadApart" = some 3 by kernel_rfl).symm.trans hf) |>.symm
      obtain rfl : fn = Tryd.f3 := (Option.some.inj (Tryd.func3.symm.trans hfn)).symm
      exact ⟨by kernel_rfl, fun j t ht => by
        rw [Tryd.params3] at ht
        have hm : t ∈ [26, 26] := by simpa using Array.mem_of_getElem? ht
        have hall : ([26, 26].all fun u => !Tryd.prog.wantsStandIn u) = true := by kernel_rfl
        exact (show Tryd.prog.wantsStandIn t = false by simpa using List.all_eq_true.1 hall t hm)⟩)
    (by kernel_rfl)
#print axioms proved
end Go.Proofs.YtkhiicnahijnoaaDoor.headApart
