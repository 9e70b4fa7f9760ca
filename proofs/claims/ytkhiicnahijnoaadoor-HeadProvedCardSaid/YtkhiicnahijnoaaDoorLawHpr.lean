/-
  What is proved: for every header and every limit the law HeadProved returns true, and its arguments read behind the call as they read before; the two listed tables of package hash are taken to hold what the program's text lays in them, and the card ties them to it.
-/
import Derived.Test.YtkhiicnahijnoaaDoorHeaI
import Derived.Test.YtkhiicnahijnoaaDoorHdArg
import Derived.Test.YtkhiicnahijnoaaDoorHe5C
import Derived.Test.YtkhiicnahijnoaaDoorTie
import Derived.Test.YtkhiicnahijnoaaDoorCards
import Derived.Stop.Joined
namespace Go.Proofs.YtkhiicnahijnoaaDoor.headProved
open Go.ChangeShapes Go.WideShapes Go.ChangeAt Go.RowKit
set_option linter.unusedVariables false

theorem own : ownKnob Tryd.prog.godebug = none := by kernel_rfl
theorem laidOut : laidOutB Tryd.prog = true := by kernel_rfl
theorem wf_i64 {z : Int} (h : (Lit.int .i64 z).wf = true) : -9223372036854775808 ≤ z ∧ z ≤ 9223372036854775807 := by
  simp [Lit.wf, IntKind.min, IntKind.max, IntKind.signed, IntKind.bits] at h
  omega

theorem wf_u32 {z : Int} (h : (Lit.int .u32 z).wf = true) : 0 ≤ z ∧ z < 4294967296 := wf_u32' h
set_option maxRecDepth 100000 in
set_option maxHeartbeats 8000000 in
theorem walk (h : Hd) (l : Nat) (w : World) (hL : Laid w) (k : IsHd h) (hl : l < 4294967296) :
    Calls Tryd.prog 7 #[hdv h, .int .u32 (l : Int)] w fun e w' => e = .returned (.bool true) ∧ Below w.heap.size w w' := by
  have HP := Lib.hid (fun W (hw : Laid W) => proved_any h l W k hl hw)
  have HR := Lib.hid (fun W => proved5_any h l W k hl)
  have sa := hdA_size k
  have HL := Lib.hid hL
  change Hid (∀ W, Laid W → Calls Tryd.prog _ #[.agg (hdA h), _] W _) at HP
  change Hid (∀ W, Calls Tryd.prog _ #[.agg (hdA h), _] W _) at HR
  show Calls Tryd.prog _ #[.agg (hdA h), _] w _
  generalize provV h l = p at *
  generalize hdA h = A at *
  clear hL k
  go_enter Tryd.func7, Tryd.ntmps7
  have hA : Below w.heap.size w (w.alloc (.cells A 26)) := (Below.refl _ _).alloc (Nat.le_refl _) _
  go_wp2_with fail
  refine (reads_any _ (HL.out.keep hA)).mono ?_
  rintro e w1 ⟨rfl, hb1⟩
  have KA : Bk w1 w.heap.size 26 A := Bk.keep (Bk.new _ _ _) hb1
  have hW := Lib.hid (below_step hA (by simp) hb1)
  have HLV := Lib.hid (HL.out.below hW.out HL.out.size)
  clear hb1 hA
  obtain ⟨tl, htl⟩ : ∃ tl : TypeId, tl = 26 := ⟨_, rfl⟩
  obtain ⟨sz, hsz0⟩ : ∃ sz : Nat, sz = 68 := ⟨_, rfl⟩
  have hag : ∀ w, (isAgg tl).run Tryd.prog w = .ok true w := by rw [htl]; exact hd_agg
  have hsz : ∀ w, (sizeOf tl).run Tryd.prog w = .ok sz w := by rw [htl, hsz0]; exact hd_size
  have hlA : ∀ w', Bk w' w.heap.size 26 A → (loadCellsFrom ⟨w.heap.size, 0, none⟩ 0 sz #[]).run Tryd.prog w' = .ok A w' := by rw [hsz0]; exact fun w' h => hd_load h sa
  go_upto_region 3 with fail
  simp only [show ∀ z, Op.load 26 z = Op.load tl z from fun z => by rw [htl]]
  clear htl hsz0
  have hgs : w.heap.size ≤ w1.heap.size := hW.out.size
  generalize hga : w.heap.size = ga at *
  go_region_held (fun w' => w1.heap.size ≤ w'.heap.size ∧ Bk w' ga 26 A)
    ((refine ⟨?_, ?_⟩; (focus (first | omega | (simp; done) | (simp; omega) | (simp [World.drew]; done) | (simp [World.drew]; omega))); (focus (repeat' (first | with_reducible assumption | with_reducible exact Bk.new _ _ _ | with_reducible refine Bk.new' _ _ _ ?_ | with_reducible refine Bk.alloc ?_ _ | with_reducible refine Bk.drew ?_ | (with_reducible refine Bk.keep ?_ (by with_reducible assumption)) | (simp; done) | (simp; omega) | (simp [World.drew]; done) | (simp [World.drew]; omega))))))
    (first
    | (go_at_call 17
       with_reducible refine (HP.out _ ?_).mono ?_
       · refine HLV.out.keep ?_
         repeat' (first | with_reducible exact Below.refl _ _ | with_reducible assumption | with_reducible exact From.out (by with_reducible assumption) | with_reducible refine Below.drew ?_ | with_reducible refine Below.setCell ?_ ?_ _ | with_reducible refine Below.alloc ?_ ?_ _ | with_reducible exact Nat.le_refl _ | omega | (simp; done) | (simp; omega) | (simp [World.drew]; done) | (simp [World.drew]; omega))
       rintro e w6 ⟨rfl, hb6⟩
       have hE6 : From w1 w6 := by
         refine below_step ?_ ?_ hb6
         · repeat' (first | with_reducible exact Below.refl _ _ | with_reducible assumption | with_reducible exact From.out (by with_reducible assumption) | with_reducible refine Below.drew ?_ | with_reducible refine Below.setCell ?_ ?_ _ | with_reducible refine Below.alloc ?_ ?_ _ | with_reducible exact Nat.le_refl _ | omega | (simp; done) | (simp; omega) | (simp [World.drew]; done) | (simp [World.drew]; omega))
         · first | omega | (simp; done) | (simp; omega) | (simp [World.drew]; done) | (simp [World.drew]; omega)
       have z6 := hE6.out.size
       have A6 := KA.keep hE6.out)
    | (go_at_call 24
       with_reducible refine (HR.out _).mono ?_
       rintro e w7 ⟨rfl, hb7⟩
       have hE7 : From w1 w7 := by
         refine below_step ?_ ?_ hb7
         · repeat' (first | with_reducible exact Below.refl _ _ | with_reducible assumption | with_reducible exact From.out (by with_reducible assumption) | with_reducible refine Below.drew ?_ | with_reducible refine Below.setCell ?_ ?_ _ | with_reducible refine Below.alloc ?_ ?_ _ | with_reducible exact Nat.le_refl _ | omega | (simp; done) | (simp; omega) | (simp [World.drew]; done) | (simp [World.drew]; omega))
         · first | omega | (simp; done) | (simp; omega) | (simp [World.drew]; done) | (simp [World.drew]; omega)
       have z7 := hE7.out.size
       have A7 := KA.keep hE7.out))
  all_goals
    have hW2 := Lib.hid (below_step hW.out hgs hE7.out)
    go_wp2_with fail
    go_ret
    first | exact ⟨rfl, hW2.out⟩ | exact ⟨rfl, by rw [hga]; exact hW2.out⟩

/-- The door's own heap meets the condition. -/
theorem door_met (os : Os) (args : Array Value) : laidMetH Tryd.prog laidL ((World.doorLaid Tryd.prog 19 os).forCall (fun _ _ => 0) ⟨#[], args, []⟩).memory :=
  laidMetH_of_parts3 (fuel := 8) (laidMet_of_run' 8 (by kernel_rfl) (by kernel_rfl)) (by kernel_rfl) (by kernel_rfl)

set_option maxRecDepth 100000 in
theorem lifted (os : Os) (started : os.Started) (H : Type) (enc : TypeId × Value → H) :
    ReturnsInHanded {} Tryd.checked os 7 .any (fun w args => (Rows.headProvedSpec.pre enc Tryd.prog Tryd.f7 [] false w args ∧ laidMetH Tryd.prog laidL w) ∧ sizedMet enc Tryd.prog Tryd.f7 (OpenSpec.ofChange Rows.headProvedSpec) false w args)
      (Rows.headProvedSpec.post enc Tryd.prog Tryd.f7 false true false false) := by
  refine returnsInHanded_of_change_and (C := Tryd.checked) (X := fun w _ => laidMetH Tryd.prog laidL w) (fun _ _ _ hh h => h.of_heap hh) own started (by kernel_rfl) Tryd.func7
    (ChangeSpec.witness_shaped (enc := enc) (C := Tryd.checked) (os := os) (X := fun w _ => laidMetH Tryd.prog laidL w) false (World.doorLaid Tryd.prog 19 os) #[hdv hd0, .int .u32 0] 8 rfl (World.shaped_of_RefB (by kernel_rfl) (by kernel_rfl)) (by kernel_rfl) (by kernel_rfl) (by kernel_rfl) (door_met os _)) ?_
  intro W base args ds gs before hval0 hW _ _ hL _
  have hval : ∀ (j : Nat) t v, Tryd.f7.params[j]? = some t → args[j]? = some v → Value.okWide Tryd.prog W .any base t v := hval0
  have hW' := hW
  obtain ⟨p, q, hA0, hV, rfl, hfz, hnd⟩ := hW
  have hA : DataW.TrodAll enc Tryd.prog W 0 (fun _ => true) true Tryd.f7.params.toList args.toList ds p := hA0
  rw [Tryd.params7] at hA hval
  obtain ⟨v0, vs0, d0, ds0, p0, q0, hargs, rfl, rfl, h0, r0⟩ := trodAll_cons hA
  obtain ⟨v1, vs1, d1, ds1, p1, q1, rfl, rfl, rfl, h1, r1⟩ := trodAll_cons r0
  obtain ⟨rfl, rfl, rfl⟩ := trodAll_nil r1
  obtain rfl : args = #[v0, v1] := by cases args; simp_all
  obtain ⟨rfl, rfl⟩ := trodVars_none hV
  have lt0 : ∀ x ∈ p0, x.block < W.heap.size := by obtain ⟨m, hm⟩ := h0; exact DataW.trod_lt m _ _ _ hm
  have lt1 : ∀ x ∈ p1, x.block < W.heap.size := by obtain ⟨m, hm⟩ := h1; exact DataW.trod_lt m _ _ _ hm
  obtain ⟨x0, hb0, rfl⟩ := hd_arg (hval 0 26 v0 rfl rfl) h0
  obtain ⟨y1, rfl, _, _, hwf1⟩ := open_int (k := .u32) Tryd.underlying22 (hval 1 22 v1 rfl rfl) h1
  have hy1 := wf_u32 hwf1
  obtain ⟨x1, rfl⟩ := Int.eq_ofNat_of_zero_le hy1.1
  have hwalk := walk x0 x1 W (of_laid hL) hb0 (by omega)
  clear hA0 hval0
  refine hwalk.mono fun e W' ⟨he, bel⟩ => ?_
  subst he
  exact ⟨_, rfl, _, _, _, [], _, [], hW', trodAll_mk1 (shut_bool Tryd.underlying4 _), (trodAll_cons_mk (Below.trod laidOut (by kernel_rfl) (of_decide_eq_true (by kernel_rfl)) h0 bel lt0) (trodAll_cons_mk (Below.trod laidOut (by kernel_rfl) (of_decide_eq_true (by kernel_rfl)) h1 bel lt1) trodAll_mk0)), rfl, bel.frame _, fun h => by cases h⟩

theorem over : Rows.HeadProvedSaid :=
  OpenClaim.holds_of_wide 7 Tryd.f7 rfl rfl rfl rfl rfl rfl rfl ⟨rfl, rfl, rfl, rfl, rfl⟩ rfl rfl rfl rfl rfl (by kernel_rfl) Tryd.func7 (by kernel_rfl)
    (of_decide_eq_true (by kernel_rfl)) (by unfold Func.isWrapper; first | (rw [if_pos (by decide +kernel)]; kernel_rfl) | (rw [if_neg (by decide +kernel)]; exact ⟨rfl, rfl⟩))
    (fun os started H enc _ => lifted os started H enc)

theorem proved : Rows.HeadProvedCardSaid :=
  Claim7.holds_tied_plain_at .later [] [.data, .data] true Rows.headProvedCard.stood.harness false
    over (fun _ h => by cases h) (by kernel_rfl) (fun _ h => by cases h) headProved_row_tie rfl ⟨rfl, rfl⟩ (by kernel_rfl) rfl
    (fun f fn hf hfn => by
      obtain rfl : f = 7 := Option.some.inj ((show Tryd.prog.funcNamed "tallystick/tallysticklaw05.HeadProved" = some 7 by kernel_rfl).symm.trans hf) |>.symm
      obtain rfl : fn = Tryd.f7 := (Option.some.inj (Tryd.func7.symm.trans hfn)).symm
      exact ⟨by kernel_rfl, fun j t ht => by
        rw [Tryd.params7] at ht
        have hm : t ∈ [26, 22] := by simpa using Array.mem_of_getElem? ht
        have hall : ([26, 22].all fun u => !Tryd.prog.wantsStandIn u) = true := by kernel_rfl
        exact (show Tryd.prog.wantsStandIn t = false by simpa using List.all_eq_true.1 hall t hm)⟩)
    (by kernel_rfl)
#print axioms proved
end Go.Proofs.YtkhiicnahijnoaaDoor.headProved
