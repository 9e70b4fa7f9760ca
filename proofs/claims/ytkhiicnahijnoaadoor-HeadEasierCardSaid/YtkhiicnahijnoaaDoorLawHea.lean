/-
  What is proved: for every header and every two limits the law HeadEasier returns true, and its arguments read behind the call as they read before; the two listed tables of package hash are taken to hold what the program's text lays in them, and the card ties them to it.
-/
import Derived.Test.YtkhiicnahijnoaaDoorHeaI
import Derived.Test.YtkhiicnahijnoaaDoorHdArg
import Derived.Test.YtkhiicnahijnoaaDoorOpen
import Derived.Test.YtkhiicnahijnoaaDoorTie
import Derived.Test.YtkhiicnahijnoaaDoorCards
import Derived.Stop.Joined
namespace Go.Proofs.YtkhiicnahijnoaaDoor.headEasier
open Go.ChangeShapes Go.WideShapes Go.ChangeAt Go.RowKit
set_option linter.unusedVariables false

theorem own : ownKnob Tryd.prog.godebug = none := by kernel_rfl
theorem laidOut : laidOutB Tryd.prog = true := by kernel_rfl
theorem wf_i64 {z : Int} (h : (Lit.int .i64 z).wf = true) : -9223372036854775808 ≤ z ∧ z ≤ 9223372036854775807 := by
  simp [Lit.wf, IntKind.min, IntKind.max, IntKind.signed, IntKind.bits] at h
  omega

theorem wf_u32 {z : Int} (h : (Lit.int .u32 z).wf = true) : 0 ≤ z ∧ z < 4294967296 := wf_u32' h
theorem prov_own (h : Hd) (l : Nat) : (provV h l = 0 → provV h h.b = 0) ∧ (provV h l = 50 → provV h h.b = 50) := by
  unfold provV
  constructor
  · intro e
    split at e
    · cases e
    · rename_i h1
      split at e
      · cases e
      · rename_i h2
        rw [if_neg (by omega), if_neg h2]
  · intro e
    split at e
    · cases e
    · rename_i h1
      split at e
      · rename_i h2
        rw [if_neg (by omega), if_pos h2]
      · cases e
theorem prov_more (h : Hd) (l m : Nat) (hm : tgtV m ≠ 0) (hle : tgtV l ≤ tgtV m) (e : provV h l = 0) : provV h m = 0 := by
  unfold provV at e ⊢
  split at e
  · cases e
  · rename_i h1
    split at e
    · cases e
    · rename_i h2
      rw [if_neg (by omega), if_neg h2]
theorem prov_of (h : Hd) (l : Nat) : provV h l = 0 ∨ provV h l = 50 ∨ provV h l = 30 := by
  unfold provV
  split
  · exact .inr (.inr rfl)
  · split
    · exact .inr (.inl rfl)
    · exact .inl rfl
theorem cmp_le {a b : Nat} (h : a ≤ b) : decide (cmpI a b ≤ 0) = true := by
  unfold cmpI
  split
  · rfl
  · rw [if_pos (by omega)]; rfl
theorem cmp_nle {a b : Nat} (h : ¬ a ≤ b) : decide (cmpI a b ≤ 0) = false := by
  unfold cmpI; rw [if_neg (by omega), if_neg (by omega)]; rfl
set_option maxRecDepth 100000 in
set_option maxHeartbeats 8000000 in
theorem walk (h : Hd) (l m : Nat) (w : World) (hL : Laid w) (k : IsHd h) (hl : l < 4294967296) (hm : m < 4294967296) :
    Calls Tryd.prog 4 #[hdv h, .agg #[.int .u32 (l : Int), .int .u32 (m : Int)]] w fun e w' => e = .returned (.bool true) ∧ Below w.heap.size w w' := by
  have HPL := Lib.hid (fun W (hw : Laid W) => proved_any h l W k hl hw)
  have HPM := Lib.hid (fun W (hw : Laid W) => proved_any h m W k hm hw)
  have HPB := Lib.hid (fun W (hw : Laid W) => proved_any h h.b W k k.b hw)
  have HTL := Lib.hid (fun W => target_any l W hl)
  have HTM := Lib.hid (fun W => target_any m W hm)
  have HCM := Lib.hid (fun W => cmp_any (tgtV l) (tgtV m) W (tgtV_lt l) (tgtV_lt m))
  have hown := prov_own h l
  have hmore := prov_more h l m
  have hof := prov_of h l
  have hcl := @cmp_le (tgtV l) (tgtV m)
  have hcn := @cmp_nle (tgtV l) (tgtV m)
  have sa := hdA_size k
  have hcb := hdA_b k
  have hbl := k.b
  have HL := Lib.hid hL
  change Hid (∀ W, Laid W → Calls Tryd.prog _ #[.agg (hdA h), _] W _) at HPL
  change Hid (∀ W, Laid W → Calls Tryd.prog _ #[.agg (hdA h), _] W _) at HPM
  change Hid (∀ W, Laid W → Calls Tryd.prog _ #[.agg (hdA h), _] W _) at HPB
  show Calls Tryd.prog _ #[.agg (hdA h), _] w _
  generalize hdA h = A at *
  generalize provV h l = e at *
  generalize provV h m = f at *
  generalize provV h h.b = g at *
  generalize h.b = b at *
  generalize cmpI (tgtV l) (tgtV m) = z at *
  generalize tgtV l = ta at *
  generalize tgtV m = tb at *
  have HOWN := Lib.hid hown
  have HMORE := Lib.hid hmore
  have HOF := Lib.hid hof
  have HCL := Lib.hid hcl
  have HCN := Lib.hid hcn
  clear hL k hown hmore hof hcl hcn hl hm
  obtain ⟨ba, hba⟩ : ∃ ba, ba = decide (ta = 0) := ⟨_, rfl⟩
  obtain ⟨bb, hbb⟩ : ∃ bb, bb = decide (tb = 0) := ⟨_, rfl⟩
  rw [← hba] at HTL
  rw [← hbb] at HTM
  have HBA := Lib.hid hba
  have HBB := Lib.hid hbb
  clear hba hbb
  obtain ⟨gl, hgl⟩ : ∃ gl, gl = w.heap.size + 1 := ⟨_, rfl⟩
  go_enter Tryd.func4, Tryd.ntmps4
  have hA : Below w.heap.size w ((w.alloc (.cells A 26)).alloc (.cells #[.int .u32 (l : Int), .int .u32 (m : Int)] 31)) := ((Below.refl _ _).alloc (Nat.le_refl _) _).alloc (by simp) _
  go_wp2_with fail
  refine (reads_any _ (HL.out.keep hA)).mono ?_
  rintro e w1 ⟨rfl, hb1⟩
  have KA : Bk w1 w.heap.size 26 A := Bk.keep ((Bk.new _ _ _).alloc _) hb1
  have KL : Bk w1 (w.heap.size + 1) 31 #[.int .u32 (l : Int), .int .u32 (m : Int)] := Bk.keep (Bk.new' _ _ _ (by simp)) hb1
  have hW := Lib.hid (below_step hA (by simp; omega) hb1)
  rw [← hgl] at KL ⊢
  have hgg : w.heap.size < gl := by omega
  have HGL := Lib.hid hgl
  clear hb1 hA hgl
  have c0 := KL.cell 0
  have c1 := KL.cell 1
  have zl := KL.lt
  go_wp2_with fail
  refine (HTL.out _).mono ?_
  rintro e w2 ⟨rfl, hb2⟩
  have hW := Lib.hid (below_step hW.out hW.out.size hb2)
  have KA := KA.keep hb2
  have KL := KL.keep hb2
  clear hb2 c0 c1 zl
  have N2 := Bk.new w2 34 (A4 (wd0 ta) (wd1 ta) (wd2 ta) (wd3 ta))
  go_upto_region 4 with fail
  refine wp_any (fun V => Below w.heap.size w V ∧ Bk V w.heap.size 26 A ∧ Bk V gl 31 #[.int .u32 (l : Int), .int .u32 (m : Int)] ∧ Bk V w2.heap.size 34 (A4 (wd0 ta) (wd1 ta) (wd2 ta) (wd3 ta))) ⟨hW.out.alloc hW.out.size _, KA.alloc _, KL.alloc _, N2⟩ ?_
  have zl := KL.lt
  clear hW KA KL N2
  generalize w2.heap.size = g5 at *
  rintro V ⟨hW, KA, KL, K5⟩
  have hW := Lib.hid hW
  have c0 := KL.cell 0
  have c1 := KL.cell 1
  go_upto_region 4 with fail
  go_wp2_with fail
  refine (HTM.out _).mono ?_
  rintro e w3 ⟨rfl, hb3⟩
  have hW := Lib.hid (below_step hW.out hW.out.size hb3)
  have KA := KA.keep hb3
  have KL := KL.keep hb3
  have K5 := K5.keep hb3
  clear hb3 c0 c1 HTL HTM
  have z5 := K5.lt
  have N3 := Bk.new w3 34 (A4 (wd0 tb) (wd1 tb) (wd2 tb) (wd3 tb))
  go_upto_region 5 with fail
  refine wp_any (fun V => Below w.heap.size w V ∧ Bk V w.heap.size 26 A ∧ Bk V gl 31 #[.int .u32 (l : Int), .int .u32 (m : Int)] ∧ Bk V g5 34 (A4 (wd0 ta) (wd1 ta) (wd2 ta) (wd3 ta)) ∧ Bk V w3.heap.size 34 (A4 (wd0 tb) (wd1 tb) (wd2 tb) (wd3 tb))) ⟨hW.out.alloc hW.out.size _, KA.alloc _, KL.alloc _, K5.alloc _, N3⟩ ?_
  clear hW KA KL K5 N3
  generalize w3.heap.size = g7 at *
  rintro V ⟨hW, KA, KL, K5, K7⟩
  have hW := Lib.hid hW
  obtain ⟨tl, htl⟩ : ∃ tl : TypeId, tl = 26 := ⟨_, rfl⟩
  obtain ⟨sz, hsz0⟩ : ∃ sz : Nat, sz = 68 := ⟨_, rfl⟩
  have hag : ∀ w, (isAgg tl).run Tryd.prog w = .ok true w := by rw [htl]; exact hd_agg
  have hsz : ∀ w, (sizeOf tl).run Tryd.prog w = .ok sz w := by rw [htl, hsz0]; exact hd_size
  have hlA : ∀ w', Bk w' w.heap.size 26 A → (loadCellsFrom ⟨w.heap.size, 0, none⟩ 0 sz #[]).run Tryd.prog w' = .ok A w' := by rw [hsz0]; exact fun w' h => hd_load h sa
  have HLA := Lib.hid hlA
  have HTLL := Lib.hid (show ∀ z, Op.load 26 z = Op.load tl z from fun z => by rw [htl])
  clear htl hsz0
  have htl := HTLL.out
  go_upto_region 5 with fail
  simp only [htl]
  clear htl
  have HLV := Lib.hid (HL.out.below hW.out HL.out.size)
  have hgv : w.heap.size ≤ V.heap.size := hW.out.size
  generalize hga : w.heap.size = ga at *
  go_cut [9, 10] (fun s9 s10 wx => s9 = .int .i64 (e : Int) ∧ s10 = .int .i64 (f : Int) ∧ Hid (Below V.heap.size V wx))
  case first =>
    go_region_held (fun w' => V.heap.size ≤ w'.heap.size ∧ Bk w' ga 26 A ∧ w'.cell? ⟨gl, 0, none⟩ = some (.int .u32 (l : Int)) ∧ w'.cell? ⟨gl, 1, none⟩ = some (.int .u32 (m : Int)))
      ((refine ⟨?_, ?_, ?_, ?_⟩; (focus (first | omega | (simp; done) | (simp; omega) | (simp [World.drew]; done) | (simp [World.drew]; omega))); (focus (repeat' (first | with_reducible assumption | with_reducible exact Bk.new _ _ _ | with_reducible refine Bk.new' _ _ _ ?_ | with_reducible refine Bk.alloc ?_ _ | with_reducible refine Bk.drew ?_ | (with_reducible refine Bk.keep ?_ (by with_reducible assumption)) | (simp; done) | (simp; omega) | (simp [World.drew]; done) | (simp [World.drew]; omega)))); (focus (first | with_reducible assumption | exact (Bk.drew KL).cell 0 | simpa using KL.cell 0)); (focus (first | with_reducible assumption | exact (Bk.drew KL).cell 1 | simpa using KL.cell 1))))
      (first
      | (go_at_call 17
         with_reducible refine (HPL.out _ ?_).mono ?_
         · refine HLV.out.keep ?_
           repeat' (first | with_reducible exact Below.refl _ _ | with_reducible assumption | with_reducible exact From.out (by with_reducible assumption) | with_reducible refine Below.drew ?_ | with_reducible refine Below.setCell ?_ ?_ _ | with_reducible refine Below.alloc ?_ ?_ _ | with_reducible exact Nat.le_refl _ | omega | (simp; done) | (simp; omega) | (simp [World.drew]; done) | (simp [World.drew]; omega))
         rintro e w6 ⟨rfl, hb6⟩
         have hE6 : From V w6 := by
           refine below_step ?_ ?_ hb6
           · repeat' (first | with_reducible exact Below.refl _ _ | with_reducible assumption | with_reducible exact From.out (by with_reducible assumption) | with_reducible refine Below.drew ?_ | with_reducible refine Below.setCell ?_ ?_ _ | with_reducible refine Below.alloc ?_ ?_ _ | with_reducible exact Nat.le_refl _ | omega | (simp; done) | (simp; omega) | (simp [World.drew]; done) | (simp [World.drew]; omega))
           · first | omega | (simp; done) | (simp; omega) | (simp [World.drew]; done) | (simp [World.drew]; omega)
         have z6 := hE6.out.size
         have A6 := KA.keep hE6.out
         have d6 : w6.cell? ⟨gl, 0, none⟩ = some (.int .u32 (l : Int)) := (KL.keep hE6.out).cell 0
         have d7 : w6.cell? ⟨gl, 1, none⟩ = some (.int .u32 (m : Int)) := (KL.keep hE6.out).cell 1)
      | (go_at_call 17
         with_reducible refine (HPM.out _ ?_).mono ?_
         · refine HLV.out.keep ?_
           repeat' (first | with_reducible exact Below.refl _ _ | with_reducible assumption | with_reducible exact From.out (by with_reducible assumption) | with_reducible refine Below.drew ?_ | with_reducible refine Below.setCell ?_ ?_ _ | with_reducible refine Below.alloc ?_ ?_ _ | with_reducible exact Nat.le_refl _ | omega | (simp; done) | (simp; omega) | (simp [World.drew]; done) | (simp [World.drew]; omega))
         rintro e w7 ⟨rfl, hb7⟩
         have hE7 : From V w7 := by
           refine below_step ?_ ?_ hb7
           · repeat' (first | with_reducible exact Below.refl _ _ | with_reducible assumption | with_reducible exact From.out (by with_reducible assumption) | with_reducible refine Below.drew ?_ | with_reducible refine Below.setCell ?_ ?_ _ | with_reducible refine Below.alloc ?_ ?_ _ | with_reducible exact Nat.le_refl _ | omega | (simp; done) | (simp; omega) | (simp [World.drew]; done) | (simp [World.drew]; omega))
           · first | omega | (simp; done) | (simp; omega) | (simp [World.drew]; done) | (simp [World.drew]; omega)
         have z7 := hE7.out.size
         have A7 := KA.keep hE7.out
         have d8 : w7.cell? ⟨gl, 0, none⟩ = some (.int .u32 (l : Int)) := (KL.keep hE7.out).cell 0
         have d9 : w7.cell? ⟨gl, 1, none⟩ = some (.int .u32 (m : Int)) := (KL.keep hE7.out).cell 1))
    all_goals
      go_wp2_with fail
      go_meet
      exact ⟨rfl, rfl, hE7.out⟩
  case rest =>
    obtain ⟨rfl, rfl, hb⟩ := hcut
    have hW2 := Lib.hid (hW.out.trans (hb.out.mono hgv))
    have KA := KA.keep hb.out
    have K5 := K5.keep hb.out
    have K7 := K7.keep hb.out
    have HLC := Lib.hid (HLV.out.keep hb.out)
    clear hb hW KL
    go_upto_region 6 with fail
    go_cut [50] (fun s50 wx => s50 = .bool false ∧ Hid (Below wc.heap.size wc wx))
    case first =>
      obtain ⟨a0, a1, a2, a3, a4, a5, a6, a7, za⟩ := K5.f4
      obtain ⟨q0, q1, q2, q3, q4, q5, q6, q7, zq⟩ := K7.f4
      cases ba
      · cases bb
        · have ht : tb ≠ 0 := by
            intro h0
            have := HBB.out
            rw [h0] at this
            simp at this
          by_cases hle : ta ≤ tb
          · have hz := HCL.out hle
            by_cases he : e = 0
            · have hf := HMORE.out ht hle he
              subst he hf
              go_wp2_with fail
              refine (HCM.out _).mono ?_
              rintro e w8 ⟨rfl, hb8⟩
              have hb8 := Lib.hid hb8
              go_wp2_with fail
              go_meet
              exact ⟨rfl, hb8.out⟩
            · have hd1 : decide (e = 0) = false := decide_eq_false he
              have hd2 : decide ((e : Int) = 0) = false := decide_eq_false (by omega)
              go_wp2_with fail
              refine (HCM.out _).mono ?_
              rintro e w8 ⟨rfl, hb8⟩
              have hb8 := Lib.hid hb8
              go_wp2_with fail
              go_meet
              exact ⟨rfl, hb8.out⟩
          · have hz := HCN.out hle
            go_wp2_with fail
            refine (HCM.out _).mono ?_
            rintro e w8 ⟨rfl, hb8⟩
            have hb8 := Lib.hid hb8
            go_wp2_with fail
            go_meet
            exact ⟨rfl, hb8.out⟩
        · go_wp2_with fail
          go_meet
          exact ⟨rfl, Below.refl _ _⟩
      · go_wp2_with fail
        go_meet
        exact ⟨rfl, Below.refl _ _⟩
    case rest =>
      obtain ⟨rfl, hb⟩ := hcut
      have hW3 := Lib.hid (hW2.out.trans (hb.out.mono (by rw [← hga]; exact hW2.out.size)))
      have KA := KA.keep hb.out
      have HLD := Lib.hid (HLC.out.keep hb.out)
      clear hb hW2 K5 K7 HLC
      have l0 := HLA.out _ KA
      have c66 := (KA.cell 66).trans hcb
      have zk := KA.lt
      have htl := HTLL.out
      go_upto_region 8 with fail
      simp only [htl]
      clear htl
      rcases HOF.out with he | he | he
      · have hg := HOWN.out.1 he
        subst he hg
        go_wp2_with fail
        refine (HPB.out _ HLD.out).mono ?_
        rintro e w8 ⟨rfl, hb8⟩
        have hW4 := Lib.hid (hW3.out.trans (hb8.mono (by rw [← hga]; exact hW3.out.size)))
        go_wp2_with fail
        go_ret
        exact ⟨rfl, by rw [hga]; exact hW4.out⟩
      · have hg := HOWN.out.2 he
        subst he hg
        go_wp2_with fail
        refine (HPB.out _ HLD.out).mono ?_
        rintro e w8 ⟨rfl, hb8⟩
        have hW4 := Lib.hid (hW3.out.trans (hb8.mono (by rw [← hga]; exact hW3.out.size)))
        go_wp2_with fail
        go_ret
        exact ⟨rfl, by rw [hga]; exact hW4.out⟩
      · subst he
        go_wp2_with fail
        go_ret
        first | exact ⟨rfl, hW3.out⟩ | exact ⟨rfl, by rw [hga]; exact hW3.out⟩
theorem easier_walk (h : Hd) (zs : List Int) (w : World) (hL : Laid w) (k : IsHd h) (hl : zs.length = 2) (hw : ∀ z ∈ zs, (Lit.int .u32 z).wf = true) :
    Calls Tryd.prog 4 #[hdv h, .agg (zs.map (Value.int .u32)).toArray] w fun e w' => e = .returned (.bool true) ∧ Below w.heap.size w w' := by
  match zs, hl with
  | [t0, t1], _ =>
    have b0 := wf_u32 (hw t0 (by simp))
    have b1 := wf_u32 (hw t1 (by simp))
    obtain ⟨x, rfl⟩ := Int.eq_ofNat_of_zero_le b0.1
    obtain ⟨y, rfl⟩ := Int.eq_ofNat_of_zero_le b1.1
    exact walk h x y w hL k (by omega) (by omega)

/-- The door's own heap meets the condition. -/
theorem door_met (os : Os) (args : Array Value) : laidMetH Tryd.prog laidL ((World.doorLaid Tryd.prog 19 os).forCall (fun _ _ => 0) ⟨#[], args, []⟩).memory :=
  laidMetH_of_parts3 (fuel := 8) (laidMet_of_run' 8 (by kernel_rfl) (by kernel_rfl)) (by kernel_rfl) (by kernel_rfl)

set_option maxRecDepth 100000 in
theorem lifted (os : Os) (started : os.Started) (H : Type) (enc : TypeId × Value → H) :
    ReturnsInHanded {} Tryd.checked os 4 .any (fun w args => (Rows.headEasierSpec.pre enc Tryd.prog Tryd.f4 [] false w args ∧ laidMetH Tryd.prog laidL w) ∧ sizedMet enc Tryd.prog Tryd.f4 (OpenSpec.ofChange Rows.headEasierSpec) false w args)
      (Rows.headEasierSpec.post enc Tryd.prog Tryd.f4 false true false false) := by
  refine returnsInHanded_of_change_and (C := Tryd.checked) (X := fun w _ => laidMetH Tryd.prog laidL w) (fun _ _ _ hh h => h.of_heap hh) own started (by kernel_rfl) Tryd.func4
    (ChangeSpec.witness_shaped (enc := enc) (C := Tryd.checked) (os := os) (X := fun w _ => laidMetH Tryd.prog laidL w) false (World.doorLaid Tryd.prog 19 os) #[hdv hd0, .agg #[.int .u32 0, .int .u32 0]] 8 rfl (World.shaped_of_RefB (by kernel_rfl) (by kernel_rfl)) (by kernel_rfl) (by kernel_rfl) (by kernel_rfl) (door_met os _)) ?_
  intro W base args ds gs before hval0 hW _ _ hL _
  have hval : ∀ (j : Nat) t v, Tryd.f4.params[j]? = some t → args[j]? = some v → Value.okWide Tryd.prog W .any base t v := hval0
  have hW' := hW
  obtain ⟨p, q, hA0, hV, rfl, hfz, hnd⟩ := hW
  have hA : DataW.TrodAll enc Tryd.prog W 0 (fun _ => true) true Tryd.f4.params.toList args.toList ds p := hA0
  rw [Tryd.params4] at hA hval
  obtain ⟨v0, vs0, d0, ds0, p0, q0, hargs, rfl, rfl, h0, r0⟩ := trodAll_cons hA
  obtain ⟨v1, vs1, d1, ds1, p1, q1, rfl, rfl, rfl, h1, r1⟩ := trodAll_cons r0
  obtain ⟨rfl, rfl, rfl⟩ := trodAll_nil r1
  obtain rfl : args = #[v0, v1] := by cases args; simp_all
  obtain ⟨rfl, rfl⟩ := trodVars_none hV
  have lt0 : ∀ x ∈ p0, x.block < W.heap.size := by obtain ⟨m, hm⟩ := h0; exact DataW.trod_lt m _ _ _ hm
  have lt1 : ∀ x ∈ p1, x.block < W.heap.size := by obtain ⟨m, hm⟩ := h1; exact DataW.trod_lt m _ _ _ hm
  obtain ⟨x0, hb0, rfl⟩ := hd_arg (hval 0 26 v0 rfl rfl) h0
  obtain ⟨z1, hl1, rfl, hw1⟩ := open_ints_arr (k := .u32) Tryd.underlying31 Tryd.underlying22 (by kernel_rfl) (by kernel_rfl) (hval 1 31 v1 rfl rfl) h1
  have hwalk := easier_walk x0 z1 W (of_laid hL) hb0 hl1 hw1
  clear hA0 hval0
  refine hwalk.mono fun e W' ⟨he, bel⟩ => ?_
  subst he
  exact ⟨_, rfl, _, _, _, [], _, [], hW', trodAll_mk1 (shut_bool Tryd.underlying4 _), (trodAll_cons_mk (Below.trod laidOut (by kernel_rfl) (of_decide_eq_true (by kernel_rfl)) h0 bel lt0) (trodAll_cons_mk (Below.trod laidOut (by kernel_rfl) (of_decide_eq_true (by kernel_rfl)) h1 bel lt1) trodAll_mk0)), rfl, bel.frame _, fun h => by cases h⟩

theorem over : Rows.HeadEasierSaid :=
  OpenClaim.holds_of_wide 4 Tryd.f4 rfl rfl rfl rfl rfl rfl rfl ⟨rfl, rfl, rfl, rfl, rfl⟩ rfl rfl rfl rfl rfl (by kernel_rfl) Tryd.func4 (by kernel_rfl)
    (of_decide_eq_true (by kernel_rfl)) (by unfold Func.isWrapper; first | (rw [if_pos (by decide +kernel)]; kernel_rfl) | (rw [if_neg (by decide +kernel)]; exact ⟨rfl, rfl⟩))
    (fun os started H enc _ => lifted os started H enc)

theorem proved : Rows.HeadEasierCardSaid :=
  Claim7.holds_tied_plain_at .later [] [.data, .data] true Rows.headEasierCard.stood.harness false
    over (fun _ h => by cases h) (by kernel_rfl) (fun _ h => by cases h) headEasier_row_tie rfl ⟨rfl, rfl⟩ (by kernel_rfl) rfl
    (fun f fn hf hfn => by
      obtain rfl : f = 4 := Option.some.inj ((show Tryd.prog.funcNamed "tallystick/tallysticklaw05.HeadEasier" = some 4 by kernel_rfl).symm.trans hf) |>.symm
      obtain rfl : fn = Tryd.f4 := (Option.some.inj (Tryd.func4.symm.trans hfn)).symm
      exact ⟨by kernel_rfl, fun j t ht => by
        rw [Tryd.params4] at ht
        have hm : t ∈ [26, 31] := by simpa using Array.mem_of_getElem? ht
        have hall : ([26, 31].all fun u => !Tryd.prog.wantsStandIn u) = true := by kernel_rfl
        exact (show Tryd.prog.wantsStandIn t = false by simpa using List.all_eq_true.1 hall t hm)⟩)
    (by kernel_rfl)
#print axioms proved
end Go.Proofs.YtkhiicnahijnoaaDoor.headEasier
