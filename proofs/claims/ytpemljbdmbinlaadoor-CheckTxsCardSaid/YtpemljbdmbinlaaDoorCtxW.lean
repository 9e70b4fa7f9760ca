/-
  What is proved: CheckTxs holds for every input; the two listed tables of package hash are taken to hold what the program's text lays in them, and the card ties them to it.
-/
import Derived.Test.YtpemljbdmbinlaaDoorRkB
import Derived.Test.YtpemljbdmbinlaaDoorTie
import Derived.Test.YtpemljbdmbinlaaDoorCards
import Derived.Stop.Joined
namespace Go.Proofs.YtpemljbdmbinlaaDoor.checkTxs
open Go.ChangeShapes Go.WideShapes Go.ChangeAt Go.RowKit
set_option linter.unusedVariables false

theorem own : ownKnob Tryd.prog.godebug = none := by kernel_rfl
theorem laidOut : laidOutB Tryd.prog = true := by kernel_rfl
theorem wf_i64 {z : Int} (h : (Lit.int .i64 z).wf = true) : -9223372036854775808 ≤ z ∧ z ≤ 9223372036854775807 := by
  simp [Lit.wf, IntKind.min, IntKind.max, IntKind.signed, IntKind.bits] at h
  omega
set_option maxRecDepth 100000 in
set_option maxHeartbeats 8000000 in
theorem walk (t : TxM) (f : Bool) (w : World) (hLd : Laid w) (hT : TxV w w.heap.size t) :
    Calls Tryd.prog 8 #[txv t, .bool f] w fun e w' => e = .returned (.bool true) ∧ Below w.heap.size w w' := by
  have HT := Lib.hid hT
  have HLD := Lib.hid hLd
  have HOV := Lib.hid hT.2.2.1
  have HOK := Lib.hid hT.2.2.2
  obtain ⟨sa, na, ca, ea⟩ : ∃ s n c, t.iv = .slice s n c := ⟨_, _, _, rfl⟩
  obtain ⟨sb, nb, cb, eb⟩ : ∃ s n c, t.ov = .slice s n c := ⟨_, _, _, rfl⟩
  have HEA := Lib.hid ea
  have HEB := Lib.hid eb
  change Calls _ _ #[.agg #[t.iv, t.ov], .bool f] _ _
  rw [ea, eb]
  clear hLd hT ea eb
  go_enter Tryd.func8, Tryd.ntmps8
  go_upto_region 1 with fail
  refine wp_any (fun W => Below w.heap.size w W ∧ Bk W w.heap.size 32 #[.slice sa na ca, .slice sb nb cb]) ⟨(Below.refl w.heap.size w).alloc (Nat.le_refl _) _, Bk.new _ _ _⟩ ?_
  obtain ⟨g1, hg1⟩ : ∃ g1, g1 = w.heap.size := ⟨_, rfl⟩
  have HG := Lib.hid hg1
  rw [← hg1]
  clear hg1
  rintro W ⟨hW, K⟩
  have HW : Hid (Below w.heap.size w W) := by rw [← HG.out]; exact hW
  clear hW
  go_wp2_with fail
  refine (asks_any W (HLD.out.keep HW.out)).mono ?_
  rintro e w1 ⟨rfl, hb1⟩
  have HB1 := Lib.hid (below_step HW.out HW.out.size hb1)
  have K1 := K.keep hb1
  have c0 := K1.cell 0
  have c1 := K1.cell 1
  have z1 := K1.lt
  have hft := fits_any t w1 ((HT.out.keep HB1.out (Nat.le_refl _)).mono HB1.out.size)
  change Calls _ _ #[.agg #[t.iv, t.ov]] _ _ at hft
  rw [HEA.out, HEB.out] at hft
  generalize fitB t = fb at *
  clear hb1 HW K
  cases fb
  · go_wp2_with fail
    refine hft.mono ?_
    rintro e w2 ⟨rfl, hb2⟩
    have HB2 := Lib.hid (below_step HB1.out HB1.out.size hb2)
    clear hb2 hft
    go_wp2_with fail
    go_ret
    exact ⟨rfl, HB2.out⟩
  go_wp2_with fail
  refine hft.mono ?_
  rintro e w2 ⟨rfl, hb2⟩
  have HB2 := Lib.hid (below_step HB1.out HB1.out.size hb2)
  have K2 := K1.keep hb2
  clear hb2 hft HB1 K1 c0 c1 z1
  have c0 := K2.cell 0
  have c1 := K2.cell 1
  have z1 := K2.lt
  have hsum := csum_any t.outs (.slice sb nb cb) w2 (by rw [← HEB.out]; exact (HOV.out.keep HB2.out (Nat.le_refl _)).mono HB2.out.size) HOK.out
  obtain ⟨oa, hoa⟩ : ∃ a, a = (osum 0 t.outs).1 := ⟨_, rfl⟩
  obtain ⟨ob, hob⟩ : ∃ a, a = (osum 0 t.outs).2 := ⟨_, rfl⟩
  rw [← hoa, ← hob] at hsum
  have HOA := Lib.hid hoa
  have HOB := Lib.hid hob
  clear hoa hob
  go_wp2_with fail
  refine hsum.mono ?_
  rintro e w3 ⟨rfl, hb3⟩
  have HB3 := Lib.hid (below_step HB2.out HB2.out.size hb3)
  have K3 := K2.keep hb3
  clear hb3 hsum HB2 K2 c0 c1 z1
  have c0 := K3.cell 0
  have c1 := K3.cell 1
  have z1 := K3.lt
  have hsum := rsum_any t.outs (.slice sb nb cb) w3 (by rw [← HEB.out]; exact (HOV.out.keep HB3.out (Nat.le_refl _)).mono HB3.out.size) HOK.out
  rw [← HOA.out, ← HOB.out] at hsum
  go_wp2_with fail
  refine hsum.mono ?_
  rintro e V ⟨rfl, rfl⟩
  clear hsum c0 c1 z1
  go_upto_region 7 with fail
  have d0 : ∀ w', Below V.heap.size V w' → w'.cell? ⟨g1, 0, none⟩ = some (.slice sa na ca) := fun w' h => (K3.keep h).cell 0
  have d1 : ∀ w', Below V.heap.size V w' → w'.cell? ⟨g1, 1, none⟩ = some (.slice sb nb cb) := fun w' h => (K3.keep h).cell 1
  have c0 := K3.cell 0
  have c1 := K3.cell 1
  have z1 := K3.lt
  obtain ⟨E, hE⟩ : ∃ E, E = txE f t := ⟨_, rfl⟩
  have HC1 : Hid (∀ W, Below V.heap.size V W → Calls Tryd.prog 20 #[.agg #[.slice sa na ca, .slice sb nb cb], .bool f] W fun e w' => e = .returned (.int .i64 (E : Nat)) ∧ Below W.heap.size W w') := by
    show ∀ _, _
    intro W h
    have h2 := HB3.out.trans (h.mono HB3.out.size)
    have h1 := ctx_any t f W ((HT.out.keep h2 (Nat.le_refl _)).mono h2.size)
    change Calls _ _ #[.agg #[t.iv, t.ov], .bool f] _ _ at h1
    rw [HEA.out, HEB.out, ← hE] at h1
    exact h1
  have HC2 : Hid (∀ W, Below V.heap.size V W → Calls Tryd.prog 29 #[.agg #[.slice sa na ca, .slice sb nb cb], .bool f] W fun e w' => e = .returned (.int .i64 (E : Nat)) ∧ Below W.heap.size W w') := by
    show ∀ _, _
    intro W h
    have h2 := HB3.out.trans (h.mono HB3.out.size)
    have h1 := rtx_any t f W ((HT.out.keep h2 (Nat.le_refl _)).mono h2.size)
    change Calls _ _ #[.agg #[t.iv, t.ov], .bool f] _ _ at h1
    rw [HEA.out, HEB.out, ← hE] at h1
    exact h1
  clear hE K3
  refine wp_region_noPanic ?_
  go_region_held (fun w' => Below V.heap.size V w')
    ((repeat' (first | with_reducible assumption | with_reducible exact Below.refl _ _ | with_reducible exact (Below.refl _ _).drew | with_reducible refine Below.drew ?_ | exact Nat.le_refl _)))
    (first
      | (go_at_call 20
         with_reducible refine (HC1.out _ ?_).mono ?_
         · repeat' (first | with_reducible assumption | with_reducible exact Below.refl _ _ | with_reducible exact (Below.refl _ _).drew | with_reducible refine Below.drew ?_)
         rintro e w6 ⟨rfl, hb6⟩
         have hE6 : Below V.heap.size V w6 := by
           refine below_step ?_ ?_ hb6
           · repeat' (first | with_reducible assumption | with_reducible exact Below.refl _ _ | with_reducible exact (Below.refl _ _).drew | with_reducible refine Below.drew ?_)
           · first | exact Below.size (by with_reducible assumption) | (simp [World.drew]; done) | exact Nat.le_refl _
         clear hb6)
      | (go_at_call 29
         with_reducible refine (HC2.out _ ?_).mono ?_
         · repeat' (first | with_reducible assumption | with_reducible exact Below.refl _ _ | with_reducible exact (Below.refl _ _).drew | with_reducible refine Below.drew ?_)
         rintro e w7 ⟨rfl, hb7⟩
         have hE7 : Below V.heap.size V w7 := by
           refine below_step ?_ ?_ hb7
           · repeat' (first | with_reducible assumption | with_reducible exact Below.refl _ _ | with_reducible exact (Below.refl _ _).drew | with_reducible refine Below.drew ?_)
           · first | exact Below.size (by with_reducible assumption) | (simp [World.drew]; done) | exact Nat.le_refl _
         clear hb7))
  all_goals
    refine NoPanic.normal ?_
    go_wp2_with fail
    go_ret
    refine ⟨rfl, HB3.out.trans (Below.mono ?_ HB3.out.size)⟩
    with_reducible assumption
end Go.Proofs.YtpemljbdmbinlaaDoor.checkTxs
