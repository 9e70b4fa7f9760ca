/-
  The contract of the document's own Proved.
-/
import Derived.Test.YtkhiicnahijnoaaDoorHe5A
import Derived.Test.YtkhiicnahijnoaaDoorHe5B
import Derived.Test.YtkhiicnahijnoaaDoorRefU
namespace Go.Proofs.YtkhiicnahijnoaaDoor
open Go.RowKit
set_option linter.unusedVariables false

set_option maxRecDepth 100000 in
set_option maxHeartbeats 4000000 in
theorem proved5_any (h : Hd) (l : Nat) (w : World) (k : IsHd h) (hl : l < 4294967296) :
    Calls Tryd.prog 24 #[hdv h, .int .u32 (l : Int)] w fun e w' => e = .returned (.int .i64 ((provV h l : Nat) : Int)) ∧ Below w.heap.size w w' := by
  have HBY := Lib.hid (fun W => bytes5_any h W k)
  change Hid (∀ W, Calls Tryd.prog _ #[.agg (hdA h)] W _) at HBY
  show Calls Tryd.prog _ #[.agg (hdA h), _] w _
  have HV : Hid (provV h l = if tgtV h.b = 0 ∨ tgtV l = 0 ∨ tgtV l < tgtV h.b then 30 else if tgtV h.b < ofL (hID h) then 50 else 0) := rfl
  have has := hdA_size k
  have hcb := hdA_b k
  have HT := Lib.hid (fun W => target3_any h.b W k.b)
  have HU := Lib.hid (fun W => target3_any l W hl)
  have HTW := Lib.hid (fun W => rtwice_any (hB h) W (hB_lt k) (by rw [hB_length k]; omega))
  have HBI := Lib.hid (fun W => bits5_any (hID h) W (hID_length h) (hID_lt h))
  change Hid (∀ W, Calls Tryd.prog _ #[.agg (idA (hID h))] W _) at HBI
  change Hid (∀ W, Calls Tryd.prog _ _ W fun e w' => e = .returned (.agg (idA (hID h))) ∧ _) at HTW
  generalize provV h l = P at *
  generalize hdA h = A at *
  generalize ofL (hID h) = o at *
  generalize idA (hID h) = I at *
  generalize strN (hB h) = S at *
  have hb := k.b
  generalize tgtV h.b = t at *
  generalize tgtV l = u at *
  generalize h.b = b at *
  clear k
  have hout : t = 0 ∨ (¬ t = 0 ∧ u = 0) ∨ (¬ t = 0 ∧ ¬ u = 0 ∧ u < t) → Calls Tryd.prog 24 #[.agg A, .int .u32 (l : Int)] w fun e w' => e = .returned (.int .i64 (30 : Int)) ∧ Below w.heap.size w w' := by
    rintro (h0 | ⟨h1, h0⟩ | ⟨h1, h2, h0⟩)
    · have ht0 : decide (t = 0) = true := decide_eq_true h0
      rw [ht0] at HT
      by_cases hu : u = 0
      all_goals
        try have hu0 : decide (u = 0) = true := decide_eq_true hu
        try have hu0 : decide (u = 0) = false := decide_eq_false hu
        rw [hu0] at HU
        clear ht0 hu0 hu h0
        go_enter Tryd.func24, Tryd.ntmps24
        have K0 : Bk (w.alloc (.cells A 26)) w.heap.size 26 A := Bk.new _ _ _
        have c0 := (K0.cell 66).trans hcb
        go_wp2_with fail
        refine (HT.out _).mono ?_
        rintro e w1 ⟨v1, L1, rfl, hL1, B1, hb1⟩
        obtain ⟨s1, c1, rfl, _⟩ := B1.slice
        have B1 := Lib.hid B1
        have hW := Lib.hid (below_step ((Below.refl _ _).alloc (Nat.le_refl _) (.cells A 26)) (by simp) hb1)
        have K := K0.keep hb1
        clear hb1 K0 c0 HT
        go_wp2_with fail
        refine (HU.out _).mono ?_
        rintro e w2 ⟨v2, L2, rfl, hL2, B2, hb2⟩
        obtain ⟨s2, c2, rfl, _⟩ := B2.slice
        have B2 := Lib.hid B2
        have B1 := Lib.hid (B1.out.keep hb2)
        have hW := Lib.hid (below_step hW.out hW.out.size hb2)
        have K := K.keep hb2
        clear hb2 HU
        go_wp2_with fail
        go_ret
        exact ⟨rfl, hW.out⟩
    · have ht0 : decide (t = 0) = false := decide_eq_false h1
      have hu0 : decide (u = 0) = true := decide_eq_true h0
      rw [ht0] at HT
      rw [hu0] at HU
      clear ht0 hu0 h0 h1
      go_enter Tryd.func24, Tryd.ntmps24
      have K0 : Bk (w.alloc (.cells A 26)) w.heap.size 26 A := Bk.new _ _ _
      have c0 := (K0.cell 66).trans hcb
      go_wp2_with fail
      refine (HT.out _).mono ?_
      rintro e w1 ⟨v1, L1, rfl, hL1, B1, hb1⟩
      obtain ⟨s1, c1, rfl, _⟩ := B1.slice
      have B1 := Lib.hid B1
      have hW := Lib.hid (below_step ((Below.refl _ _).alloc (Nat.le_refl _) (.cells A 26)) (by simp) hb1)
      have K := K0.keep hb1
      clear hb1 K0 c0 HT
      go_wp2_with fail
      refine (HU.out _).mono ?_
      rintro e w2 ⟨v2, L2, rfl, hL2, B2, hb2⟩
      obtain ⟨s2, c2, rfl, _⟩ := B2.slice
      have B2 := Lib.hid B2
      have B1 := Lib.hid (B1.out.keep hb2)
      have hW := Lib.hid (below_step hW.out hW.out.size hb2)
      have K := K.keep hb2
      clear hb2 HU
      go_wp2_with fail
      go_ret
      exact ⟨rfl, hW.out⟩
    · have ht0 : decide (t = 0) = false := decide_eq_false h1
      have hu0 : decide (u = 0) = false := decide_eq_false h2
      have hd : decide (u < t) = true := decide_eq_true h0
      rw [ht0] at HT
      rw [hu0] at HU
      clear ht0 hu0 h0 h1 h2
      go_enter Tryd.func24, Tryd.ntmps24
      have K0 : Bk (w.alloc (.cells A 26)) w.heap.size 26 A := Bk.new _ _ _
      have c0 := (K0.cell 66).trans hcb
      go_wp2_with fail
      refine (HT.out _).mono ?_
      rintro e w1 ⟨v1, L1, rfl, hL1, B1, hb1⟩
      obtain ⟨s1, c1, rfl, _⟩ := B1.slice
      have B1 := Lib.hid B1
      have hW := Lib.hid (below_step ((Below.refl _ _).alloc (Nat.le_refl _) (.cells A 26)) (by simp) hb1)
      have K := K0.keep hb1
      clear hb1 K0 c0 HT
      go_wp2_with fail
      refine (HU.out _).mono ?_
      rintro e w2 ⟨v2, L2, rfl, hL2, B2, hb2⟩
      obtain ⟨s2, c2, rfl, _⟩ := B2.slice
      have B2 := Lib.hid B2
      have B1 := Lib.hid (B1.out.keep hb2)
      have hW := Lib.hid (below_step hW.out hW.out.size hb2)
      have K := K.keep hb2
      clear hb2 HU
      have HLS := Lib.hid (less_any _ _ u t L2 L1 w2 B2.out B1.out (by omega) (by omega))
      rw [hd] at HLS
      clear hd
      go_wp2_with fail
      refine HLS.out.mono ?_
      rintro e w3 ⟨rfl, rfl⟩
      go_wp2_with fail
      go_ret
      exact ⟨rfl, hW.out⟩
  have hin : ¬ (t = 0 ∨ u = 0 ∨ u < t) → ∀ r : Nat, r = (if t < o then 50 else 0) → Calls Tryd.prog 24 #[.agg A, .int .u32 (l : Int)] w fun e w' => e = .returned (.int .i64 (r : Int)) ∧ Below w.heap.size w w' := by
    intro hn r hr
    have ht0 : decide (t = 0) = false := decide_eq_false (by omega)
    have hu0 : decide (u = 0) = false := decide_eq_false (by omega)
    have hd : decide (u < t) = false := decide_eq_false (by omega)
    rw [ht0] at HT
    rw [hu0] at HU
    have HR := Lib.hid hr
    clear ht0 hu0 hn hr
    go_enter Tryd.func24, Tryd.ntmps24
    have K0 : Bk (w.alloc (.cells A 26)) w.heap.size 26 A := Bk.new _ _ _
    have c0 := (K0.cell 66).trans hcb
    go_wp2_with fail
    refine (HT.out _).mono ?_
    rintro e w1 ⟨v1, L1, rfl, hL1, B1, hb1⟩
    obtain ⟨s1, c1, rfl, _⟩ := B1.slice
    have B1 := Lib.hid B1
    have hW := Lib.hid (below_step ((Below.refl _ _).alloc (Nat.le_refl _) (.cells A 26)) (by simp) hb1)
    have K := K0.keep hb1
    clear hb1 K0 c0 HT
    go_wp2_with fail
    refine (HU.out _).mono ?_
    rintro e w2 ⟨v2, L2, rfl, hL2, B2, hb2⟩
    obtain ⟨s2, c2, rfl, _⟩ := B2.slice
    have B2 := Lib.hid B2
    have B1 := Lib.hid (B1.out.keep hb2)
    have hW := Lib.hid (below_step hW.out hW.out.size hb2)
    have K := K.keep hb2
    clear hb2 HU
    have HLS := Lib.hid (less_any _ _ u t L2 L1 w2 B2.out B1.out (by omega) (by omega))
    rw [hd] at HLS
    clear hd
    go_wp2_with fail
    refine HLS.out.mono ?_
    rintro e w3 ⟨rfl, hw3⟩
    subst hw3
    go_wp2_with (refine wpList_load_row rfl 26 (.tmp 2) rfl w.heap.size rfl 26 A (0, 0) _ K Tryd.underlying26 rfl (by rw [has]; exact hd_info) ?_)
    refine (HBY.out _).mono ?_
    rintro e w4 ⟨rfl, hb4⟩
    have B1 := Lib.hid (B1.out.keep hb4)
    have hW := Lib.hid (below_step hW.out hW.out.size hb4)
    clear hb4 K B2 HLS
    go_wp2_with fail
    refine (HTW.out _).mono ?_
    rintro e w5 ⟨rfl, hb5⟩
    have B1 := Lib.hid (B1.out.keep hb5)
    have hW := Lib.hid (below_step hW.out hW.out.size hb5)
    clear hb5
    go_wp2_with fail
    refine (HBI.out _).mono ?_
    rintro e w6 ⟨v6, rfl, B6, hb6⟩
    obtain ⟨s6, c6, rfl, _⟩ := B6.slice
    have B1 := Lib.hid (B1.out.keep hb6)
    have hW := Lib.hid (below_step hW.out hW.out.size hb6)
    have HL6 := Lib.hid (less_any _ _ t o L1 256 w6 B1.out B6 (by omega) (by omega))
    clear hb6 B6
    by_cases hto : t < o
    · have hr : r = 50 := by rw [HR.out, if_pos hto]
      rw [decide_eq_true hto] at HL6
      subst hr
      clear hto HR
      go_wp2_with fail
      refine HL6.out.mono ?_
      rintro e w7 ⟨rfl, hw7⟩
      subst hw7
      go_wp2_with fail
      go_ret
      exact ⟨rfl, hW.out⟩
    · have hr : r = 0 := by rw [HR.out, if_neg hto]
      rw [decide_eq_false hto] at HL6
      subst hr
      clear hto HR
      go_wp2_with fail
      refine HL6.out.mono ?_
      rintro e w7 ⟨rfl, hw7⟩
      subst hw7
      go_wp2_with fail
      go_ret
      exact ⟨rfl, hW.out⟩
  rw [HV.out]
  by_cases hc : t = 0 ∨ u = 0 ∨ u < t
  · rw [if_pos hc]
    exact hout (by omega)
  · rw [if_neg hc]
    exact hin hc _ rfl
end Go.Proofs.YtkhiicnahijnoaaDoor
