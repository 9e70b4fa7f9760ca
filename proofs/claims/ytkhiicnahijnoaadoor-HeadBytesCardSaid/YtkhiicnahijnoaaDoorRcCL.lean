/-
  Contracts of the document's own: what short bits mean; the short form; how much work.
-/
import Derived.Test.YtkhiicnahijnoaaDoorRcBL
namespace Go.Proofs.YtkhiicnahijnoaaDoor
open Go.RowKit
set_option linter.unusedVariables false

theorem big256 : 2 ^ 256 = M256 := M256_pow.symm
set_option maxRecDepth 100000 in
set_option maxHeartbeats 2000000 in
theorem target3_any (b : Nat) (w : World) (hb : b < 4294967296) :
    Calls Tryd.prog 48 #[.int .u32 (b : Int)] w fun e w' => ∃ v L, e = .returned (.tuple #[v, .bool (!decide (tgtV b = 0))]) ∧ L ≤ 2300 ∧ BX w' v (tgtV b) L ∧ Below w.heap.size w w' := by
  have HN := tgt_none b
  have HS := tgt_some b
  have ht : Hid (tw b = shN (b % 16777216) (8 * (((b / 16777216 : Nat) : Int) - 3))) := rfl
  have hx : b % 16777216 < 16777216 := Nat.mod_lt _ (by omega)
  have hy : b / 16777216 < 256 := by omega
  have e1 : ((b : Int) / 16777216) = ((b / 16777216 : Nat) : Int) := by omega
  have e2 : ((b : Int) % 16777216) = ((b % 16777216 : Nat) : Int) := by omega
  generalize tw b = t at *
  generalize tgtV b = T at *
  generalize b % 16777216 = x at *
  generalize b / 16777216 = y at *
  have hxB : x < B64 := by rw [B64_pow]; exact Nat.lt_of_lt_of_le (show x < 2 ^ 24 by omega) (Nat.pow_le_pow_right (by omega) (by omega))
  have hw1 : IntKind.i64.wrap ((y : Int) - 3) = (y : Int) - 3 := IntWalk.i64_in _ (by omega)
  have hw2 : IntKind.i64.wrap (8 * ((y : Int) - 3)) = 8 * ((y : Int) - 3) := IntWalk.i64_in _ (by omega)
  by_cases h1 : 8388608 ≤ x
  · have hT := HN (.inl h1)
    subst hT
    have hd : decide ((8388608 : Int) ≤ (x : Int)) = true := decide_eq_true (by omega)
    rw [show (!decide ((0 : Nat) = 0)) = false from rfl]
    clear HN HS ht hxB
    go_enter Tryd.func48, Tryd.ntmps48
    go_wp2_with fail
    refine bodyPost_ret (results_tmp2 rfl _ _ _) rfl ⟨_, 0, rfl, by omega, BX.nil _, Below.refl _ _⟩
  · have hd : decide ((8388608 : Int) ≤ (x : Int)) = false := decide_eq_false (by omega)
    by_cases h0 : x = 0
    · have hT := HN (.inr h0)
      subst hT
      rw [show (!decide ((0 : Nat) = 0)) = false from rfl]
      subst h0
      clear HN HS ht hxB
      go_enter Tryd.func48, Tryd.ntmps48
      go_wp2_with fail
      refine bodyPost_ret (results_tmp2 rfl _ _ _) rfl ⟨_, 0, rfl, by omega, BX.nil _, Below.refl _ _⟩
    · obtain ⟨HA, HB⟩ := HS (by omega) h0
      have hd0 : decide ((x : Int) = 0) = false := decide_eq_false (by omega)
      have HSM := Lib.hid (fun W => small_any x W hxB)
      have HSH := Lib.hid (fun v W (h : BX W v x 256) => shift_any v x 256 (8 * ((y : Int) - 3)) W h (by omega) (by omega) (by omega))
      rw [← ht.out] at HSH
      obtain ⟨L, hL⟩ : ∃ L, L = (((256 : Nat) : Int) + 8 * ((y : Int) - 3)).toNat := ⟨_, rfl⟩
      rw [← hL] at HSH
      have hL2 : L ≤ 2300 := by omega
      have HLE := Lib.hid (fun v W (h : BX W v t L) => length_any v t L W h (by omega))
      clear hL ht HN HS
      generalize lg t = l at *
      by_cases h3 : l = 0
      · have hT := HA (.inl h3)
        subst hT
        rw [show (!decide ((0 : Nat) = 0)) = false from rfl]
        have hdl : decide ((l : Int) = 0) = true := decide_eq_true (by omega)
        subst h3
        clear HA HB
        go_enter Tryd.func48, Tryd.ntmps48
        go_wp2_with fail
        refine (HSM.out _).mono ?_
        rintro e w1 ⟨v1, rfl, B1, hb1⟩
        have HS2 := Lib.hid (HSH.out v1 w1 B1)
        obtain ⟨s1, c1, rfl, _⟩ := B1.slice
        have hW1 := Lib.hid hb1
        clear hb1 B1 HSM HSH
        go_wp2_with fail
        refine HS2.out.mono ?_
        rintro e w2 ⟨v2, rfl, B2, hb2⟩
        have HL2 := Lib.hid (HLE.out v2 w2 B2)
        obtain ⟨s2, c2, rfl, _⟩ := B2.slice
        have hW2 := Lib.hid (hW1.out.trans (hb2.mono hW1.out.size))
        clear hb2 B2 HS2
        go_wp2_with fail
        refine HL2.out.mono ?_
        rintro e w3 ⟨rfl, h3⟩
        subst h3
        go_wp2_with fail
        refine bodyPost_ret (results_tmp2 rfl _ _ _) rfl ⟨_, 0, rfl, by omega, BX.nil _, hW2.out⟩
      · have hdl : decide ((l : Int) = 0) = false := decide_eq_false (by omega)
        have hdl' : decide (l = 0) = false := decide_eq_false (by omega)
        by_cases h4 : 256 < l
        · have hT := HA (.inr h4)
          subst hT
          rw [show (!decide ((0 : Nat) = 0)) = false from rfl]
          have hdm : decide ((256 : Int) < (l : Int)) = true := decide_eq_true (by omega)
          clear HA HB
          go_enter Tryd.func48, Tryd.ntmps48
          go_wp2_with fail
          refine (HSM.out _).mono ?_
          rintro e w1 ⟨v1, rfl, B1, hb1⟩
          have HS2 := Lib.hid (HSH.out v1 w1 B1)
          obtain ⟨s1, c1, rfl, _⟩ := B1.slice
          have hW1 := Lib.hid hb1
          clear hb1 B1 HSM HSH
          go_wp2_with fail
          refine HS2.out.mono ?_
          rintro e w2 ⟨v2, rfl, B2, hb2⟩
          have HL2 := Lib.hid (HLE.out v2 w2 B2)
          obtain ⟨s2, c2, rfl, _⟩ := B2.slice
          have hW2 := Lib.hid (hW1.out.trans (hb2.mono hW1.out.size))
          clear hb2 B2 HS2
          go_wp2_with fail
          refine HL2.out.mono ?_
          rintro e w3 ⟨rfl, h3⟩
          subst h3
          go_wp2_with fail
          refine HL2.out.mono ?_
          rintro e w4 ⟨rfl, h4⟩
          subst h4
          go_wp2_with fail
          refine bodyPost_ret (results_tmp2 rfl _ _ _) rfl ⟨_, 0, rfl, by omega, BX.nil _, hW2.out⟩
        · obtain ⟨hT, hT0, _⟩ := HB h3 (by omega)
          subst hT
          rw [show (!decide (T = 0)) = true by rw [decide_eq_false hT0]; rfl]
          have hdm : decide ((256 : Int) < (l : Int)) = false := decide_eq_false (by omega)
          clear HA HB hT0
          go_enter Tryd.func48, Tryd.ntmps48
          go_wp2_with fail
          refine (HSM.out _).mono ?_
          rintro e w1 ⟨v1, rfl, B1, hb1⟩
          have HS2 := Lib.hid (HSH.out v1 w1 B1)
          obtain ⟨s1, c1, rfl, _⟩ := B1.slice
          have hW1 := Lib.hid hb1
          clear hb1 B1 HSM HSH
          go_wp2_with fail
          refine HS2.out.mono ?_
          rintro e w2 ⟨v2, rfl, B2, hb2⟩
          have HL2 := Lib.hid (HLE.out v2 w2 B2)
          obtain ⟨s2, c2, rfl, _⟩ := B2.slice
          have hW2 := Lib.hid (hW1.out.trans (hb2.mono hW1.out.size))
          have B2 := Lib.hid B2
          clear hb2 HS2
          go_wp2_with fail
          refine HL2.out.mono ?_
          rintro e w3 ⟨rfl, h3⟩
          subst h3
          go_wp2_with fail
          refine HL2.out.mono ?_
          rintro e w4 ⟨rfl, h4⟩
          subst h4
          go_wp2_with fail
          refine bodyPost_ret (results_tmp2 rfl _ _ _) rfl ⟨_, L, rfl, hL2, B2.out, hW2.out⟩
end Go.Proofs.YtkhiicnahijnoaaDoor
