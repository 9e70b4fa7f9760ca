/-
  Contracts of the document's own: a small number's bits; how many bits a number has.
-/
import Derived.Test.YtkhiicnahijnoaaDoorRcAL
namespace Go.Proofs.YtkhiicnahijnoaaDoor
open Go.RowKit
set_option linter.unusedVariables false

set_option maxRecDepth 100000 in
set_option maxHeartbeats 1000000 in
theorem small_any (x : Nat) (w : World) (hx : x < B64) :
    Calls Tryd.prog 71 #[.int .u64 (x : Int)] w fun e w' => ∃ v, e = .returned v ∧ BX w' v x 256 ∧ Below w.heap.size w w' := by
  have hxM : x < M256 := Nat.lt_of_lt_of_le hx (by rw [B64_pow, M256_pow]; exact Nat.pow_le_pow_right (by omega) (by omega))
  have HO := fun W => of2_any x W hxM
  rw [nv_small x hx] at HO
  have HO := Lib.hid HO
  clear hx hxM
  go_enter Tryd.func71, Tryd.ntmps71
  go_wp2_with fail
  refine (HO.out _).mono ?_
  rintro e w1 ⟨v, rfl, hB, hb⟩
  have HB := Lib.hid hB
  obtain ⟨s, c, rfl, _⟩ := hB.slice
  have hb := Lib.hid hb
  clear hB
  go_wp2_with fail
  go_ret
  exact ⟨_, rfl, HB.out, hb.out⟩
set_option maxRecDepth 100000 in
set_option maxHeartbeats 1000000 in
theorem length_any (v : Value) (X m : Nat) (w : World) (h : BX w v X m) (hm : m ≤ 100000) :
    Calls Tryd.prog 72 #[v] w fun e w' => e = .returned (.int .i64 (lg X : Int)) ∧ w' = w := by
  have HX := Lib.hid h
  obtain ⟨s, c, rfl, hmc⟩ := h.slice
  have HL := Lib.hid (fun k h1 h2 => lg_eq X k h1 h2)
  generalize lg X = l at *
  clear h
  go_enter Tryd.func72, Tryd.ntmps72
  go_wp2_with fail
  go_loopw [3] (fun i wr => ∃ k : Nat, k ≤ m ∧ i = .int .i64 k ∧ Hid (X < 2 ^ k) ∧ wr = w) (fun i _ => (intOf i).toNat)
  case atStart => exact ⟨m, Nat.le_refl _, rfl, HX.out.lt, rfl⟩
  case round =>
    obtain ⟨k, hk, rfl, He, rfl⟩ := hrel
    cases k with
    | zero =>
      have hd : decide ((0 : Int) < ((0 : Nat) : Int)) = false := by decide
      have hl := HL.out 0 He.out (.inl rfl)
      subst hl
      go_wp2_with fail
      go_ret
      exact ⟨rfl, rfl⟩
    | succ k =>
      have hd : decide ((0 : Int) < ((k + 1 : Nat) : Int)) = true := decide_eq_true (by omega)
      have q1 : IntKind.i64.wrap (((k + 1 : Nat) : Int) - 1) = (k : Int) := by rw [show (((k + 1 : Nat) : Int) - 1) = (k : Int) by omega]; exact IntWalk.i64_in _ (by omega)
      obtain ⟨b, o, rfl, hbg, hcb⟩ := HX.out.at_ k (by omega)
      have hbt := bit_toNat X k
      have hlt := He.out
      have hdm := Nat.div_add_mod X (2 ^ k)
      have hml := Nat.mod_lt X (Nat.two_pow_pos k)
      have hq2 : X / 2 ^ k < 2 := by rw [Nat.div_lt_iff_lt_mul (Nat.two_pow_pos k), ← Nat.pow_succ']; exact hlt
      generalize bit X k = β at *
      cases β
      · have hlow : X < 2 ^ k := by
          have e : X / 2 ^ k = 0 := by have h0 : 0 = X / 2 ^ k % 2 := hbt; clear hdm hml; generalize X / 2 ^ k = Q at *; omega
          rw [e, Nat.mul_zero, Nat.zero_add] at hdm
          omega
        have HLO := Lib.hid hlow
        clear hbt hlt hdm hml hq2 hlow
        go_wp2_with fail
        go_roundw
        case rel =>
          first | exact ⟨k, by omega, rfl, HLO, rfl⟩ | exact ⟨k, by omega, rfl, HLO, trivial⟩ | ((repeat apply Exists.intro); exact ⟨⟨k, by omega, rfl, HLO, rfl⟩, rfl⟩)
        case measure => simp [intOf] <;> omega
      · have hge : 2 ^ k ≤ X := by
          have e : X / 2 ^ k = 1 := by have h0 : 1 = X / 2 ^ k % 2 := hbt; clear hdm hml; generalize X / 2 ^ k = Q at *; omega
          rw [e, Nat.mul_one] at hdm
          omega
        have hl := HL.out (k + 1) hlt (.inr hge)
        clear hbt hlt hdm hml hq2 hge
        subst hl
        go_wp2_with fail
        go_ret
        exact ⟨rfl, rfl⟩
end Go.Proofs.YtkhiicnahijnoaaDoor
