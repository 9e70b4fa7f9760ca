/-
  Plain mathematics of the document's Mul and Div, bit by bit; the contract of its Mul.
-/
import Derived.Test.YtkkkfcdoilojmaaRbE
namespace Go.Proofs.Ytkkkfcdoilojmaa
open Go.RowKit
set_option linter.unusedVariables false

theorem valB_falses (n : Nat) : valB (falses n) = 0 := by
  unfold falses
  induction n with
  | zero => rfl
  | succ n ih => rw [List.replicate_succ, valB, ih]; rfl
theorem valB_set (l : List Bool) (i : Nat) (h : i < l.length) (hf : l.getD i false = false) : valB (l.set i true) = valB l + 2 ^ i := by
  induction l generalizing i with
  | nil => exact absurd h (by simp)
  | cons b r ih =>
    cases i with
    | zero =>
      have hb : b = false := hf
      subst hb
      rw [List.set_cons_zero, valB, valB]
      simp
      omega
    | succ i =>
      have h1 := ih i (by simpa using h) (by simpa [List.getD] using hf)
      rw [List.set_cons_succ, valB, valB, h1, Nat.pow_succ]
      omega
theorem bit_high (q i : Nat) : bit (q * 2 ^ (i + 1)) i = false := by
  unfold bit
  rw [Nat.pow_succ, Nat.mul_comm (2 ^ i) 2, ← Nat.mul_assoc, Nat.mul_div_cancel _ (Nat.two_pow_pos i)]
  rw [decide_eq_false (by omega)]
theorem div_next (X Y i l q : Nat) (hY : 0 < Y) (hl : l = X / 2 ^ (i + 1) % Y) (hq : q = X / 2 ^ (i + 1) / Y) :
    (2 * l + (bit X i).toNat < Y → X / 2 ^ i % Y = 2 * l + (bit X i).toNat ∧ X / 2 ^ i / Y = 2 * q) ∧
    (Y ≤ 2 * l + (bit X i).toNat → X / 2 ^ i % Y = 2 * l + (bit X i).toNat - Y ∧ X / 2 ^ i / Y = 2 * q + 1 ∧ 2 * l + (bit X i).toNat - Y < Y) := by
  have e1 : X / 2 ^ i = 2 * (X / 2 ^ (i + 1)) + (bit X i).toNat := by
    rw [bit_toNat, Nat.pow_succ, ← Nat.div_div_eq_div_mul]
    omega
  have e2 : X / 2 ^ (i + 1) = Y * q + l := by rw [hl, hq, Nat.div_add_mod]
  have hlt : l < Y := by rw [hl]; exact Nat.mod_lt _ hY
  have hb : (bit X i).toNat ≤ 1 := by cases bit X i <;> decide
  generalize (bit X i).toNat = β at *
  generalize X / 2 ^ i = Z at *
  generalize X / 2 ^ (i + 1) = Z2 at *
  have e3 : Z = Y * (2 * q) + (2 * l + β) := by
    rw [e1, e2, Nat.mul_add, Nat.mul_left_comm Y 2 q]
    omega
  refine ⟨fun h => ?_, fun h => ?_⟩
  · rw [e3, Nat.mul_add_mod, Nat.mod_eq_of_lt h, Nat.mul_add_div hY, Nat.div_eq_of_lt h]
    exact ⟨rfl, rfl⟩
  · have e4 : Z = Y * (2 * q + 1) + (2 * l + β - Y) := by
      rw [e3, Nat.mul_add Y (2 * q) 1]
      omega
    have hs : 2 * l + β - Y < Y := by omega
    rw [e4, Nat.mul_add_mod, Nat.mod_eq_of_lt hs, Nat.mul_add_div hY, Nat.div_eq_of_lt hs]
    exact ⟨rfl, rfl, hs⟩
theorem mul_next (X Y k : Nat) : X * (Y % 2 ^ (k + 1)) = X * (Y % 2 ^ k) + (if bit Y k then X * 2 ^ k else 0) := by
  rw [mod_next, Nat.mul_add]
  cases bit Y k
  · simp
  · simp
theorem shN_nat (X k : Nat) : shN X (k : Int) = X * 2 ^ k := by
  unfold shN
  rw [if_pos (by omega), Int.toNat_natCast]
theorem BX.nil (w : World) : BX w (.slice none 0 0) 0 0 := MineO.bx (lo := 0) (bs := []) (.inl ⟨rfl, rfl⟩)
set_option maxRecDepth 100000 in
set_option maxHeartbeats 2000000 in
theorem mul2_any (u v : Value) (X Y m n : Nat) (w : World) (hx : BX w u X m) (hy : BX w v Y n) (hm : m ≤ 10000) (hn : n ≤ 10000) :
    Calls Try.prog 10 #[u, v] w fun e w' => ∃ v' L, e = .returned v' ∧ L ≤ m + n ∧ BX w' v' (X * Y) L ∧ Below w.heap.size w w' := by
  have HX := Lib.hid hx
  have HY := Lib.hid hy
  have HEND : Hid (∀ k, k = n → X * (Y % 2 ^ k) = X * Y) := fun k hk => by rw [hk, Nat.mod_eq_of_lt hy.lt]
  have HMN := Lib.hid (mul_next X Y)
  obtain ⟨s, c, rfl, hmc⟩ := hx.slice
  obtain ⟨s', c', rfl, hmc'⟩ := hy.slice
  clear hx hy
  go_enter Try.func10, Try.ntmps10
  go_wp2_with fail
  go_loopw [6, 5] (fun i out wr => ∃ k L : Nat, k ≤ n ∧ i = .int .i64 k ∧ Hid (L ≤ m + k) ∧ Hid (Below w.heap.size w wr) ∧ Hid (BX wr out (X * (Y % 2 ^ k)) L)) (fun i _ _ => n - (intOf i).toNat)
  case atStart => exact ⟨0, 0, Nat.zero_le _, rfl, Nat.zero_le _, Below.refl _ _, by show BX _ _ _ _; rw [Nat.pow_zero, Nat.mod_one, Nat.mul_zero]; exact BX.nil _⟩
  case round =>
    obtain ⟨k, L, hk, rfl, HL, hWr, Mr⟩ := hrel
    obtain ⟨s5, c5, rfl, _⟩ := Mr.out.slice
    by_cases hlt : k < n
    · have hd : decide (k < n) = true := decide_eq_true (by omega)
      have HXr := HX.out.keep hWr.out
      have HYr := HY.out.keep hWr.out
      obtain ⟨bb, oo, rfl, hbl, hcell⟩ := HYr.at_ k hlt
      have hnext := HMN.out k
      generalize bit Y k = β at *
      cases β
      · have hnext := Lib.hid hnext
        clear HXr HYr
        go_wp2_with fail
        go_roundw
        case rel =>
          have hi : Value.int .i64 ((k : Int) + 1) = .int .i64 ((k + 1 : Nat) : Int) := by go_num
          have M2 : Hid (BX wr (.slice s5 L c5) (X * (Y % 2 ^ (k + 1))) L) := by
            have e := hnext.out
            rw [if_neg (by simp), Nat.add_zero] at e
            rw [e]
            exact Mr
          have hL2 : Hid (L ≤ m + (k + 1)) := by have := HL.out; show _ ≤ _; omega
          first | exact ⟨k + 1, L, by omega, hi, hL2, hWr, M2⟩ | ((repeat apply Exists.intro); exact ⟨⟨k + 1, L, by omega, hi, hL2, hWr, M2⟩, rfl⟩)
        case measure => simp [intOf] <;> omega
      · have hnext := Lib.hid hnext
        have HS := Lib.hid (shift_any _ X m (k : Int) wr HXr (by omega) (by omega) (by omega))
        clear HXr HYr
        go_wp2_with fail
        refine HS.out.mono ?_
        rintro e w5 ⟨v5, rfl, B5, hb5⟩
        rw [shN_nat, show ((m : Int) + (k : Int)).toNat = m + k by omega] at B5
        obtain ⟨s7, c7, rfl, _⟩ := B5.slice
        have HA := Lib.hid (add2_any _ _ _ _ _ _ w5 (Mr.out.keep hb5) B5 (by have := HL.out; omega) (by omega))
        have hW5 := Lib.hid (hWr.out.trans (hb5.mono hWr.out.size))
        clear HS hb5 B5
        go_wp2_with fail
        refine HA.out.mono ?_
        rintro e w6 ⟨v6, rfl, B6, hb6⟩
        have hW6 := Lib.hid (hW5.out.trans (hb6.mono hW5.out.size))
        obtain ⟨s8, c8, rfl, _⟩ := B6.slice
        have B6 := Lib.hid B6
        clear HA hb6
        go_wp2_with fail
        go_roundw
        case rel =>
          have hi : Value.int .i64 ((k : Int) + 1) = .int .i64 ((k + 1 : Nat) : Int) := by go_num
          have e := hnext.out
          rw [if_pos trivial] at e
          have M2 := B6.out
          rw [← e] at M2
          have M2 := Lib.hid M2
          have hL2 : Hid (max L (m + k) + 1 ≤ m + (k + 1)) := by have := HL.out; show _ ≤ _; omega
          first | exact ⟨k + 1, _, by omega, hi, hL2, hW6, M2⟩ | ((repeat apply Exists.intro); exact ⟨⟨k + 1, _, by omega, hi, hL2, hW6, M2⟩, rfl⟩)
        case measure => simp [intOf] <;> omega
    · have hkm : k = n := by omega
      have hd : decide (k < n) = false := decide_eq_false (by omega)
      have HK := Lib.hid hkm
      clear hlt hkm
      go_wp2_with fail
      go_ret
      have h := Mr.out
      rw [HEND.out k HK.out] at h
      exact ⟨_, L, rfl, by have := HL.out; have := HK.out; omega, h, hWr.out⟩
end Go.Proofs.Ytkkkfcdoilojmaa
