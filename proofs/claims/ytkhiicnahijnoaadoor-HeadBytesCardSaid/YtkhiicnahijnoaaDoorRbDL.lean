/-
  Contracts of the document's Shift, Less, Sub, Add.
-/
import Derived.Test.YtkhiicnahijnoaaDoorRbB
import Derived.Laws.ResultCell
namespace Go.Proofs.YtkhiicnahijnoaaDoor
open Go.RowKit
set_option linter.unusedVariables false

theorem atI_nat (X k : Nat) : atI X (k : Int) = bit X k := by
  unfold atI
  rw [decide_eq_true (by omega)]
  rfl
/-- A number so many bits to the left, or to the right. -/
def shN (X : Nat) (n : Int) : Nat := if 0 ≤ n then X * 2 ^ n.toNat else X / 2 ^ (-n).toNat
theorem shN_bit (X k : Nat) (n : Int) : atI X ((k : Int) - n) = bit (shN X n) k := by
  unfold shN
  by_cases h : 0 ≤ n
  · obtain ⟨a, rfl⟩ : ∃ a : Nat, n = (a : Int) := ⟨n.toNat, by omega⟩
    rw [if_pos h, Int.toNat_natCast, bit_test, Nat.mul_comm, Nat.testBit_two_pow_mul]
    by_cases hk : a ≤ k
    · rw [decide_eq_true hk, Bool.true_and, show ((k : Int) - (a : Int)) = ((k - a : Nat) : Int) by omega, atI_nat, bit_test]
    · rw [decide_eq_false hk, Bool.false_and]
      unfold atI
      rw [decide_eq_false (by omega)]
      rfl
  · obtain ⟨a, ha⟩ : ∃ a : Nat, -n = (a : Int) := ⟨(-n).toNat, by omega⟩
    rw [if_neg h, show (-n).toNat = a by omega, bit_test, Nat.testBit_div_two_pow, show ((k : Int) - n) = ((k + a : Nat) : Int) by omega, atI_nat, bit_test]
theorem shN_lt (X m : Nat) (n : Int) (h : X < 2 ^ m) : shN X n < 2 ^ ((m : Int) + n).toNat := by
  unfold shN
  by_cases hn : 0 ≤ n
  · obtain ⟨a, rfl⟩ : ∃ a : Nat, n = (a : Int) := ⟨n.toNat, by omega⟩
    rw [if_pos hn, Int.toNat_natCast, show ((m : Int) + (a : Int)).toNat = m + a by omega, Nat.pow_add]
    exact Nat.mul_lt_mul_of_pos_right h (Nat.two_pow_pos a)
  · obtain ⟨a, ha⟩ : ∃ a : Nat, -n = (a : Int) := ⟨(-n).toNat, by omega⟩
    rw [if_neg hn, show (-n).toNat = a by omega]
    by_cases hm : a ≤ m
    · rw [show ((m : Int) + n).toNat = m - a by omega]
      rw [Nat.div_lt_iff_lt_mul (Nat.two_pow_pos a), ← Nat.pow_add, Nat.sub_add_cancel hm]
      exact h
    · rw [Nat.div_eq_of_lt (Nat.lt_of_lt_of_le h (Nat.pow_le_pow_right (by omega) (by omega)))]
      exact Nat.two_pow_pos _
set_option maxRecDepth 100000 in
set_option maxHeartbeats 2000000 in
theorem shift_any (v : Value) (X m : Nat) (n : Int) (w : World) (h : BX w v X m) (hm : m ≤ 100000) (h0 : -100000 ≤ n) (h1 : n ≤ 100000) :
    Calls Tryd.prog 70 #[v, .int .i64 n] w fun e w' => ∃ v', e = .returned v' ∧ BX w' v' (shN X n) ((m : Int) + n).toNat ∧ Below w.heap.size w w' := by
  have HB := Lib.hid h
  obtain ⟨s, c, rfl, hmc⟩ := h.slice
  have HL := Lib.hid (shN_lt X m n h.lt)
  have HBI := Lib.hid (fun k => shN_bit X k n)
  generalize shN X n = Y at *
  obtain ⟨M, hM⟩ : ∃ M, M = ((m : Int) + n).toNat := ⟨_, rfl⟩
  rw [← hM] at HL ⊢
  have HMM := Lib.hid hM
  have hMl : M ≤ 200000 := by omega
  have q0 : IntKind.i64.wrap ((m : Int) + n) = (m : Int) + n := IntWalk.i64_in _ (by omega)
  clear h hM
  go_enter Tryd.func70, Tryd.ntmps70
  go_wp2_with fail
  go_loopw [6, 5] (fun i out wr => ∃ k : Nat, k ≤ M ∧ i = .int .i64 k ∧ Hid (Below w.heap.size w wr) ∧ Hid (MineO wr w.heap.size out (bitL Y k))) (fun i _ _ => M - (intOf i).toNat)
  case atStart => exact ⟨0, Nat.zero_le _, rfl, Below.refl _ _, .inl ⟨rfl, rfl⟩⟩
  case round =>
    obtain ⟨k, hk, rfl, hWr, Mr⟩ := hrel
    obtain ⟨s5, c5, e5⟩ := Mr.out.slice
    rw [bitL_length] at e5
    subst e5
    by_cases hlt : k < M
    · have hd : decide ((k : Int) < (m : Int) + n) = true := decide_eq_true (by have := HMM.out; omega)
      have q1 : IntKind.i64.wrap ((k : Int) - n) = (k : Int) - n := IntWalk.i64_in _ (by omega)
      have HAT := Lib.hid (at_any _ X m ((k : Int) - n) wr (HB.out.keep hWr.out))
      have hbi := HBI.out k
      obtain ⟨s6, c6, W6, hrun, M6, B6⟩ := appO _ (bit Y k) _ w.heap.size wr Mr.out hWr.out.size (by rw [bitL_length]; omega)
      rw [bitL_length] at hrun M6
      rw [← bitL_succ] at M6
      have hW6 := Lib.hid (hWr.out.trans B6)
      have M6 := Lib.hid M6
      have HAT : Hid (Calls Tryd.prog 73 #[.slice s m c, .int .i64 ((k : Int) - n)] wr fun e w' => e = .returned (.bool (bit Y k)) ∧ w' = wr) := by rw [← hbi]; exact HAT
      generalize bit Y k = β at *
      clear hbi Mr
      go_wp2_with fail
      refine HAT.out.mono ?_
      rintro e w5 ⟨rfl, h5⟩
      subst h5
      go_wp2_with (at_builtin; refine wpList_appO (v1 := .slice s5 k c5) (v2 := .slice (some ⟨w5.heap.size, 0, none⟩) 1 1) (v := .slice s6 (k + 1) c6) rfl (.tmp 15) (.tmp 21) rfl rfl rfl rfl hrun ?_)
      go_roundw
      case rel =>
        have hi : Value.int .i64 ((k : Int) + 1) = .int .i64 ((k + 1 : Nat) : Int) := by go_num
        first | exact ⟨k + 1, by omega, hi, hW6, M6⟩ | ((repeat apply Exists.intro); exact ⟨⟨k + 1, by omega, hi, hW6, M6⟩, rfl⟩)
      case measure => simp [intOf] <;> omega
    · have hkm : k = M := by omega
      have hd : decide ((k : Int) < (m : Int) + n) = false := decide_eq_false (by have := HMM.out; omega)
      have HK := Lib.hid hkm
      clear hlt hkm
      go_wp2_with fail
      go_ret
      refine ⟨_, rfl, ?_, hWr.out⟩
      have h := Mr.out.bx
      have e : Y % 2 ^ k = Y := by rw [HK.out]; exact Nat.mod_eq_of_lt HL.out
      rw [valB_bitL, bitL_length, e] at h
      rw [← HK.out]
      exact h
set_option maxRecDepth 100000 in
set_option maxHeartbeats 2000000 in
theorem less_any (u v : Value) (X Y m n : Nat) (w : World) (hx : BX w u X m) (hy : BX w v Y n) (hm : m ≤ 100000) (hn : n ≤ 100000) :
    Calls Tryd.prog 49 #[u, v] w fun e w' => e = .returned (.bool (decide (X < Y))) ∧ w' = w := by
  have HX := Lib.hid hx
  have HY := Lib.hid hy
  obtain ⟨s, c, rfl, hmc⟩ := hx.slice
  obtain ⟨s', c', rfl, hmc'⟩ := hy.slice
  have HS := Lib.hid (show X / 2 ^ (max m n) = Y / 2 ^ (max m n) by rw [Nat.div_eq_of_lt (Nat.lt_of_lt_of_le hx.lt (Nat.pow_le_pow_right (by omega) (Nat.le_max_left _ _))), Nat.div_eq_of_lt (Nat.lt_of_lt_of_le hy.lt (Nat.pow_le_pow_right (by omega) (Nat.le_max_right _ _)))])
  have q0 : IntKind.i64.wrap (max (m : Int) (n : Int) - 1) = max (m : Int) (n : Int) - 1 := IntWalk.i64_in _ (by omega)
  obtain ⟨D, hD⟩ : ∃ D, D = decide (X < Y) := ⟨_, rfl⟩
  rw [← hD]
  have HD := Lib.hid hD
  clear hx hy hD
  go_enter Tryd.func49, Tryd.ntmps49
  go_wp2_with fail
  go_loopw [5] (fun i wr => ∃ p : Nat, p ≤ (max m n) ∧ i = .int .i64 ((p : Int) - 1) ∧ Hid (X / 2 ^ p = Y / 2 ^ p) ∧ wr = w) (fun i _ => (intOf i + 1).toNat)
  case atStart =>
    have e : Value.int .i64 (max (m : Int) (n : Int) - 1) = .int .i64 ((((max m n) : Nat) : Int) - 1) := congrArg (Value.int .i64) (by omega)
    exact ⟨(max m n), Nat.le_refl _, e, HS.out, rfl⟩
  case round =>
    obtain ⟨p, hp, rfl, He, rfl⟩ := hrel
    clear q0
    cases p with
    | zero =>
      rw [show (((0 : Nat) : Int) - 1) = -1 from rfl]
      have hd : decide ((0 : Int) ≤ -1) = false := by decide
      have hDf : D = false := by
        have h := He.out
        rw [Nat.pow_zero, Nat.div_one, Nat.div_one] at h
        rw [HD.out, decide_eq_false (by omega)]
      go_wp2_with fail
      go_ret
      exact ⟨by rw [hDf]; rfl, rfl⟩
    | succ k =>
      rw [show (((k + 1 : Nat) : Int) - 1) = (k : Int) by omega]
      have hd : decide ((0 : Int) ≤ (k : Int)) = true := decide_eq_true (by omega)
      have q1 : IntKind.i64.wrap ((k : Int) - 1) = (k : Int) - 1 := IntWalk.i64_in _ (by omega)
      have HA := at_any _ X m (k : Int) wr HX.out
      have HB := at_any _ Y n (k : Int) wr HY.out
      rw [atI_nat] at HA HB
      have bx := bit_toNat X k
      have bY := bit_toNat Y k
      have h2 := He.out
      rw [Nat.pow_succ, ← Nat.div_div_eq_div_mul, ← Nat.div_div_eq_div_mul] at h2
      have hsame : bit X k = bit Y k → X / 2 ^ k = Y / 2 ^ k := by
        intro e
        rw [e] at bx
        omega
      have hdiff : bit X k = !bit Y k → decide (X < Y) = bit Y k := by
        intro e
        have hX := Nat.div_add_mod X (2 ^ k)
        have hY := Nat.div_add_mod Y (2 ^ k)
        have lX := Nat.mod_lt X (Nat.two_pow_pos k)
        have lY := Nat.mod_lt Y (Nat.two_pow_pos k)
        cases hb : bit Y k
        · rw [hb] at e bY
          rw [e] at bx
          have bx : 1 = X / 2 ^ k % 2 := bx
          have bY : 0 = Y / 2 ^ k % 2 := bY
          have e1 : X / 2 ^ k = Y / 2 ^ k + 1 := by omega
          rw [e1, Nat.mul_add, Nat.mul_one] at hX
          rw [decide_eq_false (by omega)]
        · rw [hb] at e bY
          rw [e] at bx
          have bx : 0 = X / 2 ^ k % 2 := bx
          have bY : 1 = Y / 2 ^ k % 2 := bY
          have e1 : Y / 2 ^ k = X / 2 ^ k + 1 := by omega
          rw [e1, Nat.mul_add, Nat.mul_one] at hY
          rw [decide_eq_true (by omega)]
      have HSA := Lib.hid hsame
      have HDI := Lib.hid hdiff
      clear hsame hdiff bx bY h2
      generalize bit X k = x at *
      generalize bit Y k = y at *
      have HA := Lib.hid HA
      have HB := Lib.hid HB
      cases x <;> cases y
      all_goals
        go_wp2_with fail
        refine HA.out.mono ?_
        rintro e w5 ⟨rfl, h5⟩
        subst h5
        go_wp2_with fail
        refine HB.out.mono ?_
        rintro e w6 ⟨rfl, h6⟩
        subst h6
        go_wp2_with fail
      · go_roundw
        case rel =>
          have h := HSA.out (by simp)
          first | exact ⟨k, by omega, rfl, h, rfl⟩ | exact ⟨k, by omega, rfl, h, trivial⟩ | ((repeat apply Exists.intro); exact ⟨⟨k, by omega, rfl, h, rfl⟩, rfl⟩)
        case measure => simp [intOf] <;> omega
      · refine HB.out.mono ?_
        rintro e w7 ⟨rfl, h7⟩
        subst h7
        go_wp2_with fail
        go_ret
        exact ⟨by rw [HD.out, HDI.out (by simp)]; rfl, rfl⟩
      · refine HB.out.mono ?_
        rintro e w7 ⟨rfl, h7⟩
        subst h7
        go_wp2_with fail
        go_ret
        exact ⟨by rw [HD.out, HDI.out (by simp)]; rfl, rfl⟩
      · go_roundw
        case rel =>
          have h := HSA.out (by simp)
          first | exact ⟨k, by omega, rfl, h, rfl⟩ | exact ⟨k, by omega, rfl, h, trivial⟩ | ((repeat apply Exists.intro); exact ⟨⟨k, by omega, rfl, h, rfl⟩, rfl⟩)
        case measure => simp [intOf] <;> omega
end Go.Proofs.YtkhiicnahijnoaaDoor
