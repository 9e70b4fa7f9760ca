/-
  The document's answer for layer 6: counts and texts as strings; the number that bytes are.
-/
import Derived.Test.YtccgfjkahdbboaaDoorWfA
namespace Go.Proofs.YtccgfjkahdbboaaDoor
open Go.RowKit
set_option linter.unusedVariables false
set_option linter.unusedSimpArgs false

set_option maxRecDepth 100000 in
set_option maxHeartbeats 2000000 in
theorem rfcount_any (n : Nat) (w : World) (hn : n < 18446744073709551616) :
    Calls Tryd.prog 28 #[.int .u64 (n : Int)] w fun e w' => e = .returned (.string (strN (countL n))) ∧ Below w.heap.size w w' := by
  have s1 : (⟨#[253]⟩ : ByteArray) = strN [253] := by decide +kernel
  have s2 : (⟨#[254]⟩ : ByteArray) = strN [254] := by decide +kernel
  have s3 : (⟨#[255]⟩ : ByteArray) = strN [255] := by decide +kernel
  have HN := Lib.hid (fun (k : Nat) (hk : k ≤ 8) W => rfnum_any k n W hk hn)
  have HZ : Hid (∀ k, (strN (toL n k)).size = k) := fun k => by rw [strN_size, toL_length]
  have z1 : ByteArray.size ⟨#[253]⟩ = 1 := rfl
  have z2 : ByteArray.size ⟨#[254]⟩ = 1 := rfl
  have z3 : ByteArray.size ⟨#[255]⟩ = 1 := rfl
  have HC : Hid (∀ L, L = countL n → strN L = strN (countL n)) := fun L h => by rw [h]
  by_cases h1 : n < 253
  · have d1 : decide ((n : Int) ≤ 252) = true := decide_eq_true (by omega)
    have e := HC.out (toL n 1) (by unfold countL; rw [if_pos h1])
    have HN1 := Lib.hid (HN.out 1 (by omega) w)
    rw [← e]
    generalize strN (toL n 1) = t at *
    clear HC HN HZ e s1 s2 s3
    go_enter Tryd.func28, Tryd.ntmps28
    go_wp2_with fail
    refine HN1.out.mono ?_
    rintro e w1 ⟨rfl, hb⟩
    go_wp2_with fail
    go_ret
    exact ⟨rfl, hb⟩
  have d1 : decide ((n : Int) ≤ 252) = false := decide_eq_false (by omega)
  by_cases h2 : n < 65536
  · have d2 : decide ((n : Int) ≤ 65535) = true := decide_eq_true (by omega)
    have e := HC.out (toL 253 1 ++ toL n 2) (by unfold countL; rw [if_neg h1, if_pos h2])
    have e2 : (⟨#[253]⟩ : ByteArray) ++ strN (toL n 2) = strN (countL n) := by rw [← e, s1, strN_append]; rfl
    have HN1 := Lib.hid (HN.out 2 (by omega) w)
    have hz := HZ.out 2
    rw [← e2]
    generalize strN (toL n 2) = t at *
    clear HC HN HZ e e2 s1 s2 s3
    go_enter Tryd.func28, Tryd.ntmps28
    go_wp2_with fail
    refine HN1.out.mono ?_
    rintro e w1 ⟨rfl, hb⟩
    go_wp2_with fail
    go_ret
    exact ⟨rfl, hb⟩
  have d2 : decide ((n : Int) ≤ 65535) = false := decide_eq_false (by omega)
  by_cases h3 : n < 4294967296
  · have d3 : decide ((n : Int) ≤ 4294967295) = true := decide_eq_true (by omega)
    have e := HC.out (toL 254 1 ++ toL n 4) (by unfold countL; rw [if_neg h1, if_neg h2, if_pos h3])
    have e2 : (⟨#[254]⟩ : ByteArray) ++ strN (toL n 4) = strN (countL n) := by rw [← e, s2, strN_append]; rfl
    have HN1 := Lib.hid (HN.out 4 (by omega) w)
    have hz := HZ.out 4
    rw [← e2]
    generalize strN (toL n 4) = t at *
    clear HC HN HZ e e2 s1 s2 s3
    go_enter Tryd.func28, Tryd.ntmps28
    go_wp2_with fail
    refine HN1.out.mono ?_
    rintro e w1 ⟨rfl, hb⟩
    go_wp2_with fail
    go_ret
    exact ⟨rfl, hb⟩
  · have d3 : decide ((n : Int) ≤ 4294967295) = false := decide_eq_false (by omega)
    have e := HC.out (toL 255 1 ++ toL n 8) (by unfold countL; rw [if_neg h1, if_neg h2, if_neg h3])
    have e2 : (⟨#[255]⟩ : ByteArray) ++ strN (toL n 8) = strN (countL n) := by rw [← e, s3, strN_append]; rfl
    have HN1 := Lib.hid (HN.out 8 (by omega) w)
    have hz := HZ.out 8
    rw [← e2]
    generalize strN (toL n 8) = t at *
    clear HC HN HZ e e2 s1 s2 s3
    go_enter Tryd.func28, Tryd.ntmps28
    go_wp2_with fail
    refine HN1.out.mono ?_
    rintro e w1 ⟨rfl, hb⟩
    go_wp2_with fail
    go_ret
    exact ⟨rfl, hb⟩
theorem countL_length_le (n : Nat) : (countL n).length ≤ 9 := by
  unfold countL
  split
  · rw [toL_length]; omega
  · split
    · rw [List.length_append, toL_length, toL_length]; omega
    · split <;> (rw [List.length_append, toL_length, toL_length]; omega)
set_option maxRecDepth 100000 in
set_option maxHeartbeats 2000000 in
theorem rftext_any (xs : List Nat) (w : World) (hx : xs.length ≤ 100000) :
    Calls Tryd.prog 30 #[.string (strN xs)] w fun e w' => e = .returned (.string (strN (countL xs.length ++ xs))) ∧ Below w.heap.size w w' := by
  have HC := Lib.hid (rfcount_any xs.length w (by omega))
  have hz := strN_size xs
  have hz2 : (strN (countL xs.length)).size ≤ 9 := by rw [strN_size]; exact countL_length_le _
  have e : strN (countL xs.length) ++ strN xs = strN (countL xs.length ++ xs) := strN_append _ _
  rw [← e]
  generalize strN (countL xs.length) = t at *
  generalize strN xs = u at *
  obtain ⟨n, hn⟩ : ∃ n, n = xs.length := ⟨_, rfl⟩
  rw [← hn] at HC hx hz
  have hw : IntKind.u64.wrap (n : Int) = (n : Int) := by rw [IntKind.wrap_u64]; omega
  clear e hn
  go_enter Tryd.func30, Tryd.ntmps30
  go_wp2_with fail
  refine HC.out.mono ?_
  rintro e w1 ⟨rfl, hb⟩
  go_wp2_with fail
  go_ret
  exact ⟨rfl, hb⟩
theorem ofL_drop_succ (xs : List Nat) (i : Nat) (h : i < xs.length) : ofL (xs.drop i) = nth xs i + 256 * ofL (xs.drop (i + 1)) := by
  rw [List.drop_eq_getElem_cons h]
  show xs[i] + 256 * _ = _
  unfold nth
  rw [List.getD, List.getElem?_eq_getElem h]
  rfl
set_option maxRecDepth 100000 in
set_option maxHeartbeats 2000000 in
theorem rflow_any (xs : List Nat) (w : World) (hx : ∀ x ∈ xs, x < 256) (hl : xs.length ≤ 100000) :
    Calls Tryd.prog 67 #[.string (strN xs)] w fun e w' => e = .returned (.int .u64 (ofL (xs.take 8) : Int)) ∧ w' = w := by
  have HAT := Lib.hid (fun (i : Nat) (h : i < xs.length) W => str_at xs hx i h W)
  have HLT : Hid (∀ j, ofL ((xs.take 8).drop j) < 18446744073709551616) := fun j => by
    have h1 := ofL_lt ((xs.take 8).drop j) (fun x h => hx x (List.mem_of_mem_take (List.mem_of_mem_drop h)))
    have h2 : ((xs.take 8).drop j).length ≤ 8 := by rw [List.length_drop, List.length_take]; omega
    exact Nat.lt_of_lt_of_le h1 (Nat.le_trans (Nat.pow_le_pow_right (by omega) h2) (by decide))
  have HST : Hid (∀ j, j < xs.length → j < 8 → ofL ((xs.take 8).drop j) = nth xs j + 256 * ofL ((xs.take 8).drop (j + 1)) ∧ nth xs j < 256) := fun j h1 h2 => by
    refine ⟨?_, nth_lt xs j 256 (by omega) hx⟩
    rw [ofL_drop_succ _ _ (by rw [List.length_take]; omega)]
    congr 1
    unfold nth
    rw [List.getD, List.getD, List.getElem?_take_of_lt h2]
  have HZ : Hid (∀ j, 8 ≤ j → ofL ((xs.take 8).drop j) = 0) := fun j h => by rw [List.drop_of_length_le (by rw [List.length_take]; omega)]; rfl
  have HE : Hid (ofL ((xs.take 8).drop xs.length) = 0) := by show _ = _; rw [List.drop_of_length_le (by rw [List.length_take]; omega)]; rfl
  have HD : Hid (ofL ((xs.take 8).drop 0) = ofL (xs.take 8)) := by show _ = _; rw [List.drop_zero]
  have hz := strN_size xs
  obtain ⟨n, hn⟩ : ∃ n, n = xs.length := ⟨_, rfl⟩
  rw [← hn] at hz HAT HST HE hl
  rw [← HD.out]
  clear HD hn
  generalize strN xs = u at *
  go_enter Tryd.func67, Tryd.ntmps67
  go_wp2_with fail
  go_loopw [3, 4] (fun nv iv wr => ∃ (j m : Nat), j ≤ n ∧ .int .u64 (m : Int) = nv ∧ .int .i64 ((j : Int) - 1) = iv ∧ Hid (m = ofL ((xs.take 8).drop j)) ∧ w = wr) (fun _ iv _ => (intOf iv + 1).toNat)
  case atStart => exact ⟨n, 0, Nat.le_refl _, rfl, rfl, HE.out.symm, rfl⟩
  case round =>
    obtain ⟨j, m, hj, e1, e2, HM, e3⟩ := hrel
    subst e1
    subst e2
    subst wr
    by_cases hj0 : 0 < j
    · obtain ⟨i, rfl⟩ : ∃ i, j = i + 1 := ⟨j - 1, by omega⟩
      have ei : ((i + 1 : Nat) : Int) - 1 = (i : Int) := by omega
      rw [ei]
      have hd : decide ((0 : Int) ≤ (i : Int)) = true := decide_eq_true (by omega)
      have hin : (i : Int) < (n : Int) := by omega
      by_cases h8 : i < 8
      · have hd8 : decide ((i : Int) < 8) = true := decide_eq_true (by omega)
        have hd8' : decide (i < 8) = true := decide_eq_true h8
        obtain ⟨hs, hb⟩ := HST.out i (by omega) h8
        have hlt := HLT.out i
        have hat := HAT.out i (by omega)
        rw [← HM.out] at hs
        have HS : Hid (m * 256 + nth xs i = ofL ((xs.take 8).drop i)) := by show _ = _; rw [hs]; omega
        have hb64 : m * 256 + nth xs i < 18446744073709551616 := by rw [HS.out]; exact hlt
        have hw1 : IntKind.u64.wrap ((m : Int) * 256) = (m : Int) * 256 := by rw [IntKind.wrap_u64]; omega
        have hw2 : IntKind.u64.wrap ((m : Int) * 256 + (nth xs i : Int)) = (m : Int) * 256 + (nth xs i : Int) := by rw [IntKind.wrap_u64]; omega
        have hw3 : IntKind.u64.wrap ((nth xs i : Nat) : Int) = ((nth xs i : Nat) : Int) := by rw [IntKind.wrap_u64]; omega
        generalize nth xs i = x at *
        clear hs hlt
        go_wp2_with fail
        go_roundw
        case rel =>
          have hi : Value.int .u64 ((m * 256 + x : Nat) : Int) = .int .u64 ((m : Int) * 256 + (x : Int)) := congrArg (Value.int .u64) (by omega)
          first | exact ⟨i, m * 256 + x, by omega, hi, rfl, HS, rfl⟩ | exact ⟨i, m * 256 + x, by omega, hi, rfl, HS, trivial⟩ | ((repeat apply Exists.intro); exact ⟨⟨i, m * 256 + x, by omega, hi, rfl, HS, rfl⟩, rfl⟩)
        case measure => simp [intOf] <;> omega
      · have hd8 : decide ((i : Int) < 8) = false := decide_eq_false (by omega)
        have hd8' : decide (i < 8) = false := decide_eq_false h8
        have HS : Hid (m = ofL ((xs.take 8).drop i)) := by show _ = _; rw [HM.out, HZ.out (i + 1) (by omega), HZ.out i (by omega)]
        go_wp2_with fail
        go_roundw
        case rel =>
          first | exact ⟨i, m, by omega, rfl, rfl, HS, rfl⟩ | exact ⟨i, m, by omega, rfl, rfl, HS, trivial⟩ | ((repeat apply Exists.intro); exact ⟨⟨i, m, by omega, rfl, rfl, HS, rfl⟩, rfl⟩)
        case measure => simp [intOf] <;> omega
    · obtain rfl : j = 0 := by omega
      have ei : ((0 : Nat) : Int) - 1 = -1 := rfl
      rw [ei]
      go_wp2_with fail
      go_ret
      exact ⟨congrArg (fun z : Nat => Ending.returned (Value.int .u64 (z : Int))) HM.out, rfl⟩
end Go.Proofs.YtccgfjkahdbboaaDoor
