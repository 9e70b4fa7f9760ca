/-
  The document's answer for layer 6: counts and texts as strings; the number that bytes are.
-/
import Derived.Test.YtfflgimbgmbpaaaWfA
namespace Go.Proofs.Ytfflgimbgmbpaaa
open Go.RowKit
set_option linter.unusedVariables false
set_option linter.unusedSimpArgs false

set_option maxRecDepth 100000 in
set_option maxHeartbeats 2000000 in
theorem rfcount_any (n : Nat) (w : World) (hn : n < 18446744073709551616) :
    Calls Try.prog 9 #[.int .u64 (n : Int)] w fun e w' => e = .returned (.string (strN (countL n))) ∧ Below w.heap.size w w' := by
  have s1 : (⟨#[253]⟩ : ByteArray) = strN [253] := by decide +kernel
  have s2 : (⟨#[254]⟩ : ByteArray) = strN [254] := by decide +kernel
  have s3 : (⟨#[255]⟩ : ByteArray) = strN [255] := by decide +kernel
  have HN := Lib.hid (fun (k : Nat) (hk : k ≤ 8) W => rfnum_any k n W hk hn)
  have HZ : Hid (∀ k, (strN (toL n k)).size = k) := fun k => by rw [strN_size, toL_length]
  have z1 : ByteArray.size ⟨#[253]⟩ = 1 := rfl
  have z2 : ByteArray.size ⟨#[254]⟩ = 1 := rfl
  have z3 : ByteArray.size ⟨#[255]⟩ = 1 := rfl
  have HC : Hid (∀ L, L = countL n → strN L = strN (countL n)) := fun L h => by rw [h]
  by_cases h1 : n < 253
  · have d1 : decide ((n : Int) ≤ 252) = true := decide_eq_true (by omega)
    have e := HC.out (toL n 1) (by unfold countL; rw [if_pos h1])
    have HN1 := Lib.hid (HN.out 1 (by omega) w)
    rw [← e]
    generalize strN (toL n 1) = t at *
    clear HC HN HZ e s1 s2 s3
    go_enter Try.func9, Try.ntmps9
    go_wp2_with fail
    refine HN1.out.mono ?_
    rintro e w1 ⟨rfl, hb⟩
    go_wp2_with fail
    go_ret
    exact ⟨rfl, hb⟩
  have d1 : decide ((n : Int) ≤ 252) = false := decide_eq_false (by omega)
  by_cases h2 : n < 65536
  · have d2 : decide ((n : Int) ≤ 65535) = true := decide_eq_true (by omega)
    have e := HC.out (toL 253 1 ++ toL n 2) (by unfold countL; rw [if_neg h1, if_pos h2])
    have e2 : (⟨#[253]⟩ : ByteArray) ++ strN (toL n 2) = strN (countL n) := by rw [← e, s1, strN_append]; rfl
    have HN1 := Lib.hid (HN.out 2 (by omega) w)
    have hz := HZ.out 2
    rw [← e2]
    generalize strN (toL n 2) = t at *
    clear HC HN HZ e e2 s1 s2 s3
    go_enter Try.func9, Try.ntmps9
    go_wp2_with fail
    refine HN1.out.mono ?_
    rintro e w1 ⟨rfl, hb⟩
    go_wp2_with fail
    go_ret
    exact ⟨rfl, hb⟩
  have d2 : decide ((n : Int) ≤ 65535) = false := decide_eq_false (by omega)
  by_cases h3 : n < 4294967296
  · have d3 : decide ((n : Int) ≤ 4294967295) = true := decide_eq_true (by omega)
    have e := HC.out (toL 254 1 ++ toL n 4) (by unfold countL; rw [if_neg h1, if_neg h2, if_pos h3])
    have e2 : (⟨#[254]⟩ : ByteArray) ++ strN (toL n 4) = strN (countL n) := by rw [← e, s2, strN_append]; rfl
    have HN1 := Lib.hid (HN.out 4 (by omega) w)
    have hz := HZ.out 4
    rw [← e2]
    generalize strN (toL n 4) = t at *
    clear HC HN HZ e e2 s1 s2 s3
    go_enter Try.func9, Try.ntmps9
    go_wp2_with fail
    refine HN1.out.mono ?_
    rintro e w1 ⟨rfl, hb⟩
    go_wp2_with fail
    go_ret
    exact ⟨rfl, hb⟩
  · have d3 : decide ((n : Int) ≤ 4294967295) = false := decide_eq_false (by omega)
    have e := HC.out (toL 255 1 ++ toL n 8) (by unfold countL; rw [if_neg h1, if_neg h2, if_neg h3])
    have e2 : (⟨#[255]⟩ : ByteArray) ++ strN (toL n 8) = strN (countL n) := by rw [← e, s3, strN_append]; rfl
    have HN1 := Lib.hid (HN.out 8 (by omega) w)
    have hz := HZ.out 8
    rw [← e2]
    generalize strN (toL n 8) = t at *
    clear HC HN HZ e e2 s1 s2 s3
    go_enter Try.func9, Try.ntmps9
    go_wp2_with fail
    refine HN1.out.mono ?_
    rintro e w1 ⟨rfl, hb⟩
    go_wp2_with fail
    go_ret
    exact ⟨rfl, hb⟩
theorem countL_length_le (n : Nat) : (countL n).length ≤ 9 := by
  unfold countL
  split
  · rw [toL_length]; omega
  · split
    · rw [List.length_append, toL_length, toL_length]; omega
    · split <;> (rw [List.length_append, toL_length, toL_length]; omega)
set_option maxRecDepth 100000 in
set_option maxHeartbeats 2000000 in
theorem rftext_any (xs : List Nat) (w : World) (hx : xs.length ≤ 100000) :
    Calls Try.prog 12 #[.string (strN xs)] w fun e w' => e = .returned (.string (strN (countL xs.length ++ xs))) ∧ Below w.heap.size w w' := by
  have HC := Lib.hid (rfcount_any xs.length w (by omega))
  have hz := strN_size xs
  have hz2 : (strN (countL xs.length)).size ≤ 9 := by rw [strN_size]; exact countL_length_le _
  have e : strN (countL xs.length) ++ strN xs = strN (countL xs.length ++ xs) := strN_append _ _
  rw [← e]
  generalize strN (countL xs.length) = t at *
  generalize strN xs = u at *
  obtain ⟨n, hn⟩ : ∃ n, n = xs.length := ⟨_, rfl⟩
  rw [← hn] at HC hx hz
  have hw : IntKind.u64.wrap (n : Int) = (n : Int) := by rw [IntKind.wrap_u64]; omega
  clear e hn
  go_enter Try.func12, Try.ntmps12
  go_wp2_with fail
  refine HC.out.mono ?_
  rintro e w1 ⟨rfl, hb⟩
  go_wp2_with fail
  go_ret
  exact ⟨rfl, hb⟩
theorem ofL_drop_succ (xs : List Nat) (i : Nat) (h : i < xs.length) : ofL (xs.drop i) = nth xs i + 256 * ofL (xs.drop (i + 1)) := by
  rw [List.drop_eq_getElem_cons h]
  show xs[i] + 256 * _ = _
  unfold nth
  rw [List.getD, List.getElem?_eq_getElem h]
  rfl
end Go.Proofs.Ytfflgimbgmbpaaa
