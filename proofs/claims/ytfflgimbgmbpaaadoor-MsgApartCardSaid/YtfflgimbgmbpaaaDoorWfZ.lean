/-
  Texts in one: WfA, WfB, WfC, WfD, WfE.
-/
import Derived.Test.YtfflgimbgmbpaaaDoorBytZ
import Derived.Test.YtfflgimbgmbpaaaDoorWriZ
import Derived.WalkKit
import Derived.Deep.DeepCutAuto
import Derived.Test.YtfflgimbgmbpaaaDoorReaZ
import Derived.Laws.ResultCell
import Derived.Deep.RegionLaw
namespace Go.Proofs.YtfflgimbgmbpaaaDoor
open Go.RowKit
set_option linter.unusedVariables false
set_option linter.unusedSimpArgs false

theorem toL_succ' (n j : Nat) : toL n (j + 1) = toL n j ++ [n / 256 ^ j % 256] := by
  induction j generalizing n with
  | zero => simp [toL]
  | succ j ih =>
    show n % 256 :: toL (n / 256) (j + 1) = (n % 256 :: toL (n / 256) j) ++ _
    rw [ih (n / 256), Nat.div_div_eq_div_mul, Nat.pow_succ, Nat.mul_comm 256]
    rfl
theorem one_bs {w : World} {g n : Nat} {t : TypeId} (hn : n < 256) (h : Bk w g t #[.int .u8 (n : Int)]) : BsV w w.heap.size (.slice (some ⟨g, 0, none⟩) 1 1) [n] :=
  ⟨some ⟨g, 0, none⟩, 1, rfl, Nat.le_refl _, by omega, by intro y hy; rw [List.mem_singleton.1 hy]; exact hn, fun _ => ⟨g, 0, rfl, h.lt, fun i hi => by
    have : i = 0 := by simpa using hi
    subst this
    exact h.cell 0⟩⟩
set_option maxRecDepth 100000 in
set_option maxHeartbeats 2000000 in
theorem rfnum_any (k n : Nat) (w : World) (hk : k ≤ 8) (hn : n < 18446744073709551616) :
    Calls Tryd.prog 67 #[.int .i64 (k : Int), .int .u64 (n : Int)] w fun e w' => e = .returned (.string (strN (toL n k))) ∧ Below w.heap.size w w' := by
  go_enter Tryd.func67, Tryd.ntmps67
  go_wp2_with fail
  go_loopw [1, 5, 6] (fun nv sv iv wr => ∃ (j m : Nat) (str : ByteArray), j ≤ k ∧ .int .u64 (m : Int) = nv ∧ .string str = sv ∧ .int .i64 (j : Int) = iv ∧ Hid (m = n / 256 ^ j) ∧ Hid (str = strN (toL n j)) ∧ m < 18446744073709551616 ∧ Hid (Below w.heap.size w wr)) (fun _ _ iv _ => k - (intOf iv).toNat)
  case atStart => exact ⟨0, n, _, Nat.zero_le _, rfl, rfl, rfl, by show _ = _; rw [Nat.pow_zero, Nat.div_one], rfl, hn, Below.refl _ _⟩
  case round =>
    obtain ⟨j, m, str, hj, e1, e2, e3, HM, HS, hm, hWr⟩ := hrel
    subst e1
    subst e2
    subst e3
    by_cases hlt : j < k
    · have hd : decide ((j : Int) < (k : Int)) = true := decide_eq_true (by omega)
      have hd' : decide (j < k) = true := decide_eq_true hlt
      have hb := one_bs (w := wr.alloc (.cells #[.int .u8 ((m % 256 : Nat) : Int)] 5)) (g := wr.heap.size) (n := m % 256) (Nat.mod_lt _ (by omega)) (Bk.new _ _ _)
      have hcv := conv_bs hb
      have hsz : str.size = j := by rw [HS.out, strN_size, toL_length]
      have hs1 : (strN [m % 256]).size = 1 := by rw [strN_size]; rfl
      have HS2 : Hid (str ++ strN [m % 256] = strN (toL n (j + 1))) := by
        show _ = _
        rw [toL_succ', ← strN_append, HS.out, HM.out]
      have HM2 : Hid (m / 256 = n / 256 ^ (j + 1)) := by
        show _ = _
        rw [HM.out, Nat.pow_succ, Nat.div_div_eq_div_mul]
      have hm2 : m / 256 < 18446744073709551616 := by omega
      have hW := Lib.hid (hWr.out.alloc hWr.out.size (.cells #[.int .u8 ((m % 256 : Nat) : Int)] 5))
      have hmod : (m : Int) % 256 = ((m % 256 : Nat) : Int) := by omega
      have hdiv : (m : Int) / 256 = ((m / 256 : Nat) : Int) := by omega
      have hw8 : IntKind.u8.wrap ((m % 256 : Nat) : Int) = ((m % 256 : Nat) : Int) := by rw [IntKind.wrap_u8]; omega
      generalize m % 256 = r at *
      generalize m / 256 = q at *
      clear hb
      go_wp2_with fail
      go_roundw
      case rel =>
        have hi : Value.int .i64 ((j + 1 : Nat) : Int) = .int .i64 ((j : Int) + 1) := by go_num
        first | exact ⟨j + 1, q, _, by omega, rfl, rfl, hi, HM2, HS2, hm2, hW⟩ | ((repeat apply Exists.intro); exact ⟨⟨j + 1, q, _, by omega, rfl, rfl, hi, HM2, HS2, hm2, hW⟩, rfl⟩)
      case measure => simp [intOf] <;> omega
    · have hd : decide ((j : Int) < (k : Int)) = false := decide_eq_false (by omega)
      have hd' : decide (j < k) = false := decide_eq_false hlt
      obtain rfl : j = k := by omega
      go_wp2_with fail
      go_ret
      exact ⟨congrArg (fun z => Ending.returned (Value.string z)) HS.out, hWr.out⟩
end Go.Proofs.YtfflgimbgmbpaaaDoor
namespace Go.Proofs.YtfflgimbgmbpaaaDoor
open Go.RowKit
set_option linter.unusedVariables false
set_option linter.unusedSimpArgs false

set_option maxRecDepth 100000 in
set_option maxHeartbeats 2000000 in
theorem rfcount_any (n : Nat) (w : World) (hn : n < 18446744073709551616) :
    Calls Tryd.prog 65 #[.int .u64 (n : Int)] w fun e w' => e = .returned (.string (strN (countL n))) ∧ Below w.heap.size w w' := by
  have s1 : (⟨#[253]⟩ : ByteArray) = strN [253] := by decide +kernel
  have s2 : (⟨#[254]⟩ : ByteArray) = strN [254] := by decide +kernel
  have s3 : (⟨#[255]⟩ : ByteArray) = strN [255] := by decide +kernel
  have HN := Lib.hid (fun (k : Nat) (hk : k ≤ 8) W => rfnum_any k n W hk hn)
  have HZ : Hid (∀ k, (strN (toL n k)).size = k) := fun k => by rw [strN_size, toL_length]
  have z1 : ByteArray.size ⟨#[253]⟩ = 1 := rfl
  have z2 : ByteArray.size ⟨#[254]⟩ = 1 := rfl
  have z3 : ByteArray.size ⟨#[255]⟩ = 1 := rfl
  have HC : Hid (∀ L, L = countL n → strN L = strN (countL n)) := fun L h => by rw [h]
  by_cases h1 : n < 253
  · have d1 : decide ((n : Int) ≤ 252) = true := decide_eq_true (by omega)
    have e := HC.out (toL n 1) (by unfold countL; rw [if_pos h1])
    have HN1 := Lib.hid (HN.out 1 (by omega) w)
    rw [← e]
    generalize strN (toL n 1) = t at *
    clear HC HN HZ e s1 s2 s3
    go_enter Tryd.func65, Tryd.ntmps65
    go_wp2_with fail
    refine HN1.out.mono ?_
    rintro e w1 ⟨rfl, hb⟩
    go_wp2_with fail
    go_ret
    exact ⟨rfl, hb⟩
  have d1 : decide ((n : Int) ≤ 252) = false := decide_eq_false (by omega)
  by_cases h2 : n < 65536
  · have d2 : decide ((n : Int) ≤ 65535) = true := decide_eq_true (by omega)
    have e := HC.out (toL 253 1 ++ toL n 2) (by unfold countL; rw [if_neg h1, if_pos h2])
    have e2 : (⟨#[253]⟩ : ByteArray) ++ strN (toL n 2) = strN (countL n) := by rw [← e, s1, strN_append]; rfl
    have HN1 := Lib.hid (HN.out 2 (by omega) w)
    have hz := HZ.out 2
    rw [← e2]
    generalize strN (toL n 2) = t at *
    clear HC HN HZ e e2 s1 s2 s3
    go_enter Tryd.func65, Tryd.ntmps65
    go_wp2_with fail
    refine HN1.out.mono ?_
    rintro e w1 ⟨rfl, hb⟩
    go_wp2_with fail
    go_ret
    exact ⟨rfl, hb⟩
  have d2 : decide ((n : Int) ≤ 65535) = false := decide_eq_false (by omega)
  by_cases h3 : n < 4294967296
  · have d3 : decide ((n : Int) ≤ 4294967295) = true := decide_eq_true (by omega)
    have e := HC.out (toL 254 1 ++ toL n 4) (by unfold countL; rw [if_neg h1, if_neg h2, if_pos h3])
    have e2 : (⟨#[254]⟩ : ByteArray) ++ strN (toL n 4) = strN (countL n) := by rw [← e, s2, strN_append]; rfl
    have HN1 := Lib.hid (HN.out 4 (by omega) w)
    have hz := HZ.out 4
    rw [← e2]
    generalize strN (toL n 4) = t at *
    clear HC HN HZ e e2 s1 s2 s3
    go_enter Tryd.func65, Tryd.ntmps65
    go_wp2_with fail
    refine HN1.out.mono ?_
    rintro e w1 ⟨rfl, hb⟩
    go_wp2_with fail
    go_ret
    exact ⟨rfl, hb⟩
  · have d3 : decide ((n : Int) ≤ 4294967295) = false := decide_eq_false (by omega)
    have e := HC.out (toL 255 1 ++ toL n 8) (by unfold countL; rw [if_neg h1, if_neg h2, if_neg h3])
    have e2 : (⟨#[255]⟩ : ByteArray) ++ strN (toL n 8) = strN (countL n) := by rw [← e, s3, strN_append]; rfl
    have HN1 := Lib.hid (HN.out 8 (by omega) w)
    have hz := HZ.out 8
    rw [← e2]
    generalize strN (toL n 8) = t at *
    clear HC HN HZ e e2 s1 s2 s3
    go_enter Tryd.func65, Tryd.ntmps65
    go_wp2_with fail
    refine HN1.out.mono ?_
    rintro e w1 ⟨rfl, hb⟩
    go_wp2_with fail
    go_ret
    exact ⟨rfl, hb⟩
theorem countL_length_le (n : Nat) : (countL n).length ≤ 9 := by
  unfold countL
  split
  · rw [toL_length]; omega
  · split
    · rw [List.length_append, toL_length, toL_length]; omega
    · split <;> (rw [List.length_append, toL_length, toL_length]; omega)
set_option maxRecDepth 100000 in
set_option maxHeartbeats 2000000 in
theorem rftext_any (xs : List Nat) (w : World) (hx : xs.length ≤ 100000) :
    Calls Tryd.prog 106 #[.string (strN xs)] w fun e w' => e = .returned (.string (strN (countL xs.length ++ xs))) ∧ Below w.heap.size w w' := by
  have HC := Lib.hid (rfcount_any xs.length w (by omega))
  have hz := strN_size xs
  have hz2 : (strN (countL xs.length)).size ≤ 9 := by rw [strN_size]; exact countL_length_le _
  have e : strN (countL xs.length) ++ strN xs = strN (countL xs.length ++ xs) := strN_append _ _
  rw [← e]
  generalize strN (countL xs.length) = t at *
  generalize strN xs = u at *
  obtain ⟨n, hn⟩ : ∃ n, n = xs.length := ⟨_, rfl⟩
  rw [← hn] at HC hx hz
  have hw : IntKind.u64.wrap (n : Int) = (n : Int) := by rw [IntKind.wrap_u64]; omega
  clear e hn
  go_enter Tryd.func106, Tryd.ntmps106
  go_wp2_with fail
  refine HC.out.mono ?_
  rintro e w1 ⟨rfl, hb⟩
  go_wp2_with fail
  go_ret
  exact ⟨rfl, hb⟩
theorem ofL_drop_succ (xs : List Nat) (i : Nat) (h : i < xs.length) : ofL (xs.drop i) = nth xs i + 256 * ofL (xs.drop (i + 1)) := by
  rw [List.drop_eq_getElem_cons h]
  show xs[i] + 256 * _ = _
  unfold nth
  rw [List.getD, List.getElem?_eq_getElem h]
  rfl
set_option maxRecDepth 100000 in
set_option maxHeartbeats 2000000 in
theorem rflow_any (xs : List Nat) (w : World) (hx : ∀ x ∈ xs, x < 256) (hl : xs.length ≤ 100000) :
    Calls Tryd.prog 78 #[.string (strN xs)] w fun e w' => e = .returned (.int .u64 (ofL (xs.take 8) : Int)) ∧ w' = w := by
  have HAT := Lib.hid (fun (i : Nat) (h : i < xs.length) W => str_at xs hx i h W)
  have HLT : Hid (∀ j, ofL ((xs.take 8).drop j) < 18446744073709551616) := fun j => by
    have h1 := ofL_lt ((xs.take 8).drop j) (fun x h => hx x (List.mem_of_mem_take (List.mem_of_mem_drop h)))
    have h2 : ((xs.take 8).drop j).length ≤ 8 := by rw [List.length_drop, List.length_take]; omega
    exact Nat.lt_of_lt_of_le h1 (Nat.le_trans (Nat.pow_le_pow_right (by omega) h2) (by decide))
  have HST : Hid (∀ j, j < xs.length → j < 8 → ofL ((xs.take 8).drop j) = nth xs j + 256 * ofL ((xs.take 8).drop (j + 1)) ∧ nth xs j < 256) := fun j h1 h2 => by
    refine ⟨?_, nth_lt xs j 256 (by omega) hx⟩
    rw [ofL_drop_succ _ _ (by rw [List.length_take]; omega)]
    congr 1
    unfold nth
    rw [List.getD, List.getD, List.getElem?_take_of_lt h2]
  have HZ : Hid (∀ j, 8 ≤ j → ofL ((xs.take 8).drop j) = 0) := fun j h => by rw [List.drop_of_length_le (by rw [List.length_take]; omega)]; rfl
  have HE : Hid (ofL ((xs.take 8).drop xs.length) = 0) := by show _ = _; rw [List.drop_of_length_le (by rw [List.length_take]; omega)]; rfl
  have HD : Hid (ofL ((xs.take 8).drop 0) = ofL (xs.take 8)) := by show _ = _; rw [List.drop_zero]
  have hz := strN_size xs
  obtain ⟨n, hn⟩ : ∃ n, n = xs.length := ⟨_, rfl⟩
  rw [← hn] at hz HAT HST HE hl
  rw [← HD.out]
  clear HD hn
  generalize strN xs = u at *
  go_enter Tryd.func78, Tryd.ntmps78
  go_wp2_with fail
  go_loopw [3, 4] (fun nv iv wr => ∃ (j m : Nat), j ≤ n ∧ .int .u64 (m : Int) = nv ∧ .int .i64 ((j : Int) - 1) = iv ∧ Hid (m = ofL ((xs.take 8).drop j)) ∧ w = wr) (fun _ iv _ => (intOf iv + 1).toNat)
  case atStart => exact ⟨n, 0, Nat.le_refl _, rfl, rfl, HE.out.symm, rfl⟩
  case round =>
    obtain ⟨j, m, hj, e1, e2, HM, e3⟩ := hrel
    subst e1
    subst e2
    subst wr
    by_cases hj0 : 0 < j
    · obtain ⟨i, rfl⟩ : ∃ i, j = i + 1 := ⟨j - 1, by omega⟩
      have ei : ((i + 1 : Nat) : Int) - 1 = (i : Int) := by omega
      rw [ei]
      have hd : decide ((0 : Int) ≤ (i : Int)) = true := decide_eq_true (by omega)
      have hin : (i : Int) < (n : Int) := by omega
      by_cases h8 : i < 8
      · have hd8 : decide ((i : Int) < 8) = true := decide_eq_true (by omega)
        have hd8' : decide (i < 8) = true := decide_eq_true h8
        obtain ⟨hs, hb⟩ := HST.out i (by omega) h8
        have hlt := HLT.out i
        have hat := HAT.out i (by omega)
        rw [← HM.out] at hs
        have HS : Hid (m * 256 + nth xs i = ofL ((xs.take 8).drop i)) := by show _ = _; rw [hs]; omega
        have hb64 : m * 256 + nth xs i < 18446744073709551616 := by rw [HS.out]; exact hlt
        have hw1 : IntKind.u64.wrap ((m : Int) * 256) = (m : Int) * 256 := by rw [IntKind.wrap_u64]; omega
        have hw2 : IntKind.u64.wrap ((m : Int) * 256 + (nth xs i : Int)) = (m : Int) * 256 + (nth xs i : Int) := by rw [IntKind.wrap_u64]; omega
        have hw3 : IntKind.u64.wrap ((nth xs i : Nat) : Int) = ((nth xs i : Nat) : Int) := by rw [IntKind.wrap_u64]; omega
        generalize nth xs i = x at *
        clear hs hlt
        go_wp2_with fail
        go_roundw
        case rel =>
          have hi : Value.int .u64 ((m * 256 + x : Nat) : Int) = .int .u64 ((m : Int) * 256 + (x : Int)) := congrArg (Value.int .u64) (by omega)
          first | exact ⟨i, m * 256 + x, by omega, hi, rfl, HS, rfl⟩ | exact ⟨i, m * 256 + x, by omega, hi, rfl, HS, trivial⟩ | ((repeat apply Exists.intro); exact ⟨⟨i, m * 256 + x, by omega, hi, rfl, HS, rfl⟩, rfl⟩)
        case measure => simp [intOf] <;> omega
      · have hd8 : decide ((i : Int) < 8) = false := decide_eq_false (by omega)
        have hd8' : decide (i < 8) = false := decide_eq_false h8
        have HS : Hid (m = ofL ((xs.take 8).drop i)) := by show _ = _; rw [HM.out, HZ.out (i + 1) (by omega), HZ.out i (by omega)]
        go_wp2_with fail
        go_roundw
        case rel =>
          first | exact ⟨i, m, by omega, rfl, rfl, HS, rfl⟩ | exact ⟨i, m, by omega, rfl, rfl, HS, trivial⟩ | ((repeat apply Exists.intro); exact ⟨⟨i, m, by omega, rfl, rfl, HS, rfl⟩, rfl⟩)
        case measure => simp [intOf] <;> omega
    · obtain rfl : j = 0 := by omega
      have ei : ((0 : Nat) : Int) - 1 = -1 := rfl
      rw [ei]
      go_wp2_with fail
      go_ret
      exact ⟨congrArg (fun z : Nat => Ending.returned (Value.int .u64 (z : Int))) HM.out, rfl⟩
end Go.Proofs.YtfflgimbgmbpaaaDoor
namespace Go.Proofs.YtfflgimbgmbpaaaDoor
open Go.RowKit
set_option linter.unusedVariables false
set_option linter.unusedSimpArgs false

theorem str_ext (l : List Nat) (a b : Nat) : (strN l).extract a b = strN ((l.drop a).take (b - a)) := by
  apply byteArray_ext
  rw [strN_list]
  simp [ByteArray.data_extract, Array.toList_extract, strN_list, List.extract, List.map_drop, List.map_take]
theorem str_take (l : List Nat) (n : Nat) (hn : n ≤ l.length) (w : World) : (Instr.slice 9 (.string (strN l)) none (some (.int .i64 (n : Int))) none).run Tryd.prog w = .ok (.string (strN (l.take n))) w := by
  have hz := strN_size l
  have h0 : (0 : Int) ≤ (n : Int) := by omega
  have h1 : (n : Int) ≤ (l.length : Int) := by omega
  go_simp
  rw [str_ext, List.drop_zero, Nat.sub_zero]
theorem str_drop (l : List Nat) (n : Nat) (hn : n ≤ l.length) (w : World) : (Instr.slice 9 (.string (strN l)) (some (.int .i64 (n : Int))) none none).run Tryd.prog w = .ok (.string (strN (l.drop n))) w := by
  have hz := strN_size l
  have h0 : (0 : Int) ≤ (n : Int) := by omega
  have h1 : (n : Int) ≤ (l.length : Int) := by omega
  go_simp
  rw [str_ext, List.take_of_length_le (by rw [List.length_drop]; omega)]
end Go.Proofs.YtfflgimbgmbpaaaDoor
namespace Go.Proofs.YtfflgimbgmbpaaaDoor
open Go.RowKit
set_option linter.unusedVariables false
set_option linter.unusedSimpArgs false

/-- What is left of some bytes, and the error's number, as the document has them. -/
def stA (s : St) : Array Value := #[.string (strN s.1), .int .i64 ((s.2 : Nat) : Int)]
def stv (s : St) : Value := .agg (stA s)
theorem st_info : (Tryd.prog.info? 145).map (·.size) = some 2 := by kernel_rfl
theorem results_tmp_cell {fn : Func} {p u : Tmp} {ty : TypeId} (h : fn.results = #[.tmp u, .cell p ty]) (tmps : Array Value) (P : Program) (w : World) :
    (results fn tmps).run P w =
      ((asAddr (tmps.getD p undef)).run P w).andThen fun a w₁ => ((loadVar ty a).run P w₁).andThen fun v w₂ => .ok (.tuple #[tmps.getD u undef, v]) w₂ := by
  simp only [results, h]
  simp [Sem.run_bind, Result.andThen]
theorem st_ret {P : Func} {a : Act} {w W : World} {g nm k : Nat} {s : St} {v : Value} {B : Nat} (hp : P.results = #[ResultVar.tmp k, ResultVar.cell nm 145]) (hd : a.defers = []) (hv : a.tmps.getD nm undef = .pointer (some ⟨g, 0, none⟩)) (hk : a.tmps.getD k undef = v)
    (hR : Bk W g 145 (stA s)) (hB : Below B w W) : bodyPost Tryd.prog P (fun e w' => e = .returned (.tuple #[v, stv s]) ∧ Below B w w') Exit.ret a W := by
  have h1 := run_loadVar_row (P := Tryd.prog) W g 145 145 (stA s) (0, 0) _ hR Tryd.underlying145 rfl st_info
  refine bodyPost_ret (v := .tuple #[v, stv s]) ?_ hd ⟨rfl, hB⟩
  rw [results_tmp_cell hp, hv, hk]
  show ((asAddr (.pointer (some ⟨g, 0, none⟩))).run Tryd.prog W).andThen _ = _
  simp only [asAddr, Sem.run_pure, Result.andThen_ok, h1]
  rfl
theorem st_set2 {w : World} {g : Nat} {t : TypeId} {a b : Value} (h : Bk w g t #[a, b]) (x y : Value) : Bk ((w.setCell ⟨g, 0, none⟩ x).setCell ⟨g, 1, none⟩ y) g t #[x, y] := (h.set_ 0 x).set_ 1 y
set_option maxRecDepth 100000 in
set_option maxHeartbeats 2000000 in
theorem rftake_any (s : St) (n : Int) (w : World) (hn : -9223372036854775808 ≤ n ∧ n ≤ 9223372036854775807) (hl : s.1.length ≤ 1000000) (hc : s.2 < 1000) :
    Calls Tryd.prog 77 #[stv s, .int .i64 n] w fun e w' => e = .returned (.tuple #[.string (strN (rdTake s n).1), stv (rdTake s n).2]) ∧ Below w.heap.size w w' := by
  obtain ⟨xs, c⟩ := s
  have hz := strN_size xs
  by_cases hok : 0 ≤ n ∧ n ≤ (xs.length : Int)
  · obtain ⟨k, rfl⟩ : ∃ k : Nat, n = (k : Int) := ⟨n.toNat, by omega⟩
    have hk : k ≤ xs.length := by omega
    have HT := str_take xs k hk
    have HD := str_drop xs k hk
    have e : rdTake (xs, c) (k : Int) = (xs.take k, (xs.drop k, c)) := by unfold rdTake; rw [if_pos hok]; rfl
    rw [e]
    show Calls Tryd.prog _ #[.agg #[.string (strN xs), .int .i64 ((c : Nat) : Int)], _] w _
    obtain ⟨m, hm⟩ : ∃ m, m = xs.length := ⟨_, rfl⟩
    rw [← hm] at hz hk
    have hd1 : decide ((k : Int) < 0) = false := decide_eq_false (by omega)
    have hd2 : decide ((m : Int) < (k : Int)) = false := decide_eq_false (by omega)
    have hd2' : decide (m < k) = false := decide_eq_false (by omega)
    have HS : Hid (stA (xs.drop k, c) = #[.string (strN (xs.drop k)), .int .i64 ((c : Nat) : Int)]) := rfl
    generalize hgx : strN xs = u at *
    obtain ⟨tk, htk⟩ : ∃ tk, tk = strN (xs.take k) := ⟨_, rfl⟩
    obtain ⟨dr, hdr⟩ : ∃ dr, dr = strN (xs.drop k) := ⟨_, rfl⟩
    rw [← htk] at HT ⊢
    rw [← hdr] at HD HS
    have hW : Below w.heap.size w ((w.alloc (.cells #[.string u, .int .i64 ((c : Nat) : Int)] 145)).alloc (.cells #[.string ⟨#[]⟩, .int .i64 0] 145)) := ((Below.refl _ _).alloc (Nat.le_refl _) _).alloc (by simp) _
    clear hok e hm hgx htk hdr
    go_enter Tryd.func77, Tryd.ntmps77
    go_upto_region 1 with fail
    refine wp_any (fun W => Below w.heap.size w W ∧ Bk W w.heap.size 145 #[.string u, .int .i64 ((c : Nat) : Int)] ∧ Bk W (w.heap.size + 1) 145 #[.string ⟨#[]⟩, .int .i64 0]) ⟨hW, (Bk.new _ _ _).alloc _, Bk.new' _ _ _ (by simp)⟩ ?_
    generalize hg2 : w.heap.size = g2 at *
    clear hW
    rintro W ⟨hW, K2, K5⟩
    have HW := Lib.hid hW
    clear hW
    have c0 := K2.cell 0
    have c1 := K2.cell 1
    have d0 := K5.cell 0
    have d1 := K5.cell 1
    have f0 := K5.frozen 0
    have f1 := K5.frozen 1
    have z2 := K2.lt
    have z5 := K5.lt
    go_upto_region 5 with fail
    go_region_law (fail)
    all_goals
      go_wp2_with fail
      refine st_ret (g := g2 + 1) rfl rfl rfl rfl ?_ ?_
      · rw [HS.out]; exact (st_set2 K5 _ _).drew
      · exact ((HW.out.setCell (by show g2 ≤ g2 + 1; omega) _).setCell (by show g2 ≤ g2 + 1; omega) _).drew
  · have e : rdTake (xs, c) n = ([], rdFail (xs, c) 6) := by unfold rdTake; rw [if_neg hok]
    have HS : Hid (∀ d, (if c = 0 then 6 else c) = d → stA (rdFail (xs, c) 6) = #[.string ⟨#[]⟩, .int .i64 ((d : Nat) : Int)]) := fun d h => by
      subst h
      rfl
    have he : (strN [] : ByteArray) = ⟨#[]⟩ := by decide +kernel
    rw [e]
    show Calls Tryd.prog _ #[.agg #[.string (strN xs), .int .i64 ((c : Nat) : Int)], _] w fun e w' => e = .returned (.tuple #[.string (strN []), stv (rdFail (xs, c) 6)]) ∧ Below w.heap.size w w'
    rw [he]
    obtain ⟨m, hm⟩ : ∃ m, m = xs.length := ⟨_, rfl⟩
    rw [← hm] at hz hok hl
    have HM := Lib.hid hm
    generalize rdFail (xs, c) 6 = s2 at *
    generalize strN xs = u at *
    have hW : Below w.heap.size w ((w.alloc (.cells #[.string u, .int .i64 ((c : Nat) : Int)] 145)).alloc (.cells #[.string ⟨#[]⟩, .int .i64 0] 145)) := ((Below.refl _ _).alloc (Nat.le_refl _) _).alloc (by simp) _
    have hcs : n < 0 ∨ ¬ n < 0 ∧ (m : Int) < n := by omega
    clear e he hm hok
    go_enter Tryd.func77, Tryd.ntmps77
    go_upto_region 1 with fail
    refine wp_any (fun W => Below w.heap.size w W ∧ Bk W w.heap.size 145 #[.string u, .int .i64 ((c : Nat) : Int)] ∧ Bk W (w.heap.size + 1) 145 #[.string ⟨#[]⟩, .int .i64 0]) ⟨hW, (Bk.new _ _ _).alloc _, Bk.new' _ _ _ (by simp)⟩ ?_
    generalize hg2 : w.heap.size = g2 at *
    clear hW
    rintro W ⟨hW, K2, K5⟩
    have HW := Lib.hid hW
    clear hW
    have c0 := K2.cell 0
    have c1 := K2.cell 1
    have fz1 := K2.frozen 1
    have d0 := K5.cell 0
    have d1 := K5.cell 1
    have f0 := K5.frozen 0
    have f1 := K5.frozen 1
    have z2 := K2.lt
    have z5 := K5.lt
    by_cases hc0 : c = 0
    · subst hc0
      have HS2 := Lib.hid (HS.out 6 (if_pos rfl))
      have hb0 : (((0 : Nat) : Int) == 0) = true := rfl
      rcases hcs with h1 | ⟨h1, h2⟩
      all_goals
        try have hd1 : decide (n < 0) = true := decide_eq_true h1
        try have hd1 : decide (n < 0) = false := decide_eq_false h1
        try have hd2 : decide ((m : Int) < n) = true := decide_eq_true h2
        go_upto_region 4 with fail
        refine wp_any (fun V => Below g2 w V ∧ Bk V g2 145 #[.string u, .int .i64 6] ∧ Bk V (g2 + 1) 145 #[.string ⟨#[]⟩, .int .i64 0]) ⟨HW.out.setCell (Nat.le_refl _) _, K2.set_ 1 (.int .i64 6), K5.far (by show g2 + 1 ≠ g2; omega) _⟩ ?_
        clear K2 K5 HW c0 c1 fz1 d0 d1 f0 f1 z2 z5
        rintro V ⟨hW, K2, K5⟩
        have HW := Lib.hid hW
        clear hW
        have c0 := K2.cell 0
        have c1 := K2.cell 1
        have d0 := K5.cell 0
        have d1 := K5.cell 1
        have f0 := K5.frozen 0
        have f1 := K5.frozen 1
        have z5 := K5.lt
        go_region_law (fail)
        all_goals
          go_wp2_with fail
          refine st_ret (g := g2 + 1) rfl rfl rfl rfl ?_ ?_
          · rw [HS2.out]; exact (st_set2 K5 _ _).drew
          · exact ((HW.out.setCell (by show g2 ≤ g2 + 1; omega) _).setCell (by show g2 ≤ g2 + 1; omega) _).drew
    · have HS2 := Lib.hid (HS.out c (if_neg hc0))
      have hb0 : (((c : Nat) : Int) == 0) = false := by simp; omega
      have hb0' : decide (((c : Nat) : Int) = 0) = false := decide_eq_false (by omega)
      rcases hcs with h1 | ⟨h1, h2⟩
      all_goals
        try have hd1 : decide (n < 0) = true := decide_eq_true h1
        try have hd1 : decide (n < 0) = false := decide_eq_false h1
        try have hd2 : decide ((m : Int) < n) = true := decide_eq_true h2
        go_upto_region 4 with fail
        go_region_law (fail)
        all_goals
          go_wp2_with fail
          refine st_ret (g := g2 + 1) rfl rfl rfl rfl ?_ ?_
          · rw [HS2.out]; exact (st_set2 K5 _ _).drew
          · exact ((HW.out.setCell (by show g2 ≤ g2 + 1; omega) _).setCell (by show g2 ≤ g2 + 1; omega) _).drew
end Go.Proofs.YtfflgimbgmbpaaaDoor
namespace Go.Proofs.YtfflgimbgmbpaaaDoor
open Go.RowKit
set_option linter.unusedVariables false
set_option linter.unusedSimpArgs false

/-- Behind an error there is nothing left. -/
def StI (s : St) : Prop := s.1.length ≤ 1000000 ∧ s.2 < 1000 ∧ (∀ x ∈ s.1, x < 256) ∧ (s.2 ≠ 0 → s.1 = [])
theorem take_inv (s : St) (n : Int) (h : StI s) : StI (rdTake s n).2 ∧ (∀ x ∈ (rdTake s n).1, x < 256) ∧ (rdTake s n).1.length ≤ 1000000 := by
  obtain ⟨h1, h2, h3, h4⟩ := h
  unfold rdTake
  split
  · refine ⟨⟨by simp only [List.length_drop]; omega, h2, fun x hx => h3 x (List.mem_of_mem_drop hx), fun he => by simp only; rw [h4 he]; simp⟩, fun x hx => h3 x (List.mem_of_mem_take hx), by simp only [List.length_take]; omega⟩
  · refine ⟨⟨by simp [rdFail], ?_, by simp [rdFail], fun _ => rfl⟩, by simp, by simp⟩
    unfold rdFail
    simp only
    split <;> omega
theorem take_len (s : St) (k : Nat) : (rdTake s (k : Int)).1.length ≤ k := by
  unfold rdTake
  split
  · simp only [List.length_take, Int.toNat_natCast]; omega
  · simp
theorem take_full (s : St) (k : Nat) (h : (rdTake s (k : Int)).2.2 = 0) : (rdTake s (k : Int)).1.length = k := by
  unfold rdTake at h ⊢
  split
  · rename_i hh
    simp only [List.length_take, Int.toNat_natCast]
    omega
  · rename_i hh
    rw [if_neg hh] at h
    unfold rdFail at h
    simp only at h
    split at h <;> omega
theorem num_lt (s : St) (k : Nat) (hk : k ≤ 8) (h : StI s) : (rdNum s (k : Int)).1 < 256 ^ k := by
  have h1 := take_inv s k h
  have h2 := take_len s k
  unfold rdNum
  have h3 := ofL_lt (((rdTake s (k : Int)).1).take 8) (fun x hx => h1.2.1 x (List.mem_of_mem_take hx))
  refine Nat.lt_of_lt_of_le h3 (Nat.pow_le_pow_right (by omega) ?_)
  rw [List.length_take]
  omega
theorem countL_len3 (n : Nat) : (countL n).length = if n < 253 then 1 else if n < 65536 then 3 else if n < 4294967296 then 5 else 9 := by
  unfold countL
  split
  · rw [toL_length]
  · split
    · rw [List.length_append, toL_length, toL_length]
    · split <;> rw [List.length_append, toL_length, toL_length]
/-- What is left to do when a count's number is known. -/
def numEnd (n most : Nat) (st : St) : Nat × St := if st.2 ≠ 0 then (0, ([], st.2)) else if most < n then (0, ([], 2)) else (n, st)
theorem count_end (s : St) (most : Nat) (h : StI s) (n : Nat) (st : St) (lo : Nat) (hc : rdCnt s = ((n, lo), st)) (hst : StI st) :
    rdCount s most = if st.2 = 0 ∧ n < lo then (0, ([], 70)) else numEnd n most st := by
  have hr : rdCount s most = if st.2 ≠ 0 then (0, st) else if n < lo then (0, rdFail st 70) else if most < n then (0, rdFail st 2) else (n, st) := by unfold rdCount; rw [hc]
  rw [hr]
  unfold numEnd
  by_cases h0 : st.2 = 0
  · have e1 : ¬ st.2 ≠ 0 := by simp [h0]
    rw [if_neg e1, if_neg e1]
    by_cases h1 : n < lo
    · rw [if_pos h1, if_pos ⟨h0, h1⟩]; unfold rdFail; rw [if_pos h0]
    · have e2 : ¬ (st.2 = 0 ∧ n < lo) := fun h => h1 h.2
      rw [if_neg h1, if_neg e2]
      by_cases h2 : most < n
      · rw [if_pos h2, if_pos h2]; unfold rdFail; rw [if_pos h0]
      · rw [if_neg h2, if_neg h2]
  · have e2 : ¬ (st.2 = 0 ∧ n < lo) := fun h => h0 h.1
    rw [if_pos h0, if_neg e2, if_pos h0]
    have := hst.2.2.2 h0
    obtain ⟨a, b⟩ := st
    simp only at this
    subst this
    rfl
end Go.Proofs.YtfflgimbgmbpaaaDoor
