/-
  Texts in one: WfA, WfB, WfC, WfD, WfE.
-/
import Derived.Test.YtjnbdajdllpchaaDoorBytZ
import Derived.Test.YtjnbdajdllpchaaDoorWriZ
import Derived.WalkKit
import Derived.Deep.DeepCutAuto
import Derived.Test.YtjnbdajdllpchaaDoorReaZ
import Derived.Laws.ResultCell
import Derived.Deep.RegionLaw
namespace Go.Proofs.YtjnbdajdllpchaaDoor
open Go.RowKit
set_option linter.unusedVariables false
set_option linter.unusedSimpArgs false

theorem toL_succ' (n j : Nat) : toL n (j + 1) = toL n j ++ [n / 256 ^ j % 256] := by
  induction j generalizing n with
  | zero => simp [toL]
  | succ j ih =>
    show n % 256 :: toL (n / 256) (j + 1) = (n % 256 :: toL (n / 256) j) ++ _
    rw [ih (n / 256), Nat.div_div_eq_div_mul, Nat.pow_succ, Nat.mul_comm 256]
    rfl
theorem one_bs {w : World} {g n : Nat} {t : TypeId} (hn : n < 256) (h : Bk w g t #[.int .u8 (n : Int)]) : BsV w w.heap.size (.slice (some ⟨g, 0, none⟩) 1 1) [n] :=
  ⟨some ⟨g, 0, none⟩, 1, rfl, Nat.le_refl _, by omega, by intro y hy; rw [List.mem_singleton.1 hy]; exact hn, fun _ => ⟨g, 0, rfl, h.lt, fun i hi => by
    have : i = 0 := by simpa using hi
    subst this
    exact h.cell 0⟩⟩
end Go.Proofs.YtjnbdajdllpchaaDoor
namespace Go.Proofs.YtjnbdajdllpchaaDoor
open Go.RowKit
set_option linter.unusedVariables false
set_option linter.unusedSimpArgs false

theorem countL_length_le (n : Nat) : (countL n).length ≤ 9 := by
  unfold countL
  split
  · rw [toL_length]; omega
  · split
    · rw [List.length_append, toL_length, toL_length]; omega
    · split <;> (rw [List.length_append, toL_length, toL_length]; omega)
theorem ofL_drop_succ (xs : List Nat) (i : Nat) (h : i < xs.length) : ofL (xs.drop i) = nth xs i + 256 * ofL (xs.drop (i + 1)) := by
  rw [List.drop_eq_getElem_cons h]
  show xs[i] + 256 * _ = _
  unfold nth
  rw [List.getD, List.getElem?_eq_getElem h]
  rfl
end Go.Proofs.YtjnbdajdllpchaaDoor
namespace Go.Proofs.YtjnbdajdllpchaaDoor
open Go.RowKit
set_option linter.unusedVariables false
set_option linter.unusedSimpArgs false

theorem str_ext (l : List Nat) (a b : Nat) : (strN l).extract a b = strN ((l.drop a).take (b - a)) := by
  apply byteArray_ext
  rw [strN_list]
  simp [ByteArray.data_extract, Array.toList_extract, strN_list, List.extract, List.map_drop, List.map_take]
theorem str_take (l : List Nat) (n : Nat) (hn : n ≤ l.length) (w : World) : (Instr.slice 9 (.string (strN l)) none (some (.int .i64 (n : Int))) none).run Tryd.prog w = .ok (.string (strN (l.take n))) w := by
  have hz := strN_size l
  have h0 : (0 : Int) ≤ (n : Int) := by omega
  have h1 : (n : Int) ≤ (l.length : Int) := by omega
  go_simp
  rw [str_ext, List.drop_zero, Nat.sub_zero]
theorem str_drop (l : List Nat) (n : Nat) (hn : n ≤ l.length) (w : World) : (Instr.slice 9 (.string (strN l)) (some (.int .i64 (n : Int))) none none).run Tryd.prog w = .ok (.string (strN (l.drop n))) w := by
  have hz := strN_size l
  have h0 : (0 : Int) ≤ (n : Int) := by omega
  have h1 : (n : Int) ≤ (l.length : Int) := by omega
  go_simp
  rw [str_ext, List.take_of_length_le (by rw [List.length_drop]; omega)]
end Go.Proofs.YtjnbdajdllpchaaDoor
namespace Go.Proofs.YtjnbdajdllpchaaDoor
open Go.RowKit
set_option linter.unusedVariables false
set_option linter.unusedSimpArgs false

/-- What is left of some bytes, and the error's number, as the document has them. -/
def stA (s : St) : Array Value := #[.string (strN s.1), .int .i64 ((s.2 : Nat) : Int)]
def stv (s : St) : Value := .agg (stA s)
theorem results_tmp_cell {fn : Func} {p u : Tmp} {ty : TypeId} (h : fn.results = #[.tmp u, .cell p ty]) (tmps : Array Value) (P : Program) (w : World) :
    (results fn tmps).run P w =
      ((asAddr (tmps.getD p undef)).run P w).andThen fun a w₁ => ((loadVar ty a).run P w₁).andThen fun v w₂ => .ok (.tuple #[tmps.getD u undef, v]) w₂ := by
  simp only [results, h]
  simp [Sem.run_bind, Result.andThen]
theorem st_set2 {w : World} {g : Nat} {t : TypeId} {a b : Value} (h : Bk w g t #[a, b]) (x y : Value) : Bk ((w.setCell ⟨g, 0, none⟩ x).setCell ⟨g, 1, none⟩ y) g t #[x, y] := (h.set_ 0 x).set_ 1 y
end Go.Proofs.YtjnbdajdllpchaaDoor
namespace Go.Proofs.YtjnbdajdllpchaaDoor
open Go.RowKit
set_option linter.unusedVariables false
set_option linter.unusedSimpArgs false

/-- Behind an error there is nothing left. -/
def StI (s : St) : Prop := s.1.length ≤ 1000000 ∧ s.2 < 1000 ∧ (∀ x ∈ s.1, x < 256) ∧ (s.2 ≠ 0 → s.1 = [])
theorem take_inv (s : St) (n : Int) (h : StI s) : StI (rdTake s n).2 ∧ (∀ x ∈ (rdTake s n).1, x < 256) ∧ (rdTake s n).1.length ≤ 1000000 := by
  obtain ⟨h1, h2, h3, h4⟩ := h
  unfold rdTake
  split
  · refine ⟨⟨by simp only [List.length_drop]; omega, h2, fun x hx => h3 x (List.mem_of_mem_drop hx), fun he => by simp only; rw [h4 he]; simp⟩, fun x hx => h3 x (List.mem_of_mem_take hx), by simp only [List.length_take]; omega⟩
  · refine ⟨⟨by simp [rdFail], ?_, by simp [rdFail], fun _ => rfl⟩, by simp, by simp⟩
    unfold rdFail
    simp only
    split <;> omega
theorem take_len (s : St) (k : Nat) : (rdTake s (k : Int)).1.length ≤ k := by
  unfold rdTake
  split
  · simp only [List.length_take, Int.toNat_natCast]; omega
  · simp
theorem take_full (s : St) (k : Nat) (h : (rdTake s (k : Int)).2.2 = 0) : (rdTake s (k : Int)).1.length = k := by
  unfold rdTake at h ⊢
  split
  · rename_i hh
    simp only [List.length_take, Int.toNat_natCast]
    omega
  · rename_i hh
    rw [if_neg hh] at h
    unfold rdFail at h
    simp only at h
    split at h <;> omega
theorem num_lt (s : St) (k : Nat) (hk : k ≤ 8) (h : StI s) : (rdNum s (k : Int)).1 < 256 ^ k := by
  have h1 := take_inv s k h
  have h2 := take_len s k
  unfold rdNum
  have h3 := ofL_lt (((rdTake s (k : Int)).1).take 8) (fun x hx => h1.2.1 x (List.mem_of_mem_take hx))
  refine Nat.lt_of_lt_of_le h3 (Nat.pow_le_pow_right (by omega) ?_)
  rw [List.length_take]
  omega
theorem countL_len3 (n : Nat) : (countL n).length = if n < 253 then 1 else if n < 65536 then 3 else if n < 4294967296 then 5 else 9 := by
  unfold countL
  split
  · rw [toL_length]
  · split
    · rw [List.length_append, toL_length, toL_length]
    · split <;> rw [List.length_append, toL_length, toL_length]
/-- What is left to do when a count's number is known. -/
def numEnd (n most : Nat) (st : St) : Nat × St := if st.2 ≠ 0 then (0, ([], st.2)) else if most < n then (0, ([], 2)) else (n, st)
theorem count_end (s : St) (most : Nat) (h : StI s) (n : Nat) (st : St) (lo : Nat) (hc : rdCnt s = ((n, lo), st)) (hst : StI st) :
    rdCount s most = if st.2 = 0 ∧ n < lo then (0, ([], 70)) else numEnd n most st := by
  have hr : rdCount s most = if st.2 ≠ 0 then (0, st) else if n < lo then (0, rdFail st 70) else if most < n then (0, rdFail st 2) else (n, st) := by unfold rdCount; rw [hc]
  rw [hr]
  unfold numEnd
  by_cases h0 : st.2 = 0
  · have e1 : ¬ st.2 ≠ 0 := by simp [h0]
    rw [if_neg e1, if_neg e1]
    by_cases h1 : n < lo
    · rw [if_pos h1, if_pos ⟨h0, h1⟩]; unfold rdFail; rw [if_pos h0]
    · have e2 : ¬ (st.2 = 0 ∧ n < lo) := fun h => h1 h.2
      rw [if_neg h1, if_neg e2]
      by_cases h2 : most < n
      · rw [if_pos h2, if_pos h2]; unfold rdFail; rw [if_pos h0]
      · rw [if_neg h2, if_neg h2]
  · have e2 : ¬ (st.2 = 0 ∧ n < lo) := fun h => h0 h.1
    rw [if_pos h0, if_neg e2, if_pos h0]
    have := hst.2.2.2 h0
    obtain ⟨a, b⟩ := st
    simp only at this
    subst this
    rfl
end Go.Proofs.YtjnbdajdllpchaaDoor
