/-
  Strings as lists of numbers below 256: laid one behind the other, asked for a byte, compared; bytes of a slice as a string.
-/
import Derived.Test.YtfflgimbgmbpaaaByt
import Derived.Laws.BytesArg
namespace Go.Proofs.Ytfflgimbgmbpaaa
open Go.RowKit
set_option linter.unusedVariables false

theorem nth_lt (l : List Nat) (i m : Nat) (hm : 0 < m) (h : ∀ x ∈ l, x < m) : nth l i < m := by
  unfold nth
  rw [List.getD]
  by_cases hi : i < l.length
  · rw [List.getElem?_eq_getElem hi]; exact h _ (List.getElem_mem _)
  · rw [List.getElem?_eq_none (by omega)]; exact hm
def ints (l : List Nat) : List Int := l.map fun (x : Nat) => (x : Int)
/-- The string of these bytes. -/
def strN (l : List Nat) : ByteArray := strOfNums (ints l)
theorem strN_size (l : List Nat) : (strN l).size = l.length := by unfold strN ints; rw [strOfNums_size, List.length_map]
theorem strN_list (l : List Nat) : (strN l).data.toList = l.map UInt8.ofNat := by
  unfold strN ints
  rw [strOfNums_data, List.map_map]
  rfl
theorem byteArray_ext {a b : ByteArray} (h : a.data.toList = b.data.toList) : a = b := by
  cases a; cases b
  congr 1
  exact Array.ext' h
theorem strN_append (a b : List Nat) : strN a ++ strN b = strN (a ++ b) := by
  apply byteArray_ext
  rw [strN_list, List.map_append, ← strN_list, ← strN_list]
  simp [ByteArray.data_append]
theorem strN_toList (l : List Nat) : (strN l).toList = l.map UInt8.ofNat := by rw [ByteArray.toList_eq, strN_list]
theorem strN_eq (l : List Nat) : ((strN l).toList == (strN l).toList) = true := by simp
theorem strN_get (l : List Nat) (i : Nat) (h : i < l.length) (hl : ∀ x ∈ l, x < 256) (hi : i < (strN l).size) : ((strN l)[i]'hi).toNat = nth l i := by
  have hi2 : i < (strN l).data.toList.length := by rw [strN_list, List.length_map]; exact h
  have e : (strN l)[i]'hi = (strN l).data.toList[i]'hi2 := by
    rw [Array.getElem_toList]
    rfl
  rw [e]
  have e2 : (strN l).data.toList[i]? = some (UInt8.ofNat (nth l i)) := by
    rw [strN_list, List.getElem?_map, List.getElem?_eq_getElem h]
    unfold nth
    rw [List.getD, List.getElem?_eq_getElem h]
    rfl
  rw [List.getElem?_eq_getElem hi2] at e2
  rw [Option.some.inj e2]
  have := nth_lt l i 256 (by omega) hl
  rw [UInt8.toNat_ofNat']
  omega
/-- A byte of a string. -/
theorem str_at (l : List Nat) (hl : ∀ x ∈ l, x < 256) (i : Nat) (h : i < l.length) (w : World) : (Instr.index 9 (.string (strN l)) (.int .i64 (i : Int))).run Try.prog w = .ok (.int .u8 ((nth l i : Nat) : Int)) w := by
  have hs : i < (strN l).size := by rw [strN_size]; exact h
  rw [run_index_string (P := Try.prog) w 9 (strN l) .i64 (i : Int) (by kernel_rfl), dif_pos ⟨by omega, by omega⟩]
  have := strN_get l i h hl hs
  simp only [Int.toNat_natCast]
  rw [this]
/-- The bytes of a slice, as a string. -/
theorem conv_bs {w : World} {B : Nat} {v : Value} {xs : List Nat} (h : BsV w B v xs) : (convert 24 9 v).run Try.prog w = .ok (.string (strN xs)) w := by
  obtain ⟨s, cap, rfl, h1, h2, h3, h4⟩ := h
  by_cases h0 : xs = []
  · subst h0
    cases s with
    | none => exact run_convert_bytes_nil (P := Try.prog) w 24 5 (by kernel_rfl) (by kernel_rfl) 0 cap 9 (by kernel_rfl)
    | some a =>
      rw [run_convert_bytes_string w 24 9 5 _ _ cap (by kernel_rfl) (by kernel_rfl) (by kernel_rfl)]
      have := run_bytesToString (P := Try.prog) w a 0 cap [] (by simp [loadCells, loadCellsFrom])
      rw [List.length_nil, this]
      rfl
  · obtain ⟨b, o, rfl, hb, hc⟩ := h4 h0
    refine run_convert_bytes_arg (P := Try.prog) w 24 5 (by kernel_rfl) (by kernel_rfl) b o xs.length cap (ints xs) (by unfold ints; rw [List.length_map]) (fun i hi => ?_) 9 (by kernel_rfl)
    rw [hc i hi]
    unfold ints nth
    rw [List.getD, List.getD, List.getElem?_map, List.getElem?_eq_getElem hi]
    rfl
end Go.Proofs.Ytfflgimbgmbpaaa
