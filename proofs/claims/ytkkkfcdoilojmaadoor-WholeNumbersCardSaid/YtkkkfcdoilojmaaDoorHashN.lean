/-
  Plain mathematics of more bytes in a sum that isn't finished.
-/
import Derived.Test.YtkkkfcdoilojmaaDoorHashM
import Derived.Laws.CopyOwn
namespace Go.Proofs.YtkkkfcdoilojmaaDoor
open Go.RowKit
set_option linter.unusedVariables false

theorem splice_mid {α : Type} (A M T C : List α) (u : Nat) (h : u + C.length ≤ M.length) : splice (A ++ (M ++ T)) (A.length + u) C = A ++ (splice M u C ++ T) := by
  unfold splice
  have e1 : (A ++ (M ++ T)).take (A.length + u) = A ++ M.take u := by
    rw [List.take_append, List.take_of_length_le (by omega), show A.length + u - A.length = u from by omega, List.take_append_of_le_length (by omega)]
  have e2 : (A ++ (M ++ T)).drop (A.length + u + C.length) = M.drop (u + C.length) ++ T := by
    rw [List.drop_append, List.drop_eq_nil_of_le (by omega), List.nil_append, show A.length + u + C.length - A.length = u + C.length from by omega, List.drop_append_of_le_length (by omega)]
  rw [e1, e2]
  simp only [List.append_assoc]
theorem splice_map {α β : Type} (f : α → β) (M C : List α) (u : Nat) : splice (M.map f) u (C.map f) = (splice M u C).map f := by
  unfold splice
  simp only [List.map_append, List.map_take, List.map_drop, List.length_map]
theorem splice_fill (t ys : List Nat) (h : t.length + ys.length ≤ 64) : splice (t ++ zeros (64 - t.length)) t.length ys = (t ++ ys) ++ zeros (64 - (t ++ ys).length) := by
  unfold splice zeros
  rw [List.take_left, List.drop_append, List.drop_eq_nil_of_le (by omega), List.nil_append, show t.length + ys.length - t.length = ys.length from by omega, List.drop_replicate, List.append_assoc, List.length_append]
  congr 3
  omega

/-- The list of the cells, a copy of bytes into the block. -/
theorem splice_dw (l blk ys : List Nat) (u used n : Nat) (hl : l.length = 8) (h : u + ys.length ≤ blk.length) :
    (splice (dw l blk used n).toList (8 + u) (ys.map byteV)).toArray = dw l (splice blk u ys) used n := by
  unfold dw
  have e := splice_mid (l.map wordV) (blk.map byteV) [Value.int .i64 (used : Int), Value.int .u64 (n : Int)] (ys.map byteV) u (by simpa using h)
  rw [List.length_map, hl, splice_map] at e
  exact congrArg List.toArray e

/-- The cells behind some bytes. -/
def dg (l : List Nat) (n : Nat) : Array Value := dw (inW l).toL (inB l) (l.length % 64) n
theorem inB_part (l ys : List Nat) (h : l.length % 64 + ys.length < 64) : splice (inB l) (l.length % 64) ys = inB (l ++ ys) := by
  have ht := inT_length l
  have e := splice_fill (inT l) ys (by omega)
  rw [ht] at e
  unfold inB
  rw [ht, e, (in_part l ys (by omega)).2]
theorem inB_full (l ys : List Nat) (h : l.length % 64 + ys.length = 64) : splice (inB l) (l.length % 64) ys = inT l ++ ys := by
  have ht := inT_length l
  have e := splice_fill (inT l) ys (by omega)
  rw [ht] at e
  unfold inB
  rw [ht, e, List.length_append, ht, show 64 - (l.length % 64 + ys.length) = 0 from by omega]
  exact List.append_nil _
theorem dg_part (l ys : List Nat) (n : Nat) (h : l.length % 64 + ys.length < 64) : dw (inW l).toL (splice (inB l) (l.length % 64) ys) (l.length % 64 + ys.length) n = dg (l ++ ys) n := by
  unfold dg
  rw [inB_part l ys h, (in_part l ys (by rw [inT_length]; omega)).1, List.length_append, show (l.length + ys.length) % 64 = l.length % 64 + ys.length from by omega]
theorem dg_full (l ys : List Nat) (n : Nat) (h : l.length % 64 + ys.length = 64) : dw (comp (inW l) (splice (inB l) (l.length % 64) ys)).toL (zeros 64) 0 n = dg (l ++ ys) n := by
  unfold dg
  have h2 := in_full l ys (by rw [inT_length]; omega)
  rw [inB_full l ys h, h2.1, List.length_append, show (l.length + ys.length) % 64 = 0 from by omega]
  unfold inB
  rw [h2.2]; rfl
theorem take_more (xs : List Nat) (j n : Nat) : xs.take j ++ (xs.drop j).take n = xs.take (j + n) := List.take_add.symm
end Go.Proofs.YtkkkfcdoilojmaaDoor
