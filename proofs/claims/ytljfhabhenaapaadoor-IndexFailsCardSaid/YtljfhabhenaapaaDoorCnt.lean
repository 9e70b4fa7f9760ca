/-
  The law's own head: small numbers are reckoned right.
-/
import Derived.Test.YtljfhabhenaapaaDoorNumI
namespace Go.Proofs.YtljfhabhenaapaaDoor
open Go.RowKit
set_option maxRecDepth 100000
set_option linter.unusedVariables false

theorem nums2 (w : World) (x y : Nat) : Nums (w.alloc (.cells #[.int .u64 (wd0 x : Int), .int .u64 (wd1 x : Int), .int .u64 (wd2 x : Int), .int .u64 (wd3 x : Int), .int .u64 (wd0 y : Int), .int .u64 (wd1 y : Int), .int .u64 (wd2 y : Int), .int .u64 (wd3 y : Int)] 43)) w.heap.size 0 [x, y] := by
  have h := heap_alloc_new w (.cells #[.int .u64 (wd0 x : Int), .int .u64 (wd1 x : Int), .int .u64 (wd2 x : Int), .int .u64 (wd3 x : Int), .int .u64 (wd0 y : Int), .int .u64 (wd1 y : Int), .int .u64 (wd2 y : Int), .int .u64 (wd3 y : Int)] 43)
  have hc := fun j => cell_of_row _ w.heap.size j _ _ _ h
  intro k z hz
  match k with
  | 0 =>
    obtain rfl : x = z := by simpa using hz
    exact ⟨hc 0, hc 1, hc 2, hc 3⟩
  | 1 =>
    obtain rfl : y = z := by simpa using hz
    exact ⟨hc 4, hc 5, hc 6, hc 7⟩
  | k + 2 => simp at hz

theorem add2 (x y : Nat) (w : World) (hx : x < M256) (hy : y < M256) :
    Calls Tryd.prog 34 #[.slice (some ⟨w.heap.size, 0, none⟩) 2 2] (w.alloc (.cells #[.int .u64 (wd0 x : Int), .int .u64 (wd1 x : Int), .int .u64 (wd2 x : Int), .int .u64 (wd3 x : Int), .int .u64 (wd0 y : Int), .int .u64 (wd1 y : Int), .int .u64 (wd2 y : Int), .int .u64 (wd3 y : Int)] 43)) fun e w' =>
      e = .returned (.tuple #[nv ((x + y) % M256), .bool (decide (M256 ≤ x + y))]) ∧ Below w.heap.size w w' := by
  refine (nadd_any [x, y] w.heap.size 0 2 _ (by simp) (by intro z hz; simp at hz; rcases hz with rfl | rfl <;> assumption) (nums2 w x y) (.inr (by simp))).mono ?_
  rintro e w' ⟨rfl, hb⟩
  have hs : [x, y].sum = x + y := by simp
  refine ⟨by rw [hs], below_step ((Below.refl _ _).alloc (Nat.le_refl _) _) (by simp) hb⟩

end Go.Proofs.YtljfhabhenaapaaDoor
