/-
  The two tables of package hash, where they lie.
-/
import Derived.Test.YtkkkfcdoilojmaaDoorHashM
import Derived.Test.YtkkkfcdoilojmaaDoorOnly
namespace Go.Proofs.YtkkkfcdoilojmaaDoor
open Go.RowKit
set_option linter.unusedVariables false

/-- The two tables lie where they should. -/
def Laid (w : World) : Prop := (∃ t f, w.heap[(0 : Nat)]? = some (.cells (wA sha0.toL) t f)) ∧ (∃ t f, w.heap[(1 : Nat)]? = some (.cells (wA rkL) t f))
theorem heap_lt {w : World} {g : Nat} {o : Obj} (h : w.heap[g]? = some o) : g < w.heap.size := by
  rcases Nat.lt_or_ge g w.heap.size with hlt | hge
  · exact hlt
  · rw [Array.getElem?_eq_none hge] at h; cases h
theorem Laid.below {B : Nat} {w w' : World} (h : Laid w) (hb : Below B w w') (hB : 2 ≤ B) : Laid w' := by
  obtain ⟨⟨t, f, h0⟩, ⟨u, g, h1⟩⟩ := h
  exact ⟨⟨t, f, (hb.block _ (by omega)).trans h0⟩, ⟨u, g, (hb.block _ (by omega)).trans h1⟩⟩
theorem Laid.size {w : World} (h : Laid w) : 2 ≤ w.heap.size := by
  obtain ⟨⟨t, f, h0⟩, ⟨u, g, h1⟩⟩ := h
  have a := heap_lt h0
  have b := heap_lt h1
  omega
theorem Laid.keep {w w' : World} (h : Laid w) (hb : Below w.heap.size w w') : Laid w' := h.below hb h.size

theorem Laid.only {D : Nat} {w w' : World} (h : Laid w) (ho : Only D w w') (hD : 2 ≤ D) : Laid w' := h.below (ho.below (B := 2) hD h.size) (Nat.le_refl _)
theorem Laid.ge2 {D : Nat} {w : World} {t : TypeId} {cs : Array Value} (h : Laid w) (hD : Bk w D t cs) (hs : cs.size = 74) : 2 ≤ D := by
  obtain ⟨⟨t0, f0, h0⟩, ⟨t1, f1, h1⟩⟩ := h
  unfold Bk at hD
  rcases Nat.lt_or_ge D 2 with hlt | hge
  · exfalso
    have : D = 0 ∨ D = 1 := by omega
    rcases this with rfl | rfl
    · rw [h0] at hD; cases hD; rw [wA_size] at hs; revert hs; decide
    · rw [h1] at hD; cases hD; rw [wA_size] at hs; revert hs; decide
  · exact hge
/-- One word more in an array that is filled from its head. -/
theorem Bk.fill {w : World} {g : Nat} {t : TypeId} {l : List Nat} {n k x : Nat} {v : Int} (h : Bk w g t (wA (l ++ zeros (n - l.length)))) (hk : l.length = k) (hn : k < n) (hv : v = (x : Int)) :
    Bk (w.setCell ⟨g, k, none⟩ (.int .u32 v)) g t (wA ((l ++ [x]) ++ zeros (n - (l ++ [x]).length))) := by
  subst hk hv
  have e := h.set_ l.length (.int .u32 (x : Int))
  rw [wA_set, fill_set l n x hn] at e
  exact e
/-- Whatever world it is, of which so much is known. -/
theorem wp_any {P : Program} {c : Code} {Q : Exit → Act → World → Prop} {a : Act} {w : World} (S : World → Prop) (hS : S w) (h : ∀ W, S W → c.wp P Q a W) : c.wp P Q a w := h w hS
end Go.Proofs.YtkkkfcdoilojmaaDoor
