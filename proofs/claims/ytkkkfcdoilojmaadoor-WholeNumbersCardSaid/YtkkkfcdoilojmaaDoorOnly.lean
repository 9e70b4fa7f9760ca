/-
  A step that turns one block alone of those that were there.
-/
import Derived.Test.YtkkkfcdoilojmaaDoorOvr
namespace Go.Proofs.YtkkkfcdoilojmaaDoor
open Go.RowKit
set_option linter.unusedVariables false

/-- Of the blocks that were there none but D has turned. -/
structure Only (D : Nat) (w w' : World) : Prop where
  os : w'.os = w.os
  tape : w'.tape = w.tape
  output : w'.output = w.output
  size : w.heap.size ≤ w'.heap.size
  block : ∀ k, k < w.heap.size → k ≠ D → w'.heap[k]? = w.heap[k]?
section
variable {D : Nat} {a w w' : World}
theorem Only.refl (D : Nat) (w : World) : Only D w w := ⟨rfl, rfl, rfl, Nat.le_refl _, fun _ _ _ => rfl⟩
theorem Only.trans (h : Only D a w) (k : Only D w w') : Only D a w' :=
  ⟨k.os.trans h.os, k.tape.trans h.tape, k.output.trans h.output, Nat.le_trans h.size k.size, fun i hi hd => (k.block i (Nat.lt_of_lt_of_le hi h.size) hd).trans (h.block i hi hd)⟩
theorem Only.of (h : Below w.heap.size w w') : Only D w w' := ⟨h.os, h.tape, h.output, h.size, fun k hk _ => h.block k hk⟩
theorem Only.set_ (h : Only D a w) (i : Nat) (s : Option Nat) (u : Value) : Only D a (w.setCell ⟨D, i, none⟩ u) :=
  h.trans ⟨rfl, rfl, rfl, by simp [World.setCell], fun k hk hd => Below.heap_setCell _ _ _ _ hd⟩
theorem Only.far (h : Only D a w) {p : Addr} (hp : a.heap.size ≤ p.block) (u : Value) : Only D a (w.setCell p u) :=
  ⟨h.os, h.tape, h.output, by simpa [World.setCell] using h.size, fun k hk hd => (Below.heap_setCell _ _ _ _ (by omega)).trans (h.block k hk hd)⟩
theorem Only.drew (h : Only D a w) : Only D a w.drew := ⟨h.os, h.tape, h.output, h.size, h.block⟩
theorem Only.alloc (h : Only D a w) (o : Obj) : Only D a (w.alloc o) :=
  h.trans ⟨rfl, rfl, rfl, by simp, fun k hk _ => Below.heap_alloc _ _ _ hk⟩
theorem Only.sets (h : Only D a w) (vs : List Value) : ∀ (o : Nat) (w : World), Only D a w → Only D a (w.setCells D o vs) := by
  induction vs with
  | nil => intro o w h; exact h
  | cons v r ih => intro o w h; exact ih (o + 1) _ (h.set_ o none v)
theorem Only.setsFar {g : Nat} (hg : a.heap.size ≤ g) (vs : List Value) : ∀ (o : Nat) (w : World), Only D a w → Only D a (w.setCells g o vs) := by
  induction vs with
  | nil => intro o w h; exact h
  | cons v r ih => intro o w h; exact ih (o + 1) _ (h.far hg v)
theorem Only.below (h : Only D w w') {B : Nat} (h0 : B ≤ D) (h1 : B ≤ w.heap.size) : Below B w w' :=
  ⟨h.os, h.tape, h.output, h.size, fun k hk => h.block k (by omega) (by omega)⟩
theorem Only.keep (h : Only D w w') {g : Nat} {t : TypeId} {cs : Array Value} (hb : Bk w g t cs) (hg : g ≠ D) : Bk w' g t cs := (h.block g hb.lt hg).trans hb
theorem Only.step (h : Only D a w) (k : Below w.heap.size w w') : Only D a w' := h.trans (Only.of k)
end
end Go.Proofs.YtkkkfcdoilojmaaDoor
