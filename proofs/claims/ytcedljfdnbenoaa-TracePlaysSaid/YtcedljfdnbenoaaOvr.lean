/-
  Storing a whole array into a block that is known whole.
-/
import Derived.Test.YtcedljfdnbenoaaBlk
import Derived.Deep.MidRow
namespace Go.Proofs.Ytcedljfdnbenoaa
open Go.RowKit
set_option linter.unusedVariables false

/-! ### storing a whole array into a block that is known whole -/
def ovr (cs : Array Value) : Nat → List Value → Array Value
  | _, [] => cs
  | o, v :: r => ovr (cs.setIfInBounds o v) (o + 1) r
theorem ovr_size (vs : List Value) : ∀ (o : Nat) (cs : Array Value), (ovr cs o vs).size = cs.size := by
  induction vs with
  | nil => intro o cs; rfl
  | cons v r ih => intro o cs; rw [ovr, ih]; simp
theorem ovr_get (vs : List Value) : ∀ (o : Nat) (cs : Array Value) (i : Nat), (ovr cs o vs)[i]? = if o ≤ i ∧ i < o + vs.length ∧ i < cs.size then vs[i - o]? else cs[i]? := by
  induction vs with
  | nil => intro o cs i; rw [ovr, if_neg (by simp; omega)]
  | cons v r ih =>
    intro o cs i
    rw [ovr, ih]
    simp only [Array.size_setIfInBounds, List.length_cons]
    by_cases h1 : i = o
    · subst h1
      rw [if_neg (by omega)]
      by_cases h2 : i < cs.size
      · rw [if_pos (by omega)]; simp [h2]
      · rw [if_neg (by omega)]
        rw [Array.getElem?_eq_none (by simp; omega), Array.getElem?_eq_none (by omega)]
    · by_cases h2 : o ≤ i ∧ i < o + (r.length + 1) ∧ i < cs.size
      · rw [if_pos (by omega), if_pos h2]
        obtain ⟨d, rfl⟩ : ∃ d, i = o + 1 + d := ⟨i - (o + 1), by omega⟩
        rw [show o + 1 + d - (o + 1) = d from by omega, show o + 1 + d - o = d + 1 from by omega]; simp
      · rw [if_neg (by omega), if_neg h2, Array.getElem?_setIfInBounds_ne (by omega)]
theorem ovr_all (cs xs : Array Value) (h : xs.size = cs.size) : ovr cs 0 xs.toList = xs := by
  apply Array.ext_getElem?
  intro i
  rw [ovr_get]
  by_cases hi : i < cs.size
  · rw [if_pos (by simp; omega)]; simp
  · rw [if_neg (by omega), Array.getElem?_eq_none (by omega), Array.getElem?_eq_none (by omega)]
theorem Bk.ovr_ {w : World} {g : Nat} {t : TypeId} (vs : List Value) : ∀ (o : Nat) (w : World) (cs : Array Value), Bk w g t cs → Bk (w.setCells g o vs) g t (ovr cs o vs) := by
  induction vs with
  | nil => intro o w cs h; exact h
  | cons v r ih => intro o w cs h; exact ih (o + 1) _ _ (h.set_ o v)
theorem Bk.setAll {w : World} {g : Nat} {t : TypeId} {cs xs : Array Value} (h : Bk w g t cs) (hs : xs.size = cs.size) : Bk (w.setCells g 0 xs.toList) g t xs := by
  have := Bk.ovr_ (w := w) xs.toList 0 w cs h
  rwa [ovr_all cs xs hs] at this
theorem Below.setCells {B g : Nat} {a : World} (hg : B ≤ g) (vs : List Value) : ∀ (o : Nat) (w : World), Below B a w → Below B a (w.setCells g o vs) := by
  induction vs with
  | nil => intro o w h; exact h
  | cons v r ih => intro o w h; exact ih (o + 1) _ (h.setCell hg v)
theorem Bk.there {w : World} {g : Nat} {t : TypeId} {cs : Array Value} (h : Bk w g t cs) (n : Nat) (hn : n ≤ cs.size) : w.there g 0 n := fun j hj =>
  ⟨by rw [Nat.zero_add, h.cell, Array.getElem?_eq_getElem (by omega)]; rfl, h.frozen _⟩

theorem Bk.range0 {w : World} {g : Nat} {t : TypeId} {cs : Array Value} (h : Bk w g t cs) : w.rangeAt g 0 cs.toList := fun j v hv => by
  rw [Nat.zero_add, h.cell]; simpa using hv

end Go.Proofs.Ytcedljfdnbenoaa
