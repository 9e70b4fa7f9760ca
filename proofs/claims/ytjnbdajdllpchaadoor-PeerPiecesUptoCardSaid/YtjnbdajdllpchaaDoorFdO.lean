/-
  A feed that lies in the midst of another struct.
-/
import Derived.Test.YtjnbdajdllpchaaDoorBytZ
namespace Go.Proofs.YtjnbdajdllpchaaDoor
set_option linter.unusedVariables false
set_option linter.unusedSimpArgs false
/-- Where a feed may lie: in a block of another type, with room for its two cells. -/
class FdOk (FT : TypeId) (FR : Array Value) (fo : Nat) : Prop where
  ne : FT ≠ 5
  nf : FT ≠ 82
  sz : fo + 1 < FR.size
/-- The block's cells, with the feed's two. -/
def fdA (FR : Array Value) (fo : Nat) (v e : Value) : Array Value := (FR.setIfInBounds fo v).setIfInBounds (fo + 1) e
theorem fdA_0 {FR : Array Value} {fo : Nat} (h : fo + 1 < FR.size) (v e : Value) : (fdA FR fo v e)[fo]? = some v := by
  unfold fdA
  rw [Array.getElem?_setIfInBounds_ne (by omega), Array.getElem?_setIfInBounds_self_of_lt (by omega)]
theorem fdA_1 {FR : Array Value} {fo : Nat} (h : fo + 1 < FR.size) (v e : Value) : (fdA FR fo v e)[fo + 1]? = some e := by
  unfold fdA
  rw [Array.getElem?_setIfInBounds_self_of_lt (by simp; omega)]
theorem fdA_s0 {FR : Array Value} {fo : Nat} (v e u : Value) : (fdA FR fo v e).setIfInBounds fo u = fdA FR fo u e := by
  unfold fdA
  apply Array.ext_getElem?
  intro i
  simp only [Array.getElem?_setIfInBounds, Array.size_setIfInBounds]
  by_cases h1 : fo = i
  · subst h1
    simp
  · simp only [if_neg h1]
theorem fdA_s1 {FR : Array Value} {fo : Nat} (v e u : Value) : (fdA FR fo v e).setIfInBounds (fo + 1) u = fdA FR fo v u := by
  unfold fdA
  apply Array.ext_getElem?
  intro i
  simp only [Array.getElem?_setIfInBounds, Array.size_setIfInBounds]
  split <;> rfl
theorem fd0 {FT : TypeId} {FR : Array Value} {fo : Nat} [hfd : FdOk FT FR fo] {w : World} {p : Nat} {v e : Value} (K : Bk w p FT (fdA FR fo v e)) : w.cell? ⟨p, fo, none⟩ = some v := (K.cell fo).trans (fdA_0 hfd.sz v e)
theorem fd1 {FT : TypeId} {FR : Array Value} {fo : Nat} [hfd : FdOk FT FR fo] {w : World} {p : Nat} {v e : Value} (K : Bk w p FT (fdA FR fo v e)) : w.cell? ⟨p, fo + 1, none⟩ = some e := (K.cell (fo + 1)).trans (fdA_1 hfd.sz v e)
theorem fds0 {FT : TypeId} {FR : Array Value} {fo : Nat} {w : World} {p : Nat} {v e : Value} (K : Bk w p FT (fdA FR fo v e)) (u : Value) : Bk (w.setCell ⟨p, fo, none⟩ u) p FT (fdA FR fo u e) := by
  have h := K.set_ fo u
  rw [fdA_s0] at h
  exact h
theorem fds1 {FT : TypeId} {FR : Array Value} {fo : Nat} {w : World} {p : Nat} {v e : Value} (K : Bk w p FT (fdA FR fo v e)) (u : Value) : Bk (w.setCell ⟨p, fo + 1, none⟩ u) p FT (fdA FR fo v u) := by
  have h := K.set_ (fo + 1) u
  rw [fdA_s1] at h
  exact h
end Go.Proofs.YtjnbdajdllpchaaDoor
