/-
  Package ban: two tables apart.
-/
import Derived.Test.YtckmkbnmbleegaaBanI
namespace Go.Proofs.Ytckmkbnmbleegaa
open Go.RowKit
set_option linter.unusedVariables false
set_option linter.unusedSimpArgs false
set_option maxRecDepth 100000

/-- The two slices lie in blocks of their own. -/
def ApartV (v v' : Value) : Prop := ∀ k, slb v k → ¬ slb v' k
theorem ApartV.symm {v v' : Value} (h : ApartV v v') : ApartV v' v := fun k h1 h2 => h k h2 h1
theorem Tab.other {w w' : World} {T T' : Nat} {v v' v2 : Value} {lo lo' : Nat} {M M' : List BanM} (h : Tab w T v lo M) (h' : Tab w T' v' lo' M') (hT : T ≠ T') (hA : ApartV v v')
    (hb : But (fun k => k = T' ∨ slb v' k) w w') (hs : ∀ k, slb v2 k → slb v' k ∨ w.heap.size ≤ k) : Tab w' T v lo M ∧ ApartV v v2 := by
  refine ⟨⟨hb.keep h.G (fun e => ?_), h.M.but_ hb (fun k hk e => ?_)⟩, fun k hk hk2 => ?_⟩
  · rcases e with e | e
    · exact hT e
    · exact (h'.M.apart h.G tab_ne) e
  · rcases e with e | e
    · subst e
      exact (h.M.apart h'.G tab_ne) hk
    · exact hA k hk e
  · rcases hs k hk2 with h1 | h1
    · exact hA k hk h1
    · have := (h.M.slb_lo hk).2.1
      omega
theorem raise_cons {A u0 a u : Int} (ha : a ≠ A) (M : List BanM) : raise a u (⟨A, u0⟩ :: M) = ⟨A, u0⟩ :: raise a u M := by
  conv => lhs; unfold raise
  rw [if_neg (by simp [isA]; exact fun h => ha h.symm)]
theorem find_cons {A u0 a : Int} (ha : a ≠ A) (M : List BanM) : ((⟨A, u0⟩ : BanM) :: M).find? (isA a) = M.find? (isA a) := List.find?_cons_of_neg (by simp [isA]; exact fun h => ha h.symm)
theorem banF_cons {A u0 a u : Int} (ha : a ≠ A) (M : List BanM) (hl : M.length < 31) : banF (⟨A, u0⟩ :: M) a u = ⟨A, u0⟩ :: banF M a u ∧ (banF M a u).length ≤ M.length + 1 := by
  cases hf : M.find? (isA a) with
  | some x =>
    rw [banF_hit u hf, banF_hit u (by rw [find_cons ha]; exact hf), raise_cons ha]
    exact ⟨rfl, by rw [raise_len]; omega⟩
  | none =>
    rw [banF_room u hf (by omega), banF_room u (by rw [find_cons ha]; exact hf) (by rw [List.length_cons]; omega)]
    exact ⟨rfl, by simp⟩
theorem til_cons {A u0 a : Int} (ha : a ≠ A) (M : List BanM) : til (⟨A, u0⟩ :: M) a = til M a := by unfold til; rw [find_cons ha]
theorem til_self {A u0 : Int} (M : List BanM) : til (⟨A, u0⟩ :: M) A = (u0, true) := til_some (List.find?_cons_of_pos (isA_self A u0))
end Go.Proofs.Ytckmkbnmbleegaa
