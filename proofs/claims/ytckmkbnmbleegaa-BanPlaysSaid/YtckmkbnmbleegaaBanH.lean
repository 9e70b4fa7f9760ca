/-
  Package ban: what a ban and a sweep make of a table, as mathematics.
-/
import Derived.Test.YtckmkbnmbleegaaBanG
namespace Go.Proofs.Ytckmkbnmbleegaa
open Go.RowKit
set_option linter.unusedVariables false
set_option linter.unusedSimpArgs false
set_option maxRecDepth 100000

theorem find_raise (a u : Int) (L : List BanM) (x : BanM) (h : L.find? (isA a) = some x) : (raise a u L).find? (isA a) = some ⟨x.addr, max x.til u⟩ := by
  induction L with
  | nil => cases h
  | cons y r ih =>
    unfold raise
    by_cases hy : isA a y = true
    · rw [List.find?_cons_of_pos hy] at h
      cases h
      rw [if_pos hy]
      exact List.find?_cons_of_pos (by simpa [isA] using hy)
    · rw [List.find?_cons_of_neg hy] at h
      rw [if_neg hy, List.find?_cons_of_neg hy]
      exact ih h
theorem find_raise_other (a u c : Int) (hc : c ≠ a) (L : List BanM) : (raise a u L).find? (isA c) = L.find? (isA c) := by
  induction L with
  | nil => rfl
  | cons y r ih =>
    unfold raise
    by_cases hy : isA a y = true
    · have ha : y.addr = a := by simpa [isA] using hy
      have h1 : ¬ isA c y = true := by
        simp only [isA, beq_iff_eq]
        rw [ha]
        exact fun h => hc h.symm
      rw [if_pos hy, List.find?_cons_of_neg (l := r) h1, List.find?_cons_of_neg (a := (⟨y.addr, max y.til u⟩ : BanM)) (l := r) h1]
    · rw [if_neg hy]
      by_cases hcy : isA c y = true
      · rw [List.find?_cons_of_pos hcy, List.find?_cons_of_pos hcy]
      · rw [List.find?_cons_of_neg hcy, List.find?_cons_of_neg hcy, ih]
theorem isA_self (a u : Int) : isA a ⟨a, u⟩ = true := by simp [isA]
theorem til_some {L : List BanM} {a : Int} {x : BanM} (h : L.find? (isA a) = some x) : til L a = (x.til, true) := by unfold til; rw [h]
theorem til_none {L : List BanM} {a : Int} (h : L.find? (isA a) = none) : til L a = (0, false) := by unfold til; rw [h]
theorem banF_hit {L : List BanM} {a : Int} {x : BanM} (u : Int) (h : L.find? (isA a) = some x) : banF L a u = raise a u L := by
  unfold banF
  rw [h, if_pos (by rfl)]
theorem banF_room {L : List BanM} {a : Int} (u : Int) (h : L.find? (isA a) = none) (h32 : L.length < 32) : banF L a u = L ++ [⟨a, u⟩] := by
  unfold banF
  rw [h, if_neg (by decide), if_pos h32]
theorem banF_full {L : List BanM} {a : Int} (u : Int) (h : L.find? (isA a) = none) (h32 : ¬ L.length < 32) : banF L a u = (L ++ [(⟨a, u⟩ : BanM)]).filter (fun x => !isA (minB (L ++ [(⟨a, u⟩ : BanM)])).addr x) := by
  unfold banF
  rw [h, if_neg (by decide), if_neg h32]
theorem find_snoc {L : List BanM} {a : Int} (u : Int) (h : L.find? (isA a) = none) : (L ++ [(⟨a, u⟩ : BanM)]).find? (isA a) = some ⟨a, u⟩ := by
  rw [List.find?_append, h]
  exact List.find?_cons_of_pos (isA_self a u)
/-- Who was banned last is banned, unless there is no room; and no shorter than until then. -/
theorem til_ban (L : List BanM) (a u : Int) : (L.length < 32 → (til (banF L a u) a).2 = true) ∧ ((til (banF L a u) a).2 = true → u ≤ (til (banF L a u) a).1) := by
  cases hf : L.find? (isA a) with
  | some x =>
    rw [banF_hit u hf, til_some (find_raise a u L x hf)]
    exact ⟨fun _ => rfl, fun _ => by show u ≤ max _ _; omega⟩
  | none =>
    by_cases h32 : L.length < 32
    · rw [banF_room u hf h32, til_some (find_snoc u hf)]
      exact ⟨fun _ => rfl, fun _ => Int.le_refl _⟩
    · refine ⟨fun h => absurd h h32, ?_⟩
      rw [banF_full u hf h32]
      generalize (fun x => !isA (minB (L ++ [(⟨a, u⟩ : BanM)])).addr x) = p
      have h1 : (L.filter p).find? (isA a) = none := List.find?_eq_none.2 (fun y hy => List.find?_eq_none.1 hf y ((List.mem_filter.1 hy).1))
      rw [List.filter_append]
      cases hp : p ⟨a, u⟩ with
      | true =>
        rw [List.filter_cons_of_pos hp, til_some (x := ⟨a, u⟩) (by rw [List.find?_append, h1]; exact List.find?_cons_of_pos (isA_self a u))]
        exact fun _ => Int.le_refl _
      | false =>
        rw [List.filter_cons_of_neg (by rw [hp]; decide), til_none (by rw [List.find?_append, h1]; rfl)]
        intro h
        cases h
end Go.Proofs.Ytckmkbnmbleegaa
