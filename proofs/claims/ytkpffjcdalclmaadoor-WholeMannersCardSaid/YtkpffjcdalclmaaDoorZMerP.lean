/- Texts in one: IdsA, IdsB, MerA, MerB, MerC, MerD. -/
import Derived.Test.YtkpffjcdalclmaaDoorZHashZ
import Derived.Laws.MakeOwn
import Derived.Great.BuildSlice
import Derived.StillTailTactics
import Derived.Deep.RegionLaw
namespace Go.Proofs.YtkpffjcdalclmaaDoor
open Go.RowKit
set_option linter.unusedVariables false
def IsId (x : List Nat) : Prop := x.length = 32 ∧ ∀ b ∈ x, b < 256
def IsIds (L : List (List Nat)) : Prop := ∀ x ∈ L, IsId x
theorem IsIds.flat {L : List (List Nat)} (h : IsIds L) : L.flatten.length = L.length * 32 := by
  induction L with
  | nil => rfl
  | cons x r ih =>
    rw [List.flatten_cons, List.length_append, (h x (by simp)).1, ih (fun y hy => h y (by simp [hy])), List.length_cons]
    omega
theorem IsIds.app {L M : List (List Nat)} (h : IsIds L) (k : IsIds M) : IsIds (L ++ M) := fun x hx => (List.mem_append.1 hx).elim (h x) (k x)
theorem IsIds.one {x : List Nat} (h : IsId x) : IsIds [x] := fun y hy => by
  obtain rfl : y = x := by simpa using hy
  exact h
theorem IsIds.nil : IsIds [] := fun x hx => by cases hx
theorem IsIds.at_ {L : List (List Nat)} (h : IsIds L) {i : Nat} {x : List Nat} (hi : L[i]? = some x) : IsId x := h x (List.mem_of_getElem? hi)
theorem flat_get (L : List (List Nat)) (h : IsIds L) (i j : Nat) (x : List Nat) (hi : L[i]? = some x) (hj : j < 32) : L.flatten[i * 32 + j]? = x[j]? := by
  induction L generalizing i with
  | nil => cases hi
  | cons y r ih =>
    have hy := (h y (by simp)).1
    cases i with
    | zero =>
      obtain rfl : y = x := by simpa using hi
      rw [List.flatten_cons, Nat.zero_mul, Nat.zero_add, List.getElem?_append_left (by omega)]
    | succ i =>
      rw [List.flatten_cons, List.getElem?_append_right (by omega), show (i + 1) * 32 + j - y.length = i * 32 + j by omega]
      exact ih (fun z hz => h z (by simp [hz])) i (by simpa using hi)
def IdsV (w : World) (B : Nat) (v : Value) (L : List (List Nat)) : Prop := ∃ s cap, v = .slice s L.length cap ∧ L.length ≤ cap ∧ cap < 9223372036854775808 ∧ IsIds L ∧
  (L ≠ [] → ∃ b o, s = some ⟨b, o, none⟩ ∧ b < B ∧ ∀ i x, L[i]? = some x → w.rangeAt b (o + i * 32) (idA x).toList)
theorem idr_below {C : Nat} {w w' : World} {b o : Nat} {cs : List Value} (h : w.rangeAt b o cs) (hb : Below C w w') (hC : b < C) : w'.rangeAt b o cs := fun j v hv => (hb.cell (p := ⟨b, o + j, none⟩) hC).trans (h j v hv)
theorem IdsV.keep {w w' : World} {B : Nat} {v : Value} {L : List (List Nat)} (h : IdsV w B v L) {C : Nat} (hb : Below C w w') (hC : B ≤ C) : IdsV w' B v L := by
  obtain ⟨s, cap, rfl, h1, h2, h3, h4⟩ := h
  refine ⟨s, cap, rfl, h1, h2, h3, fun hne => ?_⟩
  obtain ⟨b, o, e, hb', hc⟩ := h4 hne
  exact ⟨b, o, e, hb', fun i x hx => idr_below (hc i x hx) hb (by omega)⟩
theorem IdsV.mono {w : World} {B C : Nat} {v : Value} {L : List (List Nat)} (h : IdsV w B v L) (hC : B ≤ C) : IdsV w C v L := by
  obtain ⟨s, cap, rfl, h1, h2, h3, h4⟩ := h
  refine ⟨s, cap, rfl, h1, h2, h3, fun hne => ?_⟩
  obtain ⟨b, o, e, hb', hc⟩ := h4 hne
  exact ⟨b, o, e, by omega, hc⟩
theorem IdsV.slice {w : World} {B : Nat} {v : Value} {L : List (List Nat)} (h : IdsV w B v L) : ∃ s c, v = .slice s L.length c := by
  obtain ⟨s, cap, rfl, _⟩ := h
  exact ⟨s, cap, rfl⟩
theorem IdsV.nil (w : World) (B : Nat) : IdsV w B (.slice none 0 0) [] := ⟨none, 0, rfl, Nat.le_refl _, by omega, IsIds.nil, fun h => absurd rfl h⟩
theorem IdsV.at_ {w : World} {B n c : Nat} {s : Option Addr} {L : List (List Nat)} (h : IdsV w B (.slice s n c) L) (hne : L ≠ []) : ∃ b o, s = some ⟨b, o, none⟩ ∧ b < B ∧ n = L.length ∧ ∀ i x, L[i]? = some x → w.rangeAt b (o + i * 32) (idA x).toList := by
  obtain ⟨s', cap, e, h1, h2, h3, h4⟩ := h
  cases e
  obtain ⟨b, o, e, hb, hc⟩ := h4 hne
  exact ⟨b, o, e, hb, rfl, hc⟩
def MineI (W : World) (lo : Nat) (v : Value) (L : List (List Nat)) : Prop := (v = .slice none 0 0 ∧ L = []) ∨
  ∃ T cap z, v = .slice (some ⟨T, 0, none⟩) L.length cap ∧ cap = L.length + z ∧ cap < 9223372036854775808 ∧ lo ≤ T ∧ Bk W T 50 (idA (L.flatten ++ zeros (z * 32)))
theorem MineI.keep {W W' : World} {lo : Nat} {v : Value} {L : List (List Nat)} (h : MineI W lo v L) (hb : Below W.heap.size W W') : MineI W' lo v L := by
  rcases h with h | ⟨T, cap, z, e, hc, hc2, hT, K⟩
  · exact .inl h
  · exact .inr ⟨T, cap, z, e, hc, hc2, hT, K.keep hb⟩
theorem MineI.slice {W : World} {lo : Nat} {v : Value} {L : List (List Nat)} (h : MineI W lo v L) : ∃ s c, v = .slice s L.length c := by
  rcases h with ⟨rfl, rfl⟩ | ⟨T, cap, z, rfl, _⟩
  · exact ⟨none, 0, rfl⟩
  · exact ⟨_, _, rfl⟩
end Go.Proofs.YtkpffjcdalclmaaDoor
namespace Go.Proofs.YtkpffjcdalclmaaDoor
open Go.RowKit
set_option linter.unusedVariables false
theorem id_one (O : List Nat) : ∀ v ∈ (idA O).toList, v.oneCell' = true := by
  intro v hv
  simp only [idA, List.mem_map] at hv
  obtain ⟨x, _, rfl⟩ := hv
  rfl
theorem id_ones (O : List Nat) : (idA O).all (·.oneCell') = true := all_oneCell_toArray (id_one O)
end Go.Proofs.YtkpffjcdalclmaaDoor
namespace Go.Proofs.YtkpffjcdalclmaaDoor
open Go.RowKit
set_option linter.unusedVariables false
def H2 (x y : List Nat) : List Nat := sha (sha (x ++ y))
end Go.Proofs.YtkpffjcdalclmaaDoor
namespace Go.Proofs.YtkpffjcdalclmaaDoor
open Go.RowKit
set_option linter.unusedVariables false
end Go.Proofs.YtkpffjcdalclmaaDoor
set_option maxRecDepth 100000
namespace Go.Proofs.YtkpffjcdalclmaaDoor
open Go.RowKit
set_option linter.unusedVariables false
end Go.Proofs.YtkpffjcdalclmaaDoor
namespace Go.Proofs.YtkpffjcdalclmaaDoor
open Go.RowKit
set_option linter.unusedVariables false
end Go.Proofs.YtkpffjcdalclmaaDoor
