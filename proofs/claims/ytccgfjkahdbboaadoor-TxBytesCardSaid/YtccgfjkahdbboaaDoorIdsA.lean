/-
  Words for names (sums of 32 bytes) in rows: a slice of names, names appended onto a slice of the call's own.
-/
import Derived.Test.YtccgfjkahdbboaaDoorHashZ
import Derived.Laws.MakeOwn
namespace Go.Proofs.YtccgfjkahdbboaaDoor
open Go.RowKit
set_option linter.unusedVariables false

def IsId (x : List Nat) : Prop := x.length = 32 ∧ ∀ b ∈ x, b < 256
def IsIds (L : List (List Nat)) : Prop := ∀ x ∈ L, IsId x
theorem IsIds.flat {L : List (List Nat)} (h : IsIds L) : L.flatten.length = L.length * 32 := by
  induction L with
  | nil => rfl
  | cons x r ih =>
    rw [List.flatten_cons, List.length_append, (h x (by simp)).1, ih (fun y hy => h y (by simp [hy])), List.length_cons]
    omega
theorem IsIds.app {L M : List (List Nat)} (h : IsIds L) (k : IsIds M) : IsIds (L ++ M) := fun x hx => (List.mem_append.1 hx).elim (h x) (k x)
theorem IsIds.one {x : List Nat} (h : IsId x) : IsIds [x] := fun y hy => by
  obtain rfl : y = x := by simpa using hy
  exact h
theorem IsIds.nil : IsIds [] := fun x hx => by cases hx
theorem IsIds.at_ {L : List (List Nat)} (h : IsIds L) {i : Nat} {x : List Nat} (hi : L[i]? = some x) : IsId x := h x (List.mem_of_getElem? hi)
/-- Where a name of a row stands. -/
theorem flat_get (L : List (List Nat)) (h : IsIds L) (i j : Nat) (x : List Nat) (hi : L[i]? = some x) (hj : j < 32) : L.flatten[i * 32 + j]? = x[j]? := by
  induction L generalizing i with
  | nil => cases hi
  | cons y r ih =>
    have hy := (h y (by simp)).1
    cases i with
    | zero =>
      obtain rfl : y = x := by simpa using hi
      rw [List.flatten_cons, Nat.zero_mul, Nat.zero_add, List.getElem?_append_left (by omega)]
    | succ i =>
      rw [List.flatten_cons, List.getElem?_append_right (by omega), show (i + 1) * 32 + j - y.length = i * 32 + j by omega]
      exact ih (fun z hz => h z (by simp [hz])) i (by simpa using hi)
/-- A slice whose names are these, in a block below B. -/
def IdsV (w : World) (B : Nat) (v : Value) (L : List (List Nat)) : Prop := ∃ s cap, v = .slice s L.length cap ∧ L.length ≤ cap ∧ cap < 9223372036854775808 ∧ IsIds L ∧
  (L ≠ [] → ∃ b o, s = some ⟨b, o, none⟩ ∧ b < B ∧ ∀ i x, L[i]? = some x → w.rangeAt b (o + i * 32) (idA x).toList)
theorem idr_below {C : Nat} {w w' : World} {b o : Nat} {cs : List Value} (h : w.rangeAt b o cs) (hb : Below C w w') (hC : b < C) : w'.rangeAt b o cs := fun j v hv => (hb.cell (p := ⟨b, o + j, none⟩) hC).trans (h j v hv)
theorem IdsV.keep {w w' : World} {B : Nat} {v : Value} {L : List (List Nat)} (h : IdsV w B v L) {C : Nat} (hb : Below C w w') (hC : B ≤ C) : IdsV w' B v L := by
  obtain ⟨s, cap, rfl, h1, h2, h3, h4⟩ := h
  refine ⟨s, cap, rfl, h1, h2, h3, fun hne => ?_⟩
  obtain ⟨b, o, e, hb', hc⟩ := h4 hne
  exact ⟨b, o, e, hb', fun i x hx => idr_below (hc i x hx) hb (by omega)⟩
theorem IdsV.mono {w : World} {B C : Nat} {v : Value} {L : List (List Nat)} (h : IdsV w B v L) (hC : B ≤ C) : IdsV w C v L := by
  obtain ⟨s, cap, rfl, h1, h2, h3, h4⟩ := h
  refine ⟨s, cap, rfl, h1, h2, h3, fun hne => ?_⟩
  obtain ⟨b, o, e, hb', hc⟩ := h4 hne
  exact ⟨b, o, e, by omega, hc⟩
theorem IdsV.slice {w : World} {B : Nat} {v : Value} {L : List (List Nat)} (h : IdsV w B v L) : ∃ s c, v = .slice s L.length c := by
  obtain ⟨s, cap, rfl, _⟩ := h
  exact ⟨s, cap, rfl⟩
theorem IdsV.ids {w : World} {B : Nat} {v : Value} {L : List (List Nat)} (h : IdsV w B v L) : IsIds L := by
  obtain ⟨s, cap, rfl, _, _, h, _⟩ := h
  exact h
theorem IdsV.nil (w : World) (B : Nat) : IdsV w B (.slice none 0 0) [] := ⟨none, 0, rfl, Nat.le_refl _, by omega, IsIds.nil, fun h => absurd rfl h⟩
/-- Where its names lie. -/
theorem IdsV.at_ {w : World} {B n c : Nat} {s : Option Addr} {L : List (List Nat)} (h : IdsV w B (.slice s n c) L) (hne : L ≠ []) : ∃ b o, s = some ⟨b, o, none⟩ ∧ b < B ∧ n = L.length ∧ ∀ i x, L[i]? = some x → w.rangeAt b (o + i * 32) (idA x).toList := by
  obtain ⟨s', cap, e, h1, h2, h3, h4⟩ := h
  cases e
  obtain ⟨b, o, e, hb, hc⟩ := h4 hne
  exact ⟨b, o, e, hb, rfl, hc⟩
/-- A slice of the call's own, of just these names. -/
def MineI (W : World) (lo : Nat) (v : Value) (L : List (List Nat)) : Prop := (v = .slice none 0 0 ∧ L = []) ∨
  ∃ T cap z, v = .slice (some ⟨T, 0, none⟩) L.length cap ∧ cap = L.length + z ∧ cap < 9223372036854775808 ∧ lo ≤ T ∧ Bk W T 29 (idA (L.flatten ++ zeros (z * 32)))
theorem MineI.keep {W W' : World} {lo : Nat} {v : Value} {L : List (List Nat)} (h : MineI W lo v L) (hb : Below W.heap.size W W') : MineI W' lo v L := by
  rcases h with h | ⟨T, cap, z, e, hc, hc2, hT, K⟩
  · exact .inl h
  · exact .inr ⟨T, cap, z, e, hc, hc2, hT, K.keep hb⟩
theorem MineI.slice {W : World} {lo : Nat} {v : Value} {L : List (List Nat)} (h : MineI W lo v L) : ∃ s c, v = .slice s L.length c := by
  rcases h with ⟨rfl, rfl⟩ | ⟨T, cap, z, rfl, _⟩
  · exact ⟨none, 0, rfl⟩
  · exact ⟨_, _, rfl⟩
theorem idA_opt' (l : List Nat) (i : Nat) : (idA l)[i]? = (l[i]?).map byteV := by unfold idA; simp
theorem row_ids {W : World} {T : Nat} {t : TypeId} {L : List (List Nat)} {r : List Nat} (hL : IsIds L) (K : Bk W T t (idA (L.flatten ++ r))) : ∀ i x, L[i]? = some x → W.rangeAt T (0 + i * 32) (idA x).toList := by
  intro i x hx j v hv
  have hxl := (hL.at_ hx).1
  have hil := (List.getElem?_eq_some_iff.1 hx).1
  have hj : j < 32 := by
    have := (List.getElem?_eq_some_iff.1 hv).1
    simp [idA_size, hxl] at this
    exact this
  rw [Nat.zero_add, K.cell, idA_opt', List.getElem?_append_left (by rw [hL.flat]; omega), flat_get L hL i j x hx hj]
  rw [← hv]
  simp [idA_opt']
theorem MineI.ids {W : World} {lo : Nat} {v : Value} {L : List (List Nat)} (h : MineI W lo v L) (hL : IsIds L) : IdsV W W.heap.size v L := by
  rcases h with ⟨rfl, rfl⟩ | ⟨T, cap, z, rfl, hc, hc2, hT, K⟩
  · exact IdsV.nil _ _
  · exact ⟨_, cap, rfl, by omega, hc2, hL, fun _ => ⟨T, 0, rfl, K.lt, row_ids hL K⟩⟩
/-- A row of names, just built. -/
theorem ids_row {w : World} {g n : Nat} {t : TypeId} {L : List (List Nat)} (hg : Bk w g t (idA L.flatten)) (hL : IsIds L) (hn : n = L.length) (hc : L.length < 9223372036854775808) : IdsV w w.heap.size (.slice (some ⟨g, 0, none⟩) n n) L := by
  subst hn
  have K : Bk w g t (idA (L.flatten ++ [])) := by rw [List.append_nil]; exact hg
  exact ⟨_, _, rfl, Nat.le_refl _, hc, hL, fun _ => ⟨g, 0, rfl, hg.lt, row_ids hL K⟩⟩
theorem id_facts : (Tryd.prog.info? 29).map (fun i => (i.zero, i.size, i.bytes)) = some (some (idv (zeros 32)), 32, 32) := by kernel_rfl
theorem id_infoA : ∃ i, Tryd.prog.info? 29 = some i ∧ i.zero = some (idv (zeros 32)) ∧ i.size = 32 ∧ i.bytes = 32 := by
  have h := id_facts
  revert h
  cases Tryd.prog.info? 29 with
  | none => intro h; cases h
  | some i =>
    intro h
    have h' : (i.zero, i.size, i.bytes) = (some (idv (zeros 32)), 32, 32) := Option.some.inj h
    simp only [Prod.mk.injEq] at h'
    exact ⟨i, rfl, h'.1, h'.2.1, h'.2.2⟩
theorem zero_get (i : Nat) (h : i < 32) : (zeros 32)[i]? = some 0 := by unfold zeros; rw [List.getElem?_replicate, if_pos h]
theorem cells_id (x : List Nat) : (idv x).cells = idA x := rfl
theorem zero_ids (k : Nat) : Builtin.zeroCells (idv (zeros 32)).cells k = idA (zeros (k * 32)) := by
  rw [cells_id]
  have hs : (idA (zeros 32)).size = 32 := by rw [idA_size]; rfl
  have he : ∀ m, m < 32 → (idA (zeros 32))[m]! = byteV 0 := by
    intro m hm
    have h := idA_opt' (zeros 32) m
    rw [zero_get m hm] at h
    rw [getElem!_def, h]
    rfl
  unfold Builtin.zeroCells
  rw [hs]
  apply Array.ext_getElem?
  intro i
  rw [idA_opt']
  unfold zeros
  rw [List.getElem?_replicate, Array.getElem?_map, Array.getElem?_range]
  by_cases h : i < k * 32
  · rw [if_pos h, if_pos h, Option.map_some, Option.map_some, ← he (i % 32) (Nat.mod_lt _ (by omega))]
    rfl
  · rw [if_neg h, if_neg h]
    rfl
theorem ovr_ids (xs ys : List Nat) (z m : Nat) (hm : ys.length = m) (h : m ≤ z) : ovr (idA (xs ++ zeros z)) xs.length (ys.map byteV) = idA ((xs ++ ys) ++ zeros (z - m)) := by
  subst hm
  exact ovr_bytes xs ys z h
end Go.Proofs.YtccgfjkahdbboaaDoor
