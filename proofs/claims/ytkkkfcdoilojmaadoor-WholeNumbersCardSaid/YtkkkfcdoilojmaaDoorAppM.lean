/-
  Bytes that are appended onto a slice that the call made itself: nil, with room, or without.
-/
import Derived.Test.YtkkkfcdoilojmaaDoorAppB
namespace Go.Proofs.YtkkkfcdoilojmaaDoor
open Go.RowKit
set_option linter.unusedVariables false

/-- A slice of the call's own, of just these bytes. -/
def Mine (W : World) (lo : Nat) (v : Value) (xs : List Nat) : Prop := (v = .slice none 0 0 ∧ xs = []) ∨
  ∃ T cap z, v = .slice (some ⟨T, 0, none⟩) xs.length cap ∧ cap = xs.length + z ∧ cap < 9223372036854775808 ∧ lo ≤ T ∧ Bk W T 5 (idA (xs ++ zeros z))
theorem Mine.keep {W W' : World} {lo : Nat} {v : Value} {xs : List Nat} (h : Mine W lo v xs) (hb : Below W.heap.size W W') : Mine W' lo v xs := by
  rcases h with h | ⟨T, cap, z, e, hc, hc2, hT, K⟩
  · exact .inl h
  · exact .inr ⟨T, cap, z, e, hc, hc2, hT, K.keep hb⟩
theorem Mine.bs {W : World} {lo : Nat} {v : Value} {xs : List Nat} (h : Mine W lo v xs) (hx : ∀ x ∈ xs, x < 256) : BsV W W.heap.size v xs := by
  rcases h with ⟨rfl, rfl⟩ | ⟨T, cap, z, rfl, hc, hc2, hT, K⟩
  · exact ⟨none, 0, rfl, Nat.le_refl _, by omega, by simp, fun h => absurd rfl h⟩
  · have h := bs_row K (n := xs.length) (cap := cap) (by simp) (by omega) hc2 (by
      intro y hy
      rcases List.mem_append.1 hy with h | h
      · exact hx y h
      · have := List.eq_of_mem_replicate h
        omega)
    have e : (xs ++ zeros z).take xs.length = xs := by simp
    rw [e] at h
    exact h
theorem idA_opt (l : List Nat) (i : Nat) : (idA l)[i]? = (l[i]?).map byteV := by unfold idA; simp
theorem ovr_bytes (xs ys : List Nat) (z : Nat) (h : ys.length ≤ z) : ovr (idA (xs ++ zeros z)) xs.length (ys.map byteV) = idA ((xs ++ ys) ++ zeros (z - ys.length)) := by
  apply Array.ext_getElem?
  intro i
  have hs : (idA (xs ++ zeros z)).size = xs.length + z := by simp [idA, zeros]
  rw [ovr_get, hs, List.length_map, idA_opt, idA_opt, List.append_assoc]
  by_cases h1 : i < xs.length
  · rw [if_neg (by omega), List.getElem?_append_left h1, List.getElem?_append_left h1]
  · rw [List.getElem?_append_right (by omega), List.getElem?_append_right (by omega)]
    by_cases h2 : i < xs.length + ys.length
    · rw [if_pos (by omega), List.getElem?_append_left (by omega), List.getElem?_map]
    · rw [if_neg (by omega), List.getElem?_append_right (by omega)]
      unfold zeros
      rw [List.getElem?_replicate, List.getElem?_replicate]
      by_cases h3 : i - xs.length < z
      · rw [if_pos h3, if_pos (by omega)]
      · rw [if_neg h3, if_neg (by omega)]
/-- The bytes, onto a slice of the call's own. -/
theorem app2 (xs ys : List Nat) (v u : Value) (lo : Nat) (w : World) (hm : Mine w lo v xs) (hlo : lo ≤ w.heap.size) (hu : BsV w w.heap.size u ys) (hlt : xs.length + ys.length ≤ 1048576) :
    ∃ v' W, (Builtin.append_ #[49, 49] 49 #[v, u]).run Tryd.prog w = .ok v' W ∧ Mine W lo v' (xs ++ ys) ∧ Below lo w W := by
  obtain ⟨i, hi, hz, hs, hby⟩ := byte_info
  obtain ⟨s, cap, rfl, h1, h2, h3, h4⟩ := hu
  by_cases h0 : ys = []
  · subst h0
    have hsrc : Src Tryd.prog i.size 49 (.slice s 0 cap) 0 [] w := by
      cases s with
      | none => exact Src.ofNil w Tryd.underlying49 cap
      | some a => exact Src.ofSlice w Tryd.underlying49 a 0 cap [] (by simp) (by simp) (by simp)
    rw [List.append_nil]
    rcases hm with ⟨rfl, rfl⟩ | ⟨T, c, z, rfl, hc, hc2, hT, K⟩
    · exact ⟨_, w, run_append_nothing w _ _ _ _ i Tryd.underlying49 hi _ 0 0 (Nat.le_refl _) _ hsrc, .inl ⟨rfl, rfl⟩, Below.refl _ _⟩
    · exact ⟨_, w, run_append_nothing w _ _ _ _ i Tryd.underlying49 hi _ xs.length c (by omega) _ hsrc, .inr ⟨T, c, z, rfl, hc, hc2, hT, K⟩, Below.refl _ _⟩
  · obtain ⟨b, o, rfl, hb, hc⟩ := h4 h0
    have hpos : 0 < ys.length := by
      rcases Nat.eq_zero_or_pos ys.length with h | h
      · exact absurd (List.eq_nil_of_length_eq_zero h) h0
      · exact h
    have hsrc : Src Tryd.prog i.size 49 (.slice (some ⟨b, o, none⟩) ys.length cap) ys.length (ys.map byteV) w :=
      Src.ofSlice w Tryd.underlying49 _ _ _ _ (by rw [hs]; simp) (fun j u hu => by
        rw [List.getElem?_map] at hu
        rcases hj : ys[j]? with _ | x
        · rw [hj] at hu; cases hu
        · rw [hj] at hu
          have hlt := (List.getElem?_eq_some_iff.1 hj).1
          rw [Go.WideShapes.add_plain, hc j hlt, ← hu]
          simp [nth, List.getD, hj, byteV]) (by
        intro u hu
        obtain ⟨x, _, rfl⟩ := List.mem_map.1 hu
        rfl)
    have grown : ∀ (sb : Option Addr) (c : Nat), c < xs.length + ys.length → (Builtin.firstCells i.size xs.length (.slice sb xs.length c)).run Tryd.prog w.drew = .ok (xs.map byteV).toArray w.drew →
        ∃ v' W, (Builtin.append_ #[49, 49] 49 #[.slice sb xs.length c, .slice (some ⟨b, o, none⟩) ys.length cap]).run Tryd.prog w = .ok v' W ∧ Mine W lo v' (xs ++ ys) ∧ Below lo w W := by
      intro sb c hcl hold
      have hge := grownCap_ge w (xs.length + ys.length) c 5
      have hle := grownCap_le_maxLen w (xs.length + ys.length) c 5 (by unfold maxLen; omega)
      unfold maxLen at hle
      have hrun := run_append_grow_src w 49 49 49 5 i _ Tryd.underlying49 hi hz sb xs.length c _ hold _ ys.length _ hsrc hcl (by omega) (growslice_fits_wide hcl (by rw [hby]; omega))
      rw [zero_bytes] at hrun
      refine ⟨_, _, hrun, .inr ⟨w.heap.size, grownCap w (xs.length + ys.length) c 5, grownCap w (xs.length + ys.length) c 5 - (xs.length + ys.length), by rw [List.length_append], by rw [List.length_append]; omega, by omega, hlo, ?_⟩, (Below.refl lo w).drew.alloc (by simpa using hlo) _⟩
      refine Eq.trans (heap_alloc_new w.drew _) ?_
      simp [idA]
    rcases hm with ⟨rfl, rfl⟩ | ⟨T, c, z, rfl, hcz, hc2, hT, K⟩
    · exact grown none 0 (by simpa using hpos) (run_firstCells_none w.drew _ 0 0 0)
    · rcases Nat.lt_or_ge c (xs.length + ys.length) with hg | hr
      · refine grown _ c hg (run_firstCells_some w.drew _ _ _ _ _ _ (by rw [hs]; simp) (fun j u hu => ?_))
        rw [List.getElem?_map] at hu
        rcases hj : xs[j]? with _ | x
        · rw [hj] at hu; cases hu
        · rw [hj] at hu
          have hl := (List.getElem?_eq_some_iff.1 hj).1
          rw [Go.WideShapes.add_plain, Nat.zero_add]
          refine (K.drew.cell j).trans ?_
          rw [idA_opt, List.getElem?_append_left hl, hj]
          exact hu
      · have hrun := run_append_room_src w 49 49 49 5 i Tryd.underlying49 hi T 0 xs.length c _ ys.length _ hsrc hr
          (fun j hj => by
            rw [hs, Nat.mul_one, Nat.zero_add, K.cell, idA_opt]
            have : xs.length + j < (xs ++ zeros z).length := by simp [zeros] at hj ⊢; omega
            rw [List.getElem?_eq_getElem this]; rfl)
          (fun j hj => by rw [hs, Nat.mul_one, Nat.zero_add]; exact K.frozen _)
        rw [hs, Nat.mul_one, Nat.zero_add] at hrun
        refine ⟨_, _, hrun, .inr ⟨T, c, z - ys.length, by rw [List.length_append], by rw [List.length_append]; omega, hc2, hT, ?_⟩, Below.setCells hT _ _ _ (Below.refl _ _)⟩
        have e := Bk.ovr_ (w := w) (ys.map byteV) xs.length w _ K
        rw [ovr_bytes xs ys z (by omega)] at e
        exact e
end Go.Proofs.YtkkkfcdoilojmaaDoor
