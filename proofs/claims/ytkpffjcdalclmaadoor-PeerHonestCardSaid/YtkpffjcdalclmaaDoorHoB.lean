/-
  Slices of bytes whose front is gone: what is behind may be appended to.
-/
import Derived.Test.YtkpffjcdalclmaaDoorHoA
namespace Go.Proofs.YtkpffjcdalclmaaDoor
open Go.RowKit
set_option linter.unusedVariables false
set_option linter.unusedSimpArgs false
set_option maxRecDepth 100000
/-- A slice of the call's own, somewhere in a block of its own. -/
def MineO (W : World) (lo : Nat) (v : Value) (xs : List Nat) : Prop := (v = .slice none 0 0 ∧ xs = []) ∨
  ∃ (T o cap : Nat) (pre sp post : List Nat), v = .slice (some ⟨T, o, none⟩) xs.length cap ∧ pre.length = o ∧ cap = xs.length + sp.length ∧ cap < 9223372036854775808 ∧ lo ≤ T ∧ Bk W T 5 (idA (pre ++ (xs ++ (sp ++ post))))
theorem MineO.of {W : World} {lo : Nat} {v : Value} {xs : List Nat} (h : Mine W lo v xs) : MineO W lo v xs := by
  rcases h with h | ⟨T, cap, z, e, hc, hc2, hT, K⟩
  · exact .inl h
  · exact .inr ⟨T, 0, cap, [], zeros z, [], e, rfl, by rw [zeros_length]; exact hc, hc2, hT, by rw [List.nil_append, List.append_nil]; exact K⟩
theorem MineO.keep {W W' : World} {lo : Nat} {v : Value} {xs : List Nat} (h : MineO W lo v xs) (hb : Below W.heap.size W W') : MineO W' lo v xs := by
  rcases h with h | ⟨T, o, cap, pre, sp, post, e, h1, h2, h3, h4, K⟩
  · exact .inl h
  · exact .inr ⟨T, o, cap, pre, sp, post, e, h1, h2, h3, h4, K.keep hb⟩
theorem MineO.slice {W : World} {lo : Nat} {v : Value} {xs : List Nat} (h : MineO W lo v xs) : ∃ s c, v = .slice s xs.length c := by
  rcases h with ⟨rfl, rfl⟩ | ⟨T, o, cap, pre, sp, post, rfl, _⟩
  · exact ⟨none, 0, rfl⟩
  · exact ⟨_, _, rfl⟩
theorem MineO.slb_lo {W : World} {lo : Nat} {v : Value} {xs : List Nat} (h : MineO W lo v xs) {k : Nat} (hk : slb v k) : lo ≤ k ∧ k < W.heap.size ∧ ∃ ys, Bk W k 5 (idA ys) := by
  rcases h with ⟨rfl, rfl⟩ | ⟨T, o, cap, pre, sp, post, rfl, _, _, _, h4, K⟩
  · exact absurd hk (slb_none _ _ _)
  · rw [slb_some hk]
    exact ⟨h4, K.lt, _, K⟩
theorem MineO.but {W W' : World} {lo : Nat} {S : Nat → Prop} {v : Value} {xs : List Nat} (h : MineO W lo v xs) (hb : But S W W') (hs : ∀ k, slb v k → ¬ S k) : MineO W' lo v xs := by
  rcases h with h | ⟨T, o, cap, pre, sp, post, e, h1, h2, h3, h4, K⟩
  · exact .inl h
  · exact .inr ⟨T, o, cap, pre, sp, post, e, h1, h2, h3, h4, hb.keep K (hs T (by rw [e]; exact ⟨_, _, _, rfl, rfl⟩))⟩
theorem mid_get (pre xs r : List Nat) (i : Nat) (hi : i < xs.length) : (idA (pre ++ (xs ++ r)))[pre.length + i]? = some (byteV (nth xs i)) := by
  rw [idA_opt, List.getElem?_append_right (by omega), List.getElem?_append_left (by omega), show pre.length + i - pre.length = i from by omega, List.getElem?_eq_getElem hi]
  simp [nth, List.getD, List.getElem?_eq_getElem hi]
theorem MineO.bsn {w : World} {lo : Nat} {v : Value} {xs : List Nat} {S : Nat → Prop} (h : MineO w lo v xs) (hx : ∀ x ∈ xs, x < 256) (hs : ∀ k, slb v k → ¬ S k) : BsN w S v xs := by
  rcases h with ⟨rfl, rfl⟩ | ⟨T, o, cap, pre, sp, post, rfl, h1, h2, h3, h4, K⟩
  · exact bsn_nil w S none 0 (by decide)
  · refine ⟨_, cap, rfl, by omega, h3, hx, fun hne => ⟨T, o, rfl, K.lt, hs T ⟨_, _, _, rfl, rfl⟩, fun i hi => ?_⟩⟩
    rw [K.cell, ← h1, mid_get pre xs _ i hi]
    rfl
/-- What is behind the first k. -/
theorem MineO.rest {w : World} {lo T o n cap : Nat} {xs : List Nat} (h : MineO w lo (.slice (some ⟨T, o, none⟩) n cap) xs) (k : Nat) (hk : k ≤ xs.length) : MineO w lo (.slice (dropA ⟨T, o, none⟩ cap k) (n - k) (cap - k)) (xs.drop k) := by
  rcases h with ⟨e, _⟩ | ⟨T', o', cap', pre, sp, post, e, h1, h2, h3, h4, K⟩
  · cases e
  · cases e
    unfold dropA
    by_cases hck : cap = k
    · rw [if_pos hck]
      have hd : xs.drop k = [] := List.drop_eq_nil_of_le (by omega)
      have hsp : sp = [] := List.eq_nil_of_length_eq_zero (by omega)
      refine .inr ⟨T, o, cap - k, pre, [], xs ++ post, by rw [hd]; show Value.slice _ (xs.length - k) _ = _; rw [show xs.length - k = 0 by omega]; rfl, h1, by rw [hd]; simp; omega, by omega, h4, ?_⟩
      rw [hd]
      rw [hsp] at K
      exact K
    · rw [if_neg hck]
      refine .inr ⟨T, o + k, cap - k, pre ++ xs.take k, sp, post, by rw [Go.WideShapes.add_plain, List.length_drop], by rw [List.length_append, List.length_take]; omega, by rw [List.length_drop]; omega, by omega, h4, ?_⟩
      have e : pre ++ xs.take k ++ (xs.drop k ++ (sp ++ post)) = pre ++ (xs ++ (sp ++ post)) := by
        rw [List.append_assoc, ← List.append_assoc (xs.take k), List.take_append_drop]
      rw [e]
      exact K
theorem ovr_mid (A B C ys : List Nat) (h : ys.length = B.length) : ovr (idA (A ++ (B ++ C))) A.length (ys.map byteV) = idA (A ++ (ys ++ C)) := by
  apply Array.ext_getElem?
  intro i
  have hs : (idA (A ++ (B ++ C))).size = A.length + (B.length + C.length) := by simp [idA]
  rw [ovr_get, hs, List.length_map, idA_opt, idA_opt]
  by_cases h1 : i < A.length
  · rw [if_neg (by omega), List.getElem?_append_left h1, List.getElem?_append_left h1]
  · rw [List.getElem?_append_right (l₁ := A) (l₂ := B ++ C) (by omega), List.getElem?_append_right (l₁ := A) (l₂ := ys ++ C) (by omega)]
    by_cases h2 : i < A.length + ys.length
    · rw [if_pos (by omega), List.getElem?_append_left (l₁ := ys) (l₂ := C) (by omega), List.getElem?_map]
    · rw [if_neg (by omega), List.getElem?_append_right (l₁ := B) (l₂ := C) (by omega), List.getElem?_append_right (l₁ := ys) (l₂ := C) (by omega), h]
theorem appO (xs ys : List Nat) (v u : Value) (lo : Nat) (w : World) (hm : MineO w lo v xs) (hlo : lo ≤ w.heap.size) (hu : BsV w w.heap.size u ys) (hlt : xs.length + ys.length ≤ 8589934592) :
    ∃ v' W, (Builtin.append_ #[32, 32] 32 #[v, u]).run Tryd.prog w = .ok v' W ∧ MineO W lo v' (xs ++ ys) ∧ But (slb v) w W ∧ (∀ k, slb v' k → slb v k ∨ w.heap.size ≤ k) := by
  rcases hm with ⟨rfl, rfl⟩ | ⟨T, o, c, pre, sp, post, rfl, hpo, hcz, hc2, hT, K⟩
  · obtain ⟨v', W, h1, h2, h3, h4⟩ := app3 [] ys (.slice none 0 0) u lo w (.inl ⟨rfl, rfl⟩) hlo hu hlt
    exact ⟨v', W, h1, .of h2, h3, h4⟩
  obtain ⟨i, hi, hz, hs, hby⟩ := byte_info
  obtain ⟨s, cap, rfl, h1, h2, h3, h4⟩ := hu
  by_cases h0 : ys = []
  · subst h0
    have hsrc : Src Tryd.prog i.size 32 (.slice s 0 cap) 0 [] w := by
      cases s with
      | none => exact Src.ofNil w Tryd.underlying32 cap
      | some a => exact Src.ofSlice w Tryd.underlying32 a 0 cap [] (by simp) (by simp) (by simp)
    rw [List.append_nil]
    exact ⟨_, w, run_append_nothing w _ _ _ _ i Tryd.underlying32 hi _ xs.length c (by omega) _ hsrc, .inr ⟨T, o, c, pre, sp, post, rfl, hpo, hcz, hc2, hT, K⟩, But.refl _ _, fun k h => .inl h⟩
  · obtain ⟨b, bo, rfl, hb, hc⟩ := h4 h0
    have hpos : 0 < ys.length := by
      rcases Nat.eq_zero_or_pos ys.length with h | h
      · exact absurd (List.eq_nil_of_length_eq_zero h) h0
      · exact h
    have hsrc : Src Tryd.prog i.size 32 (.slice (some ⟨b, bo, none⟩) ys.length cap) ys.length (ys.map byteV) w :=
      Src.ofSlice w Tryd.underlying32 _ _ _ _ (by rw [hs]; simp) (fun j u hu => by
        rw [List.getElem?_map] at hu
        rcases hj : ys[j]? with _ | x
        · rw [hj] at hu; cases hu
        · rw [hj] at hu
          have hlt := (List.getElem?_eq_some_iff.1 hj).1
          rw [Go.WideShapes.add_plain, hc j hlt, ← hu]
          simp [nth, List.getD, hj, byteV]) (by
        intro u hu
        obtain ⟨x, _, rfl⟩ := List.mem_map.1 hu
        rfl)
    rcases Nat.lt_or_ge c (xs.length + ys.length) with hg | hr
    · have hold : (Builtin.firstCells i.size xs.length (.slice (some ⟨T, o, none⟩) xs.length c)).run Tryd.prog w.drew = .ok (xs.map byteV).toArray w.drew := by
        refine run_firstCells_some w.drew _ _ _ _ _ _ (by rw [hs]; simp) (fun j u hu => ?_)
        rw [List.getElem?_map] at hu
        rcases hj : xs[j]? with _ | x
        · rw [hj] at hu; cases hu
        · rw [hj] at hu
          have hl := (List.getElem?_eq_some_iff.1 hj).1
          rw [Go.WideShapes.add_plain]
          refine (K.drew.cell (o + j)).trans ?_
          rw [← hpo, mid_get pre xs _ j hl, ← hu]
          simp [nth, List.getD, hj]
      have hge := grownCap_ge w (xs.length + ys.length) c 5
      have hle := grownCap_le_maxLen w (xs.length + ys.length) c 5 (by unfold maxLen; omega)
      unfold maxLen at hle
      have hrun := run_append_grow_src w 32 32 32 5 i _ Tryd.underlying32 hi hz (some ⟨T, o, none⟩) xs.length c _ hold _ ys.length _ hsrc hg (by omega) (growslice_fits_wide hg (by rw [hby]; omega))
      rw [zero_bytes] at hrun
      refine ⟨_, _, hrun, .of (.inr ⟨w.heap.size, grownCap w (xs.length + ys.length) c 5, grownCap w (xs.length + ys.length) c 5 - (xs.length + ys.length), by rw [List.length_append], by rw [List.length_append]; omega, by omega, hlo, ?_⟩), ((But.refl _ w).drew.alloc _), fun k h => .inr (by rw [slb_some h]; exact Nat.le_refl _)⟩
      refine Eq.trans (heap_alloc_new w.drew _) ?_
      simp [idA]
    · have hrun := run_append_room_src w 32 32 32 5 i Tryd.underlying32 hi T o xs.length c _ ys.length _ hsrc hr
        (fun j hj => by
          rw [hs, Nat.mul_one, K.cell, idA_opt]
          have : o + xs.length + j < (pre ++ (xs ++ (sp ++ post))).length := by simp at hj ⊢; omega
          rw [List.getElem?_eq_getElem this]; rfl)
        (fun j hj => by rw [hs, Nat.mul_one]; exact K.frozen _)
      rw [hs, Nat.mul_one] at hrun
      have e := Bk.ovr_ (w := w) (ys.map byteV) (o + xs.length) w _ K
      have hl : (pre ++ xs).length = o + xs.length := by rw [List.length_append, hpo]
      rw [← List.append_assoc pre xs, ← List.take_append_drop ys.length sp, List.append_assoc (sp.take ys.length), ← hl, ovr_mid _ _ _ _ (by rw [List.length_take]; omega)] at e
      rw [hl] at e
      refine ⟨_, _, hrun, .inr ⟨T, o, c, pre, sp.drop ys.length, post, by rw [List.length_append], hpo, by rw [List.length_append, List.length_drop]; omega, hc2, hT, ?_⟩, But.setCells (S := slb (.slice (some ⟨T, o, none⟩) xs.length c)) ⟨_, _, _, rfl, rfl⟩ _ _ _ (But.refl _ _), fun k h => .inl ⟨_, _, _, rfl, (slb_some h).symm⟩⟩
      simpa [List.append_assoc] using e
end Go.Proofs.YtkpffjcdalclmaaDoor
