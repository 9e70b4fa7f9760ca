/-
  Two slices of the call's own, each appended to; plain mathematics of MerkleOne: lists of as many sums with one root.
-/
import Derived.Test.YtmjiadfdmchhaaaDoorStepsD
namespace Go.Proofs.YtmjiadfdmchhaaaDoor
open Go.RowKit
set_option linter.unusedVariables false

/-- All blocks are as they were but that in which v lies. -/
def ButB (v : Value) (w W : World) : Prop := ∀ b, b < w.heap.size → (∀ o n c, v ≠ .slice (some ⟨b, o, none⟩) n c) → W.heap[b]? = w.heap[b]?
/-- v' lies in v's block, or in a new one. -/
def NewOr (v v' : Value) (w : World) : Prop := ∀ T o n c, v' = .slice (some ⟨T, o, none⟩) n c → w.heap.size ≤ T ∨ ∃ o' n' c', v = .slice (some ⟨T, o', none⟩) n' c'
theorem heap_farO (w : World) (h : Nat) (vs : List Value) (o : Nat) (g : Nat) (hg : g ≠ h) : (w.setCells h o vs).heap[g]? = w.heap[g]? := by
  induction vs generalizing w o with
  | nil => rfl
  | cons v l ih => exact (ih (w.setCell ⟨h, o, none⟩ v) (o + 1)).trans (Below.heap_setCell w ⟨h, o, none⟩ v g hg)
theorem appI3 (xs ys : List (List Nat)) (v u : Value) (lo : Nat) (w : World) (hm : MineI w lo v xs) (hxs : IsIds xs) (hlo : lo ≤ w.heap.size) (hu : IdsV w w.heap.size u ys) (hlt : xs.length + ys.length ≤ 1048576) :
    ∃ v' W, (Builtin.append_ #[60, 60] 60 #[v, u]).run Tryd.prog w = .ok v' W ∧ MineI W lo v' (xs ++ ys) ∧ Below lo w W ∧ ButB v w W ∧ NewOr v v' w := by
  obtain ⟨i, hi, hz, hs, hby⟩ := id_infoA
  obtain ⟨s, cap, rfl, h1, h2, h3, h4⟩ := hu
  have fx := hxs.flat
  have fy := h3.flat
  by_cases h0 : ys = []
  · subst h0
    have hsrc : Src Tryd.prog i.size 60 (.slice s 0 cap) 0 [] w := by
      cases s with
      | none => exact Src.ofNil w Tryd.underlying60 cap
      | some a => exact Src.ofSlice w Tryd.underlying60 a 0 cap [] (by simp) (by simp) (by simp)
    rw [List.append_nil]
    rcases hm with ⟨rfl, rfl⟩ | ⟨T, c, z, rfl, hc, hc2, hT, K⟩
    · exact ⟨_, w, run_append_nothing w _ _ _ _ i Tryd.underlying60 hi _ 0 0 (Nat.le_refl _) _ hsrc, .inl ⟨rfl, rfl⟩, Below.refl _ _, fun _ _ _ => rfl, fun _ _ _ _ e => .inr ⟨_, _, _, e⟩⟩
    · exact ⟨_, w, run_append_nothing w _ _ _ _ i Tryd.underlying60 hi _ xs.length c (by omega) _ hsrc, .inr ⟨T, c, z, rfl, hc, hc2, hT, K⟩, Below.refl _ _, fun _ _ _ => rfl, fun _ _ _ _ e => .inr ⟨_, _, _, e⟩⟩
  · obtain ⟨b, o, rfl, hb, hc⟩ := h4 h0
    have hpos : 0 < ys.length := by
      rcases Nat.eq_zero_or_pos ys.length with h | h
      · exact absurd (List.eq_nil_of_length_eq_zero h) h0
      · exact h
    have hsrc : Src Tryd.prog i.size 60 (.slice (some ⟨b, o, none⟩) ys.length cap) ys.length (ys.flatten.map byteV) w :=
      Src.ofSlice w Tryd.underlying60 _ _ _ _ (by rw [hs, List.length_map, fy]) (fun j u hu => by
        rw [List.getElem?_map] at hu
        have hjl : j < ys.length * 32 := by
          rcases Nat.lt_or_ge j (ys.length * 32) with h | h
          · exact h
          · rw [List.getElem?_eq_none (by omega)] at hu; cases hu
        have hq : j / 32 < ys.length := by omega
        have hx := List.getElem?_eq_getElem hq
        have hr : j % 32 < 32 := Nat.mod_lt _ (by omega)
        have e1 := flat_get ys h3 (j / 32) (j % 32) _ hx hr
        have e2 := hc (j / 32) _ hx (j % 32) u (by
          rw [Array.getElem?_toList, idA_opt', ← e1, show j / 32 * 32 + j % 32 = j by omega]
          exact hu)
        rw [Go.WideShapes.add_plain]
        rw [show o + j / 32 * 32 + j % 32 = o + j by omega] at e2
        exact e2) (by
        intro u hu
        obtain ⟨x, _, rfl⟩ := List.mem_map.1 hu
        rfl)
    have grown : ∀ (sb : Option Addr) (c : Nat), c < xs.length + ys.length → (Builtin.firstCells i.size xs.length (.slice sb xs.length c)).run Tryd.prog w.drew = .ok (xs.flatten.map byteV).toArray w.drew →
        ∃ v' W, (Builtin.append_ #[60, 60] 60 #[.slice sb xs.length c, .slice (some ⟨b, o, none⟩) ys.length cap]).run Tryd.prog w = .ok v' W ∧ MineI W lo v' (xs ++ ys) ∧ Below lo w W ∧ ButB (.slice sb xs.length c) w W ∧ NewOr (.slice sb xs.length c) v' w := by
      intro sb c hcl hold
      have hge := grownCap_ge w (xs.length + ys.length) c 23
      have hle := grownCap_le_maxLen w (xs.length + ys.length) c 23 (by unfold maxLen; omega)
      unfold maxLen at hle
      have hrun := run_append_grow_src w 60 60 60 23 i _ Tryd.underlying60 hi hz sb xs.length c _ hold _ ys.length _ hsrc hcl (by omega) (growslice_fits_wide hcl (by rw [hby]; omega))
      rw [zero_ids] at hrun
      refine ⟨_, _, hrun, .inr ⟨w.heap.size, grownCap w (xs.length + ys.length) c 23, grownCap w (xs.length + ys.length) c 23 - (xs.length + ys.length), by rw [List.length_append], by rw [List.length_append]; omega, by omega, hlo, ?_⟩, (Below.refl lo w).drew.alloc (by simpa using hlo) _, fun b' hb' _ => Below.heap_alloc w.drew _ b' hb', fun T o' n' c' e => .inl (by cases e; exact Nat.le_refl _)⟩
      refine Eq.trans (heap_alloc_new w.drew _) ?_
      simp [idA]
    rcases hm with ⟨rfl, rfl⟩ | ⟨T, c, z, rfl, hcz, hc2, hT, K⟩
    · exact grown none 0 (by simpa using hpos) (run_firstCells_none w.drew _ 0 0 0)
    · rcases Nat.lt_or_ge c (xs.length + ys.length) with hg | hr
      · refine grown _ c hg (run_firstCells_some w.drew _ _ _ _ _ _ (by rw [hs, List.length_map, fx]) (fun j u hu => ?_))
        rw [List.getElem?_map] at hu
        rcases hj : xs.flatten[j]? with _ | x
        · rw [hj] at hu; cases hu
        · rw [hj] at hu
          have hl := (List.getElem?_eq_some_iff.1 hj).1
          rw [Go.WideShapes.add_plain, Nat.zero_add]
          refine (K.drew.cell j).trans ?_
          rw [idA_opt', List.getElem?_append_left hl, hj]
          exact hu
      · have hyl : (ys.flatten.map byteV).length = ys.length * 32 := by rw [List.length_map, fy]
        have hrun := run_append_room_src w 60 60 60 23 i Tryd.underlying60 hi T 0 xs.length c _ ys.length _ hsrc hr
          (fun j hj => by
            rw [hyl] at hj
            rw [hs, Nat.zero_add, K.cell, idA_opt']
            have : xs.length * 32 + j < (xs.flatten ++ zeros (z * 32)).length := by
              rw [List.length_append, fx]
              unfold zeros
              rw [List.length_replicate]
              omega
            rw [List.getElem?_eq_getElem this]; rfl)
          (fun j hj => by rw [hs, Nat.zero_add]; exact K.frozen _)
        rw [hs, Nat.zero_add] at hrun
        refine ⟨_, _, hrun, .inr ⟨T, c, z - ys.length, by rw [List.length_append], by rw [List.length_append]; omega, hc2, hT, ?_⟩, Below.setCells hT _ _ _ (Below.refl _ _), fun b' hb' hne => heap_farO w T _ _ b' (fun h => by subst h; exact hne 0 _ _ rfl), fun T' o' n' c' e => .inr (by cases e; exact ⟨_, _, _, rfl⟩)⟩
        have e := Bk.ovr_ (w := w) (ys.flatten.map byteV) xs.flatten.length w _ K
        rw [ovr_ids xs.flatten ys.flatten (z * 32) (ys.length * 32) fy (by omega), fx] at e
        rw [List.flatten_append, Nat.sub_mul]
        exact e

/-- v doesn't lie in block g. -/
def Far (v : Value) (g : Nat) : Prop := ∀ o n c, v ≠ .slice (some ⟨g, o, none⟩) n c
theorem far_new {w : World} {lo : Nat} {v : Value} {L : List (List Nat)} (h : MineI w lo v L) {g : Nat} (hg : w.heap.size ≤ g) : Far v g := by
  intro o n c e
  rcases h with ⟨h, _⟩ | ⟨T, cap, z, h, _, _, _, K⟩
  · rw [h] at e; cases e
  · rw [h] at e
    cases e
    have := K.lt
    omega
theorem but_bk {v : Value} {w W : World} {g : Nat} {t : TypeId} {cs : Array Value} (h : Bk w g t cs) (hb : ButB v w W) (hf : Far v g) : Bk W g t cs := (hb g h.lt hf).trans h
theorem step_app3 {ops : Array Oper} {o : Oper} {a : Act} {w : World} {K : Act → World → Prop} {Q : Exit → Act → World → Prop} {E : Prop} {v1 v2 : Value} (xs ys : List (List Nat)) (lo : Nat)
    (hg : o.guard = none) (s y : Operand) (hop : o.op = Op.call { callee := Callee.builtin Builtin.append, args := #[s, y], argTypes := #[60, 60] }) (hty : o.type = 60)
    (hs : a.eval s = v1) (hy : a.eval y = v2) (hm : MineI w lo v1 xs) (hxs : IsIds xs) (hlo : lo ≤ w.heap.size) (hu : IdsV w w.heap.size v2 ys) (hlt : xs.length + ys.length ≤ 1048576)
    (hK : ∀ v W, MineI W lo v (xs ++ ys) → Below lo w W → ButB v1 w W → NewOr v1 v w → K (a.put o.dst v) W) :
    if Region.wanted o (yielded ops a.tmps) = true then Oper.wp Tryd.prog o a w K Q else E := by
  obtain ⟨v, W, hrun, hM, hb, hbut, hn⟩ := appI3 xs ys v1 v2 lo w hm hxs hlo hu hlt
  exact step_appI hg s y hop hty hs hy hrun (hK v W hM hb hbut hn)
theorem parts_two_r {w : World} {b1 o1 b2 o2 h : Nat} {xs ys : List Nat} {u : TypeId} (hx : IsId xs) (hy : IsId ys) (l1 : b1 < w.heap.size) (l2 : b2 < w.heap.size) (h1 : w.rangeAt b1 o1 (idA xs).toList) (h2 : w.rangeAt b2 o2 (idA ys).toList)
    (hh : Bk w h u #[.slice (some ⟨b1, o1, none⟩) 32 32, .slice (some ⟨b2, o2, none⟩) 32 32]) : PartsV w (some ⟨h, 0, none⟩) [xs, ys] := by
  intro _
  refine ⟨h, 0, rfl, hh.lt, fun k zs hk => ?_⟩
  match k with
  | 0 =>
    obtain rfl : xs = zs := by simpa using hk
    exact ⟨_, hh.cell 0, some ⟨b1, o1, none⟩, 32, by rw [hx.1]; rfl, by rw [hx.1]; omega, by omega, hx.2, fun _ => ⟨b1, o1, rfl, l1, fun i hi => h1 i _ (by rw [Array.getElem?_toList]; exact idA_get xs i hi)⟩⟩
  | 1 =>
    obtain rfl : ys = zs := by simpa using hk
    exact ⟨_, hh.cell 1, some ⟨b2, o2, none⟩, 32, by rw [hy.1]; rfl, by rw [hy.1]; omega, by omega, hy.2, fun _ => ⟨b2, o2, rfl, l2, fun i hi => h2 i _ (by rw [Array.getElem?_toList]; exact idA_get ys i hi)⟩⟩
  | k + 2 => simp at hk
/-- An operation whose outcome the kernel reckons, as a step of a region that draws. -/
theorem step_run {ops : Array Oper} {o : Oper} {a : Act} {w : World} {K : Act → World → Prop} {Q : Exit → Act → World → Prop} {E : Prop} (hw : Region.wanted o (yielded ops a.tmps) = true) (v : Value) (W : World)
    (hrun : (execOp a.eval o).run Tryd.prog w = .ok (.value v) W) (hK : K (a.put o.dst v) W) :
    if Region.wanted o (yielded ops a.tmps) = true then Oper.wp Tryd.prog o a w K Q else E := by
  rw [if_pos hw]
  unfold Oper.wp
  rw [hrun, Oper.upon_value]
  exact hK
end Go.Proofs.YtmjiadfdmchhaaaDoor
