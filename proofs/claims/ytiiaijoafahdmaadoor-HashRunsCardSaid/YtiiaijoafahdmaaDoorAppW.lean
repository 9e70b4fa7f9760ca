/-
  Words that are appended onto a slice that the call made itself (as XAppM, over numbers of 32 bits).
-/
import Derived.Test.YtiiaijoafahdmaaDoorAppM
namespace Go.Proofs.YtiiaijoafahdmaaDoor
open Go.RowKit
set_option linter.unusedVariables false

/-- A slice whose bytes are these, in a block below B. -/
def WsV (w : World) (B : Nat) (v : Value) (xs : List Nat) : Prop := ∃ s cap, v = .slice s xs.length cap ∧ xs.length ≤ cap ∧ cap < 9223372036854775808 ∧ (∀ x ∈ xs, x < m32) ∧
  (xs ≠ [] → ∃ b o, s = some ⟨b, o, none⟩ ∧ b < B ∧ ∀ i, i < xs.length → w.cell? ⟨b, o + i, none⟩ = some (.int .u32 ((nth xs i : Nat) : Int)))
theorem WsV.keep {w w' : World} {B : Nat} {v : Value} {xs : List Nat} (h : WsV w B v xs) {C : Nat} (hb : Below C w w') (hC : B ≤ C) : WsV w' B v xs := by
  obtain ⟨s, cap, rfl, h1, h2, h3, h4⟩ := h
  refine ⟨s, cap, rfl, h1, h2, h3, fun hne => ?_⟩
  obtain ⟨b, o, e, hb', hc⟩ := h4 hne
  exact ⟨b, o, e, hb', fun i hi => (hb.cell (p := ⟨b, o + i, none⟩) (by show b < C; omega)).trans (hc i hi)⟩
theorem WsV.mono {w : World} {B C : Nat} {v : Value} {xs : List Nat} (h : WsV w B v xs) (hC : B ≤ C) : WsV w C v xs := by
  obtain ⟨s, cap, rfl, h1, h2, h3, h4⟩ := h
  refine ⟨s, cap, rfl, h1, h2, h3, fun hne => ?_⟩
  obtain ⟨b, o, e, hb', hc⟩ := h4 hne
  exact ⟨b, o, e, by omega, hc⟩
/-- A slice at the head of a row that is known whole. -/
theorem ws_row {w : World} {g n cap : Nat} {t : TypeId} {ys : List Nat} (hg : Bk w g t (wA ys)) (hn : n ≤ ys.length) (hc : n ≤ cap) (hc2 : cap < 9223372036854775808) (hx : ∀ y ∈ ys, y < m32) : WsV w w.heap.size (.slice (some ⟨g, 0, none⟩) n cap) (ys.take n) := by
  have hl : (ys.take n).length = n := by rw [List.length_take]; omega
  refine ⟨some ⟨g, 0, none⟩, cap, by rw [hl], by omega, hc2, fun x hxm => hx x (List.mem_of_mem_take hxm), fun hne => ⟨g, 0, rfl, hg.lt, fun i hi => ?_⟩⟩
  rw [hl] at hi
  rw [Nat.zero_add, hg.cell, wA_get ys i (by omega)]
  unfold nth
  rw [List.getD, List.getD, List.getElem?_take_of_lt hi]
theorem word_facts : (Tryd.prog.info? 34).map (fun i => (i.zero, i.size, i.bytes)) = some (some (.int .u32 0), 1, 4) := by kernel_rfl
theorem word_info : ∃ i, Tryd.prog.info? 34 = some i ∧ i.zero = some (.int .u32 0) ∧ i.size = 1 ∧ i.bytes = 4 := by
  have h := word_facts
  revert h
  cases Tryd.prog.info? 34 with
  | none => intro h; cases h
  | some i =>
    intro h
    have h' : (i.zero, i.size, i.bytes) = (some (Value.int .u32 0), 1, 4) := Option.some.inj h
    simp only [Prod.mk.injEq] at h'
    exact ⟨i, rfl, h'.1, h'.2.1, h'.2.2⟩
theorem zero_words (k : Nat) : Builtin.zeroCells (Value.int .u32 0).cells k = wA (zeros k) := by
  have hc : (Value.int .u32 0).cells = #[.int .u32 0] := rfl
  rw [hc]
  unfold Builtin.zeroCells wA zeros wordV
  apply Array.ext
  · simp
  · intro i h1 h2
    simp [Nat.mod_one]
/-- The step of an append whose outcome is known. -/
theorem wpList_appw {ops : Array Oper} {rest : List Oper} {o : Oper} {a : Act} {w W : World} {Q : Exit → Act → World → Prop} {v1 v2 v : Value} (hg : o.guard = none) (s x : Operand)
    (hop : o.op = Op.call { callee := Callee.builtin Builtin.append, args := #[s, x], argTypes := #[32, 32] }) (hty : o.type = 32) (hs : a.eval s = v1) (hx : a.eval x = v2)
    (hrun : (Builtin.append_ #[32, 32] 32 #[v1, v2]).run Tryd.prog w = .ok v W) (hK : wpList Tryd.prog ops Q rest (a.put o.dst v) W) : wpList Tryd.prog ops Q (o :: rest) a w := by
  refine wpList_plain hg fun K hK' => ?_
  unfold Oper.wp
  simp [execOp, hop, resolve, invoke, builtin, hs, hx, hty, hrun, Result.andThen]
  exact hK' _ _ hK
/-- A slice of the call's own, of just these bytes. -/
def MineW (W : World) (lo : Nat) (v : Value) (xs : List Nat) : Prop := (v = .slice none 0 0 ∧ xs = []) ∨
  ∃ T cap z, v = .slice (some ⟨T, 0, none⟩) xs.length cap ∧ cap = xs.length + z ∧ cap < 9223372036854775808 ∧ lo ≤ T ∧ Bk W T 34 (wA (xs ++ zeros z))
theorem MineW.keep {W W' : World} {lo : Nat} {v : Value} {xs : List Nat} (h : MineW W lo v xs) (hb : Below W.heap.size W W') : MineW W' lo v xs := by
  rcases h with h | ⟨T, cap, z, e, hc, hc2, hT, K⟩
  · exact .inl h
  · exact .inr ⟨T, cap, z, e, hc, hc2, hT, K.keep hb⟩
theorem MineW.bs {W : World} {lo : Nat} {v : Value} {xs : List Nat} (h : MineW W lo v xs) (hx : ∀ x ∈ xs, x < m32) : WsV W W.heap.size v xs := by
  rcases h with ⟨rfl, rfl⟩ | ⟨T, cap, z, rfl, hc, hc2, hT, K⟩
  · exact ⟨none, 0, rfl, Nat.le_refl _, by omega, by simp, fun h => absurd rfl h⟩
  · have h := ws_row K (n := xs.length) (cap := cap) (by simp) (by omega) hc2 (by
      intro y hy
      rcases List.mem_append.1 hy with h | h
      · exact hx y h
      · rw [List.eq_of_mem_replicate h]; exact m32_pos)
    have e : (xs ++ zeros z).take xs.length = xs := by simp
    rw [e] at h
    exact h
theorem wA_opt (l : List Nat) (i : Nat) : (wA l)[i]? = (l[i]?).map wordV := by unfold wA; simp
theorem ovr_words (xs ys : List Nat) (z : Nat) (h : ys.length ≤ z) : ovr (wA (xs ++ zeros z)) xs.length (ys.map wordV) = wA ((xs ++ ys) ++ zeros (z - ys.length)) := by
  apply Array.ext_getElem?
  intro i
  have hs : (wA (xs ++ zeros z)).size = xs.length + z := by simp [wA, zeros]
  rw [ovr_get, hs, List.length_map, wA_opt, wA_opt, List.append_assoc]
  by_cases h1 : i < xs.length
  · rw [if_neg (by omega), List.getElem?_append_left h1, List.getElem?_append_left h1]
  · rw [List.getElem?_append_right (by omega), List.getElem?_append_right (by omega)]
    by_cases h2 : i < xs.length + ys.length
    · rw [if_pos (by omega), List.getElem?_append_left (by omega), List.getElem?_map]
    · rw [if_neg (by omega), List.getElem?_append_right (by omega)]
      unfold zeros
      rw [List.getElem?_replicate, List.getElem?_replicate]
      by_cases h3 : i - xs.length < z
      · rw [if_pos h3, if_pos (by omega)]
      · rw [if_neg h3, if_neg (by omega)]
/-- The bytes, onto a slice of the call's own. -/
theorem appw (xs ys : List Nat) (v u : Value) (lo : Nat) (w : World) (hm : MineW w lo v xs) (hlo : lo ≤ w.heap.size) (hu : WsV w w.heap.size u ys) (hlt : xs.length + ys.length ≤ 1048576) :
    ∃ v' W, (Builtin.append_ #[32, 32] 32 #[v, u]).run Tryd.prog w = .ok v' W ∧ MineW W lo v' (xs ++ ys) ∧ Below lo w W := by
  obtain ⟨i, hi, hz, hs, hby⟩ := word_info
  obtain ⟨s, cap, rfl, h1, h2, h3, h4⟩ := hu
  by_cases h0 : ys = []
  · subst h0
    have hsrc : Src Tryd.prog i.size 32 (.slice s 0 cap) 0 [] w := by
      cases s with
      | none => exact Src.ofNil w Tryd.underlying32 cap
      | some a => exact Src.ofSlice w Tryd.underlying32 a 0 cap [] (by simp) (by simp) (by simp)
    rw [List.append_nil]
    rcases hm with ⟨rfl, rfl⟩ | ⟨T, c, z, rfl, hc, hc2, hT, K⟩
    · exact ⟨_, w, run_append_nothing w _ _ _ _ i Tryd.underlying32 hi _ 0 0 (Nat.le_refl _) _ hsrc, .inl ⟨rfl, rfl⟩, Below.refl _ _⟩
    · exact ⟨_, w, run_append_nothing w _ _ _ _ i Tryd.underlying32 hi _ xs.length c (by omega) _ hsrc, .inr ⟨T, c, z, rfl, hc, hc2, hT, K⟩, Below.refl _ _⟩
  · obtain ⟨b, o, rfl, hb, hc⟩ := h4 h0
    have hpos : 0 < ys.length := by
      rcases Nat.eq_zero_or_pos ys.length with h | h
      · exact absurd (List.eq_nil_of_length_eq_zero h) h0
      · exact h
    have hsrc : Src Tryd.prog i.size 32 (.slice (some ⟨b, o, none⟩) ys.length cap) ys.length (ys.map wordV) w :=
      Src.ofSlice w Tryd.underlying32 _ _ _ _ (by rw [hs]; simp) (fun j u hu => by
        rw [List.getElem?_map] at hu
        rcases hj : ys[j]? with _ | x
        · rw [hj] at hu; cases hu
        · rw [hj] at hu
          have hlt := (List.getElem?_eq_some_iff.1 hj).1
          rw [Go.WideShapes.add_plain, hc j hlt, ← hu]
          simp [nth, List.getD, hj, wordV]) (by
        intro u hu
        obtain ⟨x, _, rfl⟩ := List.mem_map.1 hu
        rfl)
    have grown : ∀ (sb : Option Addr) (c : Nat), c < xs.length + ys.length → (Builtin.firstCells i.size xs.length (.slice sb xs.length c)).run Tryd.prog w.drew = .ok (xs.map wordV).toArray w.drew →
        ∃ v' W, (Builtin.append_ #[32, 32] 32 #[.slice sb xs.length c, .slice (some ⟨b, o, none⟩) ys.length cap]).run Tryd.prog w = .ok v' W ∧ MineW W lo v' (xs ++ ys) ∧ Below lo w W := by
      intro sb c hcl hold
      have hge := grownCap_ge w (xs.length + ys.length) c 34
      have hle := grownCap_le_maxLen w (xs.length + ys.length) c 34 (by unfold maxLen; omega)
      unfold maxLen at hle
      have hrun := run_append_grow_src w 32 32 32 34 i _ Tryd.underlying32 hi hz sb xs.length c _ hold _ ys.length _ hsrc hcl (by omega) (growslice_fits_wide hcl (by rw [hby]; omega))
      rw [zero_words] at hrun
      refine ⟨_, _, hrun, .inr ⟨w.heap.size, grownCap w (xs.length + ys.length) c 34, grownCap w (xs.length + ys.length) c 34 - (xs.length + ys.length), by rw [List.length_append], by rw [List.length_append]; omega, by omega, hlo, ?_⟩, (Below.refl lo w).drew.alloc (by simpa using hlo) _⟩
      refine Eq.trans (heap_alloc_new w.drew _) ?_
      simp [wA]
    rcases hm with ⟨rfl, rfl⟩ | ⟨T, c, z, rfl, hcz, hc2, hT, K⟩
    · exact grown none 0 (by simpa using hpos) (run_firstCells_none w.drew _ 0 0 0)
    · rcases Nat.lt_or_ge c (xs.length + ys.length) with hg | hr
      · refine grown _ c hg (run_firstCells_some w.drew _ _ _ _ _ _ (by rw [hs]; simp) (fun j u hu => ?_))
        rw [List.getElem?_map] at hu
        rcases hj : xs[j]? with _ | x
        · rw [hj] at hu; cases hu
        · rw [hj] at hu
          have hl := (List.getElem?_eq_some_iff.1 hj).1
          rw [Go.WideShapes.add_plain, Nat.zero_add]
          refine (K.drew.cell j).trans ?_
          rw [wA_opt, List.getElem?_append_left hl, hj]
          exact hu
      · have hrun := run_append_room_src w 32 32 32 34 i Tryd.underlying32 hi T 0 xs.length c _ ys.length _ hsrc hr
          (fun j hj => by
            rw [hs, Nat.mul_one, Nat.zero_add, K.cell, wA_opt]
            have : xs.length + j < (xs ++ zeros z).length := by simp [zeros] at hj ⊢; omega
            rw [List.getElem?_eq_getElem this]; rfl)
          (fun j hj => by rw [hs, Nat.mul_one, Nat.zero_add]; exact K.frozen _)
        rw [hs, Nat.mul_one, Nat.zero_add] at hrun
        refine ⟨_, _, hrun, .inr ⟨T, c, z - ys.length, by rw [List.length_append], by rw [List.length_append]; omega, hc2, hT, ?_⟩, Below.setCells hT _ _ _ (Below.refl _ _)⟩
        have e := Bk.ovr_ (w := w) (ys.map wordV) xs.length w _ K
        rw [ovr_words xs ys z (by omega)] at e
        exact e
end Go.Proofs.YtiiaijoafahdmaaDoor
