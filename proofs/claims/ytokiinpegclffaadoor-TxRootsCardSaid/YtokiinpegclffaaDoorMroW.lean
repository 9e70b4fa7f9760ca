/-
  The law's own 'plain': names as the document has them, one behind the other.
-/
import Derived.Test.YtokiinpegclffaaDoorMroO
import Derived.Deep.RegionHeld3
namespace Go.Proofs.YtokiinpegclffaaDoor.raw
open Go.RowKit
set_option maxRecDepth 100000
set_option linter.unusedVariables false
set_option linter.unusedSimpArgs false
/-- A slice of the call's own, of just these names. -/
def MineI (W : World) (lo : Nat) (v : Value) (L : List (List Nat)) : Prop := (v = .slice none 0 0 ∧ L = []) ∨
  ∃ T cap z, v = .slice (some ⟨T, 0, none⟩) L.length cap ∧ cap = L.length + z ∧ cap < 9223372036854775808 ∧ lo ≤ T ∧ Bk W T 28 (idA (L.flatten ++ zeros (z * 32)))
theorem MineI.keep {W W' : World} {lo : Nat} {v : Value} {L : List (List Nat)} (h : MineI W lo v L) (hb : Below W.heap.size W W') : MineI W' lo v L := by
  rcases h with h | ⟨T, cap, z, e, hc, hc2, hT, K⟩
  · exact .inl h
  · exact .inr ⟨T, cap, z, e, hc, hc2, hT, K.keep hb⟩
theorem MineI.slice {W : World} {lo : Nat} {v : Value} {L : List (List Nat)} (h : MineI W lo v L) : ∃ s c, v = .slice s L.length c := by
  rcases h with ⟨rfl, rfl⟩ | ⟨T, cap, z, rfl, _⟩
  · exact ⟨none, 0, rfl⟩
  · exact ⟨_, _, rfl⟩
theorem MineI.ids {W : World} {lo : Nat} {v : Value} {L : List (List Nat)} (h : MineI W lo v L) (hL : IsIds L) : IdsV W W.heap.size v L := by
  rcases h with ⟨rfl, rfl⟩ | ⟨T, cap, z, rfl, hc, hc2, hT, K⟩
  · exact IdsV.nil _ _
  · exact ⟨_, cap, rfl, by omega, hc2, hL, fun _ => ⟨T, 0, rfl, K.lt, row_ids hL K⟩⟩
theorem id_facts : (Tryd.prog.info? 28).map (fun i => (i.zero, i.size, i.bytes)) = some (some (idv (zeros 32)), 32, 32) := by kernel_rfl
theorem id_infoA : ∃ i, Tryd.prog.info? 28 = some i ∧ i.zero = some (idv (zeros 32)) ∧ i.size = 32 ∧ i.bytes = 32 := by
  have h := id_facts
  revert h
  cases Tryd.prog.info? 28 with
  | none => intro h; cases h
  | some i =>
    intro h
    have h' : (i.zero, i.size, i.bytes) = (some (idv (zeros 32)), 32, 32) := Option.some.inj h
    simp only [Prod.mk.injEq] at h'
    exact ⟨i, rfl, h'.1, h'.2.1, h'.2.2⟩
/-- The names, onto a slice of the call's own. -/
theorem appI2 (xs ys : List (List Nat)) (v u : Value) (lo : Nat) (w : World) (hm : MineI w lo v xs) (hxs : IsIds xs) (hlo : lo ≤ w.heap.size) (hu : IdsV w w.heap.size u ys) (hlt : xs.length + ys.length ≤ 1048576) :
    ∃ v' W, (Builtin.append_ #[121, 121] 121 #[v, u]).run Tryd.prog w = .ok v' W ∧ MineI W lo v' (xs ++ ys) ∧ Below lo w W ∧ ButI v w W := by
  obtain ⟨i, hi, hz, hs, hby⟩ := id_infoA
  obtain ⟨s, cap, rfl, h1, h2, h3, h4⟩ := hu
  have fx := hxs.flat
  have fy := h3.flat
  by_cases h0 : ys = []
  · subst h0
    have hsrc : Src Tryd.prog i.size 121 (.slice s 0 cap) 0 [] w := by
      cases s with
      | none => exact Src.ofNil w Tryd.underlying121 cap
      | some a => exact Src.ofSlice w Tryd.underlying121 a 0 cap [] (by simp) (by simp) (by simp)
    rw [List.append_nil]
    rcases hm with ⟨rfl, rfl⟩ | ⟨T, c, z, rfl, hc, hc2, hT, K⟩
    · exact ⟨_, w, run_append_nothing w _ _ _ _ i Tryd.underlying121 hi _ 0 0 (Nat.le_refl _) _ hsrc, .inl ⟨rfl, rfl⟩, Below.refl _ _, fun _ _ _ _ => rfl⟩
    · exact ⟨_, w, run_append_nothing w _ _ _ _ i Tryd.underlying121 hi _ xs.length c (by omega) _ hsrc, .inr ⟨T, c, z, rfl, hc, hc2, hT, K⟩, Below.refl _ _, fun _ _ _ _ => rfl⟩
  · obtain ⟨b, o, rfl, hb, hc⟩ := h4 h0
    have hpos : 0 < ys.length := by
      rcases Nat.eq_zero_or_pos ys.length with h | h
      · exact absurd (List.eq_nil_of_length_eq_zero h) h0
      · exact h
    have hsrc : Src Tryd.prog i.size 121 (.slice (some ⟨b, o, none⟩) ys.length cap) ys.length (ys.flatten.map byteV) w :=
      Src.ofSlice w Tryd.underlying121 _ _ _ _ (by rw [hs, List.length_map, fy]) (fun j u hu => by
        rw [List.getElem?_map] at hu
        have hjl : j < ys.length * 32 := by
          rcases Nat.lt_or_ge j (ys.length * 32) with h | h
          · exact h
          · rw [List.getElem?_eq_none (by omega)] at hu; cases hu
        have hq : j / 32 < ys.length := by omega
        have hx := List.getElem?_eq_getElem hq
        have hr : j % 32 < 32 := Nat.mod_lt _ (by omega)
        have e1 := flat_get ys h3 (j / 32) (j % 32) _ hx hr
        have e2 := hc (j / 32) _ hx (j % 32) u (by
          rw [Array.getElem?_toList, idA_opt', ← e1, show j / 32 * 32 + j % 32 = j by omega]
          exact hu)
        rw [Go.WideShapes.add_plain]
        rw [show o + j / 32 * 32 + j % 32 = o + j by omega] at e2
        exact e2) (by
        intro u hu
        obtain ⟨x, _, rfl⟩ := List.mem_map.1 hu
        rfl)
    have grown : ∀ (sb : Option Addr) (c : Nat), c < xs.length + ys.length → (Builtin.firstCells i.size xs.length (.slice sb xs.length c)).run Tryd.prog w.drew = .ok (xs.flatten.map byteV).toArray w.drew →
        ∃ v' W, (Builtin.append_ #[121, 121] 121 #[.slice sb xs.length c, .slice (some ⟨b, o, none⟩) ys.length cap]).run Tryd.prog w = .ok v' W ∧ MineI W lo v' (xs ++ ys) ∧ Below lo w W ∧ ButI (.slice sb xs.length c) w W := by
      intro sb c hcl hold
      have hge := grownCap_ge w (xs.length + ys.length) c 28
      have hle := grownCap_le_maxLen w (xs.length + ys.length) c 28 (by unfold maxLen; omega)
      unfold maxLen at hle
      have hrun := run_append_grow_src w 121 121 121 28 i _ Tryd.underlying121 hi hz sb xs.length c _ hold _ ys.length _ hsrc hcl (by omega) (growslice_fits_wide hcl (by rw [hby]; omega))
      rw [zero_ids] at hrun
      refine ⟨_, _, hrun, .inr ⟨w.heap.size, grownCap w (xs.length + ys.length) c 28, grownCap w (xs.length + ys.length) c 28 - (xs.length + ys.length), by rw [List.length_append], by rw [List.length_append]; omega, by omega, hlo, ?_⟩, (Below.refl lo w).drew.alloc (by simpa using hlo) _, fun b' o' hb' _ => (World.cell?_alloc_lt w.drew _ ⟨b', o', none⟩ hb')⟩
      refine Eq.trans (heap_alloc_new w.drew _) ?_
      simp [idA]
    rcases hm with ⟨rfl, rfl⟩ | ⟨T, c, z, rfl, hcz, hc2, hT, K⟩
    · exact grown none 0 (by simpa using hpos) (run_firstCells_none w.drew _ 0 0 0)
    · rcases Nat.lt_or_ge c (xs.length + ys.length) with hg | hr
      · refine grown _ c hg (run_firstCells_some w.drew _ _ _ _ _ _ (by rw [hs, List.length_map, fx]) (fun j u hu => ?_))
        rw [List.getElem?_map] at hu
        rcases hj : xs.flatten[j]? with _ | x
        · rw [hj] at hu; cases hu
        · rw [hj] at hu
          have hl := (List.getElem?_eq_some_iff.1 hj).1
          rw [Go.WideShapes.add_plain, Nat.zero_add]
          refine (K.drew.cell j).trans ?_
          rw [idA_opt', List.getElem?_append_left hl, hj]
          exact hu
      · have hyl : (ys.flatten.map byteV).length = ys.length * 32 := by rw [List.length_map, fy]
        have hrun := run_append_room_src w 121 121 121 28 i Tryd.underlying121 hi T 0 xs.length c _ ys.length _ hsrc hr
          (fun j hj => by
            rw [hyl] at hj
            rw [hs, Nat.zero_add, K.cell, idA_opt']
            have : xs.length * 32 + j < (xs.flatten ++ zeros (z * 32)).length := by
              rw [List.length_append, fx]
              unfold zeros
              rw [List.length_replicate]
              omega
            rw [List.getElem?_eq_getElem this]; rfl)
          (fun j hj => by rw [hs, Nat.zero_add]; exact K.frozen _)
        rw [hs, Nat.zero_add] at hrun
        refine ⟨_, _, hrun, .inr ⟨T, c, z - ys.length, by rw [List.length_append], by rw [List.length_append]; omega, hc2, hT, ?_⟩, Below.setCells hT _ _ _ (Below.refl _ _), fun b' o' hb' hne => World.cell?_setCells_out T _ _ w ⟨b', o', none⟩ (fun hbe _ => absurd rfl (by have hbe' : b' = T := hbe; subst hbe'; exact hne 0 _ _))⟩
        have e := Bk.ovr_ (w := w) (ys.flatten.map byteV) xs.flatten.length w _ K
        rw [ovr_ids xs.flatten ys.flatten (z * 32) (ys.length * 32) fy (by omega), fx] at e
        rw [List.flatten_append, Nat.sub_mul]
        exact e
theorem appI (xs ys : List (List Nat)) (v u : Value) (lo : Nat) (w : World) (hm : MineI w lo v xs) (hxs : IsIds xs) (hlo : lo ≤ w.heap.size) (hu : IdsV w w.heap.size u ys) (hlt : xs.length + ys.length ≤ 1048576) :
    ∃ v' W, (Builtin.append_ #[121, 121] 121 #[v, u]).run Tryd.prog w = .ok v' W ∧ MineI W lo v' (xs ++ ys) ∧ Below lo w W := by
  obtain ⟨v', W, h1, h2, h3, _⟩ := appI2 xs ys v u lo w hm hxs hlo hu hlt
  exact ⟨v', W, h1, h2, h3⟩
/-- An append whose outcome is known, in a plain region. -/
theorem wpList_appI {ops : Array Oper} {rest : List Oper} {o : Oper} {a : Act} {w W : World} {Q : Exit → Act → World → Prop} {v1 v2 v : Value} (hg : o.guard = none) (s x : Operand)
    (hop : o.op = Op.call { callee := Callee.builtin Builtin.append, args := #[s, x], argTypes := #[121, 121] }) (hty : o.type = 121) (hs : a.eval s = v1) (hx : a.eval x = v2)
    (hrun : (Builtin.append_ #[121, 121] 121 #[v1, v2]).run Tryd.prog w = .ok v W) (hK : wpList Tryd.prog ops Q rest (a.put o.dst v) W) : wpList Tryd.prog ops Q (o :: rest) a w := by
  refine wpList_plain hg fun K hK' => ?_
  unfold Oper.wp
  simp [execOp, hop, resolve, invoke, builtin, hs, hx, hty, hrun, Result.andThen]
  exact hK' _ _ hK
/-- A row of names that is built out of them. -/
theorem wpList_bsI {ops : Array Oper} {rest : List Oper} {o : Oper} {a : Act} {w : World} {Q : Exit → Act → World → Prop} (hg : o.guard = none) (len : Nat) (parts : Array (Nat × Operand)) (ho : o.op = .buildSlice 121 len parts)
    (L : List (List Nat)) (hL : IsIds L) (hlen : len = L.length) (hpos : 0 < len) (hsmall : len ≤ 1000) (hparts : (parts.map fun (i, x) => (i, a.eval x)).toList = ((L.map fun x => idv x).zipIdx 0).map fun x => (x.2, x.1))
    (h : wpList Tryd.prog ops Q rest (a.put o.dst (.slice (some ⟨w.heap.size, 0, none⟩) len len)) (w.alloc (.cells (idA L.flatten) 28))) : wpList Tryd.prog ops Q (o :: rest) a w := by
  obtain ⟨i, hi, hz, hs, hby⟩ := id_infoA
  refine wpList_buildSlice hg 121 28 len parts ho _ i _ Tryd.underlying121 hi hz (by rw [hs]; omega) (by rw [hs]; omega) ?_ h
  rw [hparts, hs, ← flat_cells]
  refine Great.fill_whole (by omega) _ _ ?_ ?_
  · intro v hv
    obtain ⟨x, hx, rfl⟩ := List.mem_map.1 hv
    show (idA x).size = 32
    rw [idA_size, (hL x hx).1]
  · rw [List.length_map, ← hlen]
    simp
theorem wpList_bsI1 {ops : Array Oper} {rest : List Oper} {o : Oper} {a : Act} {w : World} {Q : Exit → Act → World → Prop} (hg : o.guard = none) (k : Operand) (ho : o.op = .buildSlice 121 1 #[(0, k)])
    (q : List Nat) (hq : IsId q) (hev : a.eval k = idv q)
    (h : wpList Tryd.prog ops Q rest (a.put o.dst (.slice (some ⟨w.heap.size, 0, none⟩) 1 1)) (w.alloc (.cells (idA q) 28))) : wpList Tryd.prog ops Q (o :: rest) a w := by
  have e : [q].flatten = q := by simp
  refine wpList_bsI hg 1 _ ho [q] (IsIds.one hq) rfl (by omega) (by omega) ?_ (by rw [e]; exact h)
  rw [Array.toList_map]
  simp [hev]

end Go.Proofs.YtokiinpegclffaaDoor.raw
