/-
  Names that are appended onto a slice that the call made itself; a row of names that is made.
-/
import Derived.Test.YtccgfjkahdbboaaDoorIdsA
import Derived.Great.BuildSlice
import Derived.StillTailTactics
namespace Go.Proofs.YtccgfjkahdbboaaDoor
open Go.RowKit
set_option linter.unusedVariables false

/-- All is as it was but the block in which v lies. -/
def ButI (v : Value) (w W : World) : Prop := ∀ b o, b < w.heap.size → (∀ o' n c, v ≠ .slice (some ⟨b, o', none⟩) n c) → W.cell? ⟨b, o, none⟩ = w.cell? ⟨b, o, none⟩
/-- The names, onto a slice of the call's own. -/
theorem appI2 (xs ys : List (List Nat)) (v u : Value) (lo : Nat) (w : World) (hm : MineI w lo v xs) (hxs : IsIds xs) (hlo : lo ≤ w.heap.size) (hu : IdsV w w.heap.size u ys) (hlt : xs.length + ys.length ≤ 1048576) :
    ∃ v' W, (Builtin.append_ #[83, 83] 83 #[v, u]).run Tryd.prog w = .ok v' W ∧ MineI W lo v' (xs ++ ys) ∧ Below lo w W ∧ ButI v w W := by
  obtain ⟨i, hi, hz, hs, hby⟩ := id_infoA
  obtain ⟨s, cap, rfl, h1, h2, h3, h4⟩ := hu
  have fx := hxs.flat
  have fy := h3.flat
  by_cases h0 : ys = []
  · subst h0
    have hsrc : Src Tryd.prog i.size 83 (.slice s 0 cap) 0 [] w := by
      cases s with
      | none => exact Src.ofNil w Tryd.underlying83 cap
      | some a => exact Src.ofSlice w Tryd.underlying83 a 0 cap [] (by simp) (by simp) (by simp)
    rw [List.append_nil]
    rcases hm with ⟨rfl, rfl⟩ | ⟨T, c, z, rfl, hc, hc2, hT, K⟩
    · exact ⟨_, w, run_append_nothing w _ _ _ _ i Tryd.underlying83 hi _ 0 0 (Nat.le_refl _) _ hsrc, .inl ⟨rfl, rfl⟩, Below.refl _ _, fun _ _ _ _ => rfl⟩
    · exact ⟨_, w, run_append_nothing w _ _ _ _ i Tryd.underlying83 hi _ xs.length c (by omega) _ hsrc, .inr ⟨T, c, z, rfl, hc, hc2, hT, K⟩, Below.refl _ _, fun _ _ _ _ => rfl⟩
  · obtain ⟨b, o, rfl, hb, hc⟩ := h4 h0
    have hpos : 0 < ys.length := by
      rcases Nat.eq_zero_or_pos ys.length with h | h
      · exact absurd (List.eq_nil_of_length_eq_zero h) h0
      · exact h
    have hsrc : Src Tryd.prog i.size 83 (.slice (some ⟨b, o, none⟩) ys.length cap) ys.length (ys.flatten.map byteV) w :=
      Src.ofSlice w Tryd.underlying83 _ _ _ _ (by rw [hs, List.length_map, fy]) (fun j u hu => by
        rw [List.getElem?_map] at hu
        have hjl : j < ys.length * 32 := by
          rcases Nat.lt_or_ge j (ys.length * 32) with h | h
          · exact h
          · rw [List.getElem?_eq_none (by omega)] at hu; cases hu
        have hq : j / 32 < ys.length := by omega
        have hx := List.getElem?_eq_getElem hq
        have hr : j % 32 < 32 := Nat.mod_lt _ (by omega)
        have e1 := flat_get ys h3 (j / 32) (j % 32) _ hx hr
        have e2 := hc (j / 32) _ hx (j % 32) u (by
          rw [Array.getElem?_toList, idA_opt', ← e1, show j / 32 * 32 + j % 32 = j by omega]
          exact hu)
        rw [Go.WideShapes.add_plain]
        rw [show o + j / 32 * 32 + j % 32 = o + j by omega] at e2
        exact e2) (by
        intro u hu
        obtain ⟨x, _, rfl⟩ := List.mem_map.1 hu
        rfl)
    have grown : ∀ (sb : Option Addr) (c : Nat), c < xs.length + ys.length → (Builtin.firstCells i.size xs.length (.slice sb xs.length c)).run Tryd.prog w.drew = .ok (xs.flatten.map byteV).toArray w.drew →
        ∃ v' W, (Builtin.append_ #[83, 83] 83 #[.slice sb xs.length c, .slice (some ⟨b, o, none⟩) ys.length cap]).run Tryd.prog w = .ok v' W ∧ MineI W lo v' (xs ++ ys) ∧ Below lo w W ∧ ButI (.slice sb xs.length c) w W := by
      intro sb c hcl hold
      have hge := grownCap_ge w (xs.length + ys.length) c 29
      have hle := grownCap_le_maxLen w (xs.length + ys.length) c 29 (by unfold maxLen; omega)
      unfold maxLen at hle
      have hrun := run_append_grow_src w 83 83 83 29 i _ Tryd.underlying83 hi hz sb xs.length c _ hold _ ys.length _ hsrc hcl (by omega) (growslice_fits_wide hcl (by rw [hby]; omega))
      rw [zero_ids] at hrun
      refine ⟨_, _, hrun, .inr ⟨w.heap.size, grownCap w (xs.length + ys.length) c 29, grownCap w (xs.length + ys.length) c 29 - (xs.length + ys.length), by rw [List.length_append], by rw [List.length_append]; omega, by omega, hlo, ?_⟩, (Below.refl lo w).drew.alloc (by simpa using hlo) _, fun b' o' hb' _ => (World.cell?_alloc_lt w.drew _ ⟨b', o', none⟩ hb')⟩
      refine Eq.trans (heap_alloc_new w.drew _) ?_
      simp [idA]
    rcases hm with ⟨rfl, rfl⟩ | ⟨T, c, z, rfl, hcz, hc2, hT, K⟩
    · exact grown none 0 (by simpa using hpos) (run_firstCells_none w.drew _ 0 0 0)
    · rcases Nat.lt_or_ge c (xs.length + ys.length) with hg | hr
      · refine grown _ c hg (run_firstCells_some w.drew _ _ _ _ _ _ (by rw [hs, List.length_map, fx]) (fun j u hu => ?_))
        rw [List.getElem?_map] at hu
        rcases hj : xs.flatten[j]? with _ | x
        · rw [hj] at hu; cases hu
        · rw [hj] at hu
          have hl := (List.getElem?_eq_some_iff.1 hj).1
          rw [Go.WideShapes.add_plain, Nat.zero_add]
          refine (K.drew.cell j).trans ?_
          rw [idA_opt', List.getElem?_append_left hl, hj]
          exact hu
      · have hyl : (ys.flatten.map byteV).length = ys.length * 32 := by rw [List.length_map, fy]
        have hrun := run_append_room_src w 83 83 83 29 i Tryd.underlying83 hi T 0 xs.length c _ ys.length _ hsrc hr
          (fun j hj => by
            rw [hyl] at hj
            rw [hs, Nat.zero_add, K.cell, idA_opt']
            have : xs.length * 32 + j < (xs.flatten ++ zeros (z * 32)).length := by
              rw [List.length_append, fx]
              unfold zeros
              rw [List.length_replicate]
              omega
            rw [List.getElem?_eq_getElem this]; rfl)
          (fun j hj => by rw [hs, Nat.zero_add]; exact K.frozen _)
        rw [hs, Nat.zero_add] at hrun
        refine ⟨_, _, hrun, .inr ⟨T, c, z - ys.length, by rw [List.length_append], by rw [List.length_append]; omega, hc2, hT, ?_⟩, Below.setCells hT _ _ _ (Below.refl _ _), fun b' o' hb' hne => World.cell?_setCells_out T _ _ w ⟨b', o', none⟩ (fun hbe _ => absurd rfl (by have hbe' : b' = T := hbe; subst hbe'; exact hne 0 _ _))⟩
        have e := Bk.ovr_ (w := w) (ys.flatten.map byteV) xs.flatten.length w _ K
        rw [ovr_ids xs.flatten ys.flatten (z * 32) (ys.length * 32) fy (by omega), fx] at e
        rw [List.flatten_append, Nat.sub_mul]
        exact e
theorem appI (xs ys : List (List Nat)) (v u : Value) (lo : Nat) (w : World) (hm : MineI w lo v xs) (hxs : IsIds xs) (hlo : lo ≤ w.heap.size) (hu : IdsV w w.heap.size u ys) (hlt : xs.length + ys.length ≤ 1048576) :
    ∃ v' W, (Builtin.append_ #[83, 83] 83 #[v, u]).run Tryd.prog w = .ok v' W ∧ MineI W lo v' (xs ++ ys) ∧ Below lo w W := by
  obtain ⟨v', W, h1, h2, h3, _⟩ := appI2 xs ys v u lo w hm hxs hlo hu hlt
  exact ⟨v', W, h1, h2, h3⟩
/-- An append whose outcome is known, as a step of a region that draws. -/
theorem step_appI {ops : Array Oper} {o : Oper} {a : Act} {w W : World} {K : Act → World → Prop} {Q : Exit → Act → World → Prop} {E : Prop} {v1 v2 v : Value}
    (hg : o.guard = none) (s y : Operand) (hop : o.op = Op.call { callee := Callee.builtin Builtin.append, args := #[s, y], argTypes := #[83, 83] }) (hty : o.type = 83)
    (hs : a.eval s = v1) (hy : a.eval y = v2) (hrun : (Builtin.append_ #[83, 83] 83 #[v1, v2]).run Tryd.prog w = .ok v W)
    (hK : K (a.put o.dst v) W) :
    if Region.wanted o (yielded ops a.tmps) = true then Oper.wp Tryd.prog o a w K Q else E := by
  have hw : Region.wanted o (yielded ops a.tmps) = true := by simp [Region.wanted, hg]
  rw [if_pos hw]
  unfold Oper.wp
  simp [execOp, hop, resolve, invoke, builtin, hs, hy, hty, hrun, Result.andThen]
  exact hK
/-- An append whose outcome is known, in a plain region. -/
theorem wpList_appI {ops : Array Oper} {rest : List Oper} {o : Oper} {a : Act} {w W : World} {Q : Exit → Act → World → Prop} {v1 v2 v : Value} (hg : o.guard = none) (s x : Operand)
    (hop : o.op = Op.call { callee := Callee.builtin Builtin.append, args := #[s, x], argTypes := #[83, 83] }) (hty : o.type = 83) (hs : a.eval s = v1) (hx : a.eval x = v2)
    (hrun : (Builtin.append_ #[83, 83] 83 #[v1, v2]).run Tryd.prog w = .ok v W) (hK : wpList Tryd.prog ops Q rest (a.put o.dst v) W) : wpList Tryd.prog ops Q (o :: rest) a w := by
  refine wpList_plain hg fun K hK' => ?_
  unfold Oper.wp
  simp [execOp, hop, resolve, invoke, builtin, hs, hx, hty, hrun, Result.andThen]
  exact hK' _ _ hK
/-- A row of names that is made, none in it yet. -/
theorem run_makeI (w : World) (m : Nat) (hm : m ≤ 1000000) :
    (Instr.makeSlice 83 (.int .i64 0) (.int .i64 (m : Int))).run Tryd.prog w = .ok (.slice (some ⟨w.heap.size, 0, none⟩) 0 m) (w.alloc (.cells (idA (zeros (m * 32))) 29)) := by
  obtain ⟨i, hi, hz, hs, hby⟩ := id_infoA
  have h := run_make (P := Tryd.prog) w 83 29 i _ Tryd.underlying83 hi hz .i64 .i64 0 (m : Int) (by omega) (by omega) (by rw [hby]; omega) (by omega)
  have e : madeCells (idv (zeros 32)).cells (m * 32) = idA (zeros (m * 32)) := zero_ids m
  rw [Int.toNat_natCast, hs, e] at h
  exact h
theorem wpList_mkI {ops : Array Oper} {rest : List Oper} {o : Oper} {a : Act} {w W : World} {Q : Exit → Act → World → Prop} {v1 v2 v : Value} (t : TypeId) (hg : o.guard = none) (l c : Operand)
    (hop : o.op = Op.makeSlice t l c) (hs : a.eval l = v1) (hx : a.eval c = v2)
    (hrun : (Instr.makeSlice t v1 v2).run Tryd.prog w = .ok v W) (hK : wpList Tryd.prog ops Q rest (a.put o.dst v) W) : wpList Tryd.prog ops Q (o :: rest) a w := by
  refine wpList_plain hg fun K hK' => ?_
  unfold Oper.wp
  simp [execOp, hop, hs, hx, hrun, Result.andThen]
  exact hK' _ _ hK
theorem id_agg (w : World) : (isAgg 29).run Tryd.prog w = .ok true w := by kernel_rfl
theorem id_size (w : World) : (sizeOf 29).run Tryd.prog w = .ok 32 w := by kernel_rfl
theorem id_cells (w : World) (A o : Nat) (L : List Value) (hl : L.length = 32) (h : w.rangeAt A o L) : (loadCellsFrom ⟨A, o, none⟩ 0 32 #[]).run Tryd.prog w = .ok L.toArray w := by
  have e := run_loadCells_list (P := Tryd.prog) w ⟨A, o, none⟩ L (fun j v hv => by rw [Addr.add_mid]; exact h j v hv)
  rw [hl] at e
  exact e
theorem id_load (w : World) (A o : Nat) (x : List Nat) (hl : x.length = 32) (h : w.rangeAt A o (idA x).toList) : (loadCellsFrom ⟨A, o, none⟩ 0 32 #[]).run Tryd.prog w = .ok (idA x) w := by
  have e := id_cells w A o (idA x).toList (by rw [Array.length_toList, idA_size, hl]) h
  simpa using e
theorem id_one (O : List Nat) : ∀ v ∈ (idA O).toList, v.oneCell' = true := by
  intro v hv
  simp only [idA, List.mem_map] at hv
  obtain ⟨x, _, rfl⟩ := hv
  rfl
theorem id_ones (O : List Nat) : (idA O).all (·.oneCell') = true := all_oneCell_toArray (id_one O)
theorem flat_cells (L : List (List Nat)) : ((L.map fun x => idv x).flatMap fun v => v.cells.toList).toArray = idA L.flatten := by
  unfold idA
  congr 1
  induction L with
  | nil => rfl
  | cons x r ih =>
    rw [List.map_cons, List.flatMap_cons, ih, List.flatten_cons, List.map_append]
    rfl
/-- A row of names that is built out of them. -/
theorem wpList_bsI {ops : Array Oper} {rest : List Oper} {o : Oper} {a : Act} {w : World} {Q : Exit → Act → World → Prop} (hg : o.guard = none) (len : Nat) (parts : Array (Nat × Operand)) (ho : o.op = .buildSlice 83 len parts)
    (L : List (List Nat)) (hL : IsIds L) (hlen : len = L.length) (hpos : 0 < len) (hsmall : len ≤ 1000) (hparts : (parts.map fun (i, x) => (i, a.eval x)).toList = ((L.map fun x => idv x).zipIdx 0).map fun x => (x.2, x.1))
    (h : wpList Tryd.prog ops Q rest (a.put o.dst (.slice (some ⟨w.heap.size, 0, none⟩) len len)) (w.alloc (.cells (idA L.flatten) 29))) : wpList Tryd.prog ops Q (o :: rest) a w := by
  obtain ⟨i, hi, hz, hs, hby⟩ := id_infoA
  refine wpList_buildSlice hg 83 29 len parts ho _ i _ Tryd.underlying83 hi hz (by rw [hs]; omega) (by rw [hs]; omega) ?_ h
  rw [hparts, hs, ← flat_cells]
  refine Great.fill_whole (by omega) _ _ ?_ ?_
  · intro v hv
    obtain ⟨x, hx, rfl⟩ := List.mem_map.1 hv
    show (idA x).size = 32
    rw [idA_size, (hL x hx).1]
  · rw [List.length_map, ← hlen]
    simp
theorem wpList_bsI1 {ops : Array Oper} {rest : List Oper} {o : Oper} {a : Act} {w : World} {Q : Exit → Act → World → Prop} (hg : o.guard = none) (k : Operand) (ho : o.op = .buildSlice 83 1 #[(0, k)])
    (q : List Nat) (hq : IsId q) (hev : a.eval k = idv q)
    (h : wpList Tryd.prog ops Q rest (a.put o.dst (.slice (some ⟨w.heap.size, 0, none⟩) 1 1)) (w.alloc (.cells (idA q) 29))) : wpList Tryd.prog ops Q (o :: rest) a w := by
  have e : [q].flatten = q := by simp
  refine wpList_bsI hg 1 _ ho [q] (IsIds.one hq) rfl (by omega) (by omega) ?_ (by rw [e]; exact h)
  rw [Array.toList_map]
  simp [hev]
theorem wpList_bsI2 {ops : Array Oper} {rest : List Oper} {o : Oper} {a : Act} {w : World} {Q : Exit → Act → World → Prop} (hg : o.guard = none) (k l : Operand) (ho : o.op = .buildSlice 83 2 #[(0, k), (1, l)])
    (q r : List Nat) (hq : IsId q) (hr : IsId r) (hev : a.eval k = idv q) (hel : a.eval l = idv r)
    (h : wpList Tryd.prog ops Q rest (a.put o.dst (.slice (some ⟨w.heap.size, 0, none⟩) 2 2)) (w.alloc (.cells (idA (q ++ r)) 29))) : wpList Tryd.prog ops Q (o :: rest) a w := by
  have e : [q, r].flatten = q ++ r := by simp
  have h2 : IsIds [q, r] := IsIds.app (IsIds.one hq) (IsIds.one hr)
  refine wpList_bsI hg 2 _ ho [q, r] h2 rfl (by omega) (by omega) ?_ (by rw [e]; exact h)
  rw [Array.toList_map]
  simp [hev, hel]
theorem two_row {w : World} {g : Nat} {t : TypeId} {q r : List Nat} (hg : Bk w g t (idA (q ++ r))) (hq : IsId q) (hr : IsId r) : IdsV w w.heap.size (.slice (some ⟨g, 0, none⟩) 2 2) [q, r] := by
  refine ids_row (t := t) (L := [q, r]) ?_ (IsIds.app (IsIds.one hq) (IsIds.one hr)) rfl (by simp)
  have e : [q, r].flatten = q ++ r := by simp
  rw [e]
  exact hg
theorem one_row {w : World} {g : Nat} {t : TypeId} {q : List Nat} (hg : Bk w g t (idA q)) (hq : IsId q) : IdsV w w.heap.size (.slice (some ⟨g, 0, none⟩) 1 1) [q] := by
  refine ids_row (t := t) (L := [q]) ?_ (IsIds.one hq) rfl (by simp)
  have e : [q].flatten = q := by simp
  rw [e]
  exact hg
/-- A row of one name, built: what the walk's own steps come to. -/
theorem id_fold (q : List Nat) (hq : q.length = 32) : Array.foldl (fun (cs : Array Value) (x : Value × Nat) => cs.setIfInBounds x.snd x.fst) #[.int .u8 0, .int .u8 0, .int .u8 0, .int .u8 0, .int .u8 0, .int .u8 0, .int .u8 0, .int .u8 0, .int .u8 0, .int .u8 0, .int .u8 0, .int .u8 0, .int .u8 0, .int .u8 0, .int .u8 0, .int .u8 0, .int .u8 0, .int .u8 0, .int .u8 0, .int .u8 0, .int .u8 0, .int .u8 0, .int .u8 0, .int .u8 0, .int .u8 0, .int .u8 0, .int .u8 0, .int .u8 0, .int .u8 0, .int .u8 0, .int .u8 0, .int .u8 0] ((idA q).zipIdx 0) 0 32 = idA q := by
  have hs : ((idA q).zipIdx 0).size = 32 := by rw [Array.size_zipIdx, idA_size, hq]
  have h := Great.foldl_set 0 (idA q).toList 0 #[.int .u8 0, .int .u8 0, .int .u8 0, .int .u8 0, .int .u8 0, .int .u8 0, .int .u8 0, .int .u8 0, .int .u8 0, .int .u8 0, .int .u8 0, .int .u8 0, .int .u8 0, .int .u8 0, .int .u8 0, .int .u8 0, .int .u8 0, .int .u8 0, .int .u8 0, .int .u8 0, .int .u8 0, .int .u8 0, .int .u8 0, .int .u8 0, .int .u8 0, .int .u8 0, .int .u8 0, .int .u8 0, .int .u8 0, .int .u8 0, .int .u8 0, .int .u8 0]
  simp only [Nat.zero_add] at h
  obtain ⟨h1, h2⟩ := h
  have e : Array.foldl (fun (cs : Array Value) (x : Value × Nat) => cs.setIfInBounds x.snd x.fst) #[.int .u8 0, .int .u8 0, .int .u8 0, .int .u8 0, .int .u8 0, .int .u8 0, .int .u8 0, .int .u8 0, .int .u8 0, .int .u8 0, .int .u8 0, .int .u8 0, .int .u8 0, .int .u8 0, .int .u8 0, .int .u8 0, .int .u8 0, .int .u8 0, .int .u8 0, .int .u8 0, .int .u8 0, .int .u8 0, .int .u8 0, .int .u8 0, .int .u8 0, .int .u8 0, .int .u8 0, .int .u8 0, .int .u8 0, .int .u8 0, .int .u8 0, .int .u8 0] ((idA q).zipIdx 0) 0 32 = (((idA q).toList.zipIdx 0).foldl (fun (cs : Array Value) (x : Value × Nat) => cs.setIfInBounds x.2 x.1) #[.int .u8 0, .int .u8 0, .int .u8 0, .int .u8 0, .int .u8 0, .int .u8 0, .int .u8 0, .int .u8 0, .int .u8 0, .int .u8 0, .int .u8 0, .int .u8 0, .int .u8 0, .int .u8 0, .int .u8 0, .int .u8 0, .int .u8 0, .int .u8 0, .int .u8 0, .int .u8 0, .int .u8 0, .int .u8 0, .int .u8 0, .int .u8 0, .int .u8 0, .int .u8 0, .int .u8 0, .int .u8 0, .int .u8 0, .int .u8 0, .int .u8 0, .int .u8 0]) := by
    rw [← hs, ← Array.foldl_toList, Array.toList_zipIdx]
  rw [e]
  apply Array.ext_getElem?
  intro k
  rw [h2]
  have hl : (idA q).toList.length = 32 := by rw [Array.length_toList, idA_size, hq]
  by_cases hk : k < 32
  · rw [if_pos ⟨by omega, by rw [hl]; omega, by simpa using hk⟩]
    simp
  · rw [if_neg (by rw [hl]; omega), Array.getElem?_eq_none (by simp; omega), Array.getElem?_eq_none (by rw [idA_size, hq]; omega)]
/-- A name is loaded, in the head of a region that draws. -/
theorem still_load_id {ops : Array Oper} {rest : List Oper} {o : Oper} {a : Act} {w : World} {Q : Act → Prop} (hg : o.guard = none) (k : Operand) (ho : o.op = .load 29 k) (A off : Nat) (hev : a.eval k = .pointer (some ⟨A, off, none⟩)) (x : List Nat) (hl : x.length = 32) (hr : w.rangeAt A off (idA x).toList)
    (h : wpStill Tryd.prog ops w Q rest (a.put o.dst (idv x))) : wpStill Tryd.prog ops w Q (o :: rest) a := by
  refine wpStill_step (fun K hK => ?_)
  have hw : Region.wanted o (yielded ops a.tmps) = true := by simp [Region.wanted, hg]
  have hrun := run_loadAt_mid (P := Tryd.prog) w A off 29 (idA x).toList _ hr Tryd.underlying29 rfl (by rw [Array.length_toList, idA_size, hl]; exact id_info')
  rw [if_pos hw]
  unfold Oper.still execOp
  simp only [ho, hev, Sem.run_bind, hrun, Result.andThen_ok]
  rw [Array.toArray_toList]
  exact (Oper.stillUpon_value o a w K (idv x)).mpr (hK _ h)
end Go.Proofs.YtccgfjkahdbboaaDoor
