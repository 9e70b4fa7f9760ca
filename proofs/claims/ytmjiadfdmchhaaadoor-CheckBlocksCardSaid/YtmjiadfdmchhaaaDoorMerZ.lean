/-
  Texts in one: IdsA, IdsB, MerA, MerB, MerC, MerD.
-/
import Derived.Test.YtmjiadfdmchhaaaDoorHashZ
import Derived.Laws.MakeOwn
import Derived.Great.BuildSlice
import Derived.StillTailTactics
import Derived.Deep.RegionLaw
namespace Go.Proofs.YtmjiadfdmchhaaaDoor
open Go.RowKit
set_option linter.unusedVariables false

def IsId (x : List Nat) : Prop := x.length = 32 ∧ ∀ b ∈ x, b < 256
def IsIds (L : List (List Nat)) : Prop := ∀ x ∈ L, IsId x
theorem IsIds.flat {L : List (List Nat)} (h : IsIds L) : L.flatten.length = L.length * 32 := by
  induction L with
  | nil => rfl
  | cons x r ih =>
    rw [List.flatten_cons, List.length_append, (h x (by simp)).1, ih (fun y hy => h y (by simp [hy])), List.length_cons]
    omega
theorem IsIds.app {L M : List (List Nat)} (h : IsIds L) (k : IsIds M) : IsIds (L ++ M) := fun x hx => (List.mem_append.1 hx).elim (h x) (k x)
theorem IsIds.one {x : List Nat} (h : IsId x) : IsIds [x] := fun y hy => by
  obtain rfl : y = x := by simpa using hy
  exact h
theorem IsIds.nil : IsIds [] := fun x hx => by cases hx
theorem IsIds.at_ {L : List (List Nat)} (h : IsIds L) {i : Nat} {x : List Nat} (hi : L[i]? = some x) : IsId x := h x (List.mem_of_getElem? hi)
/-- Where a name of a row stands. -/
theorem flat_get (L : List (List Nat)) (h : IsIds L) (i j : Nat) (x : List Nat) (hi : L[i]? = some x) (hj : j < 32) : L.flatten[i * 32 + j]? = x[j]? := by
  induction L generalizing i with
  | nil => cases hi
  | cons y r ih =>
    have hy := (h y (by simp)).1
    cases i with
    | zero =>
      obtain rfl : y = x := by simpa using hi
      rw [List.flatten_cons, Nat.zero_mul, Nat.zero_add, List.getElem?_append_left (by omega)]
    | succ i =>
      rw [List.flatten_cons, List.getElem?_append_right (by omega), show (i + 1) * 32 + j - y.length = i * 32 + j by omega]
      exact ih (fun z hz => h z (by simp [hz])) i (by simpa using hi)
/-- A slice whose names are these, in a block below B. -/
def IdsV (w : World) (B : Nat) (v : Value) (L : List (List Nat)) : Prop := ∃ s cap, v = .slice s L.length cap ∧ L.length ≤ cap ∧ cap < 9223372036854775808 ∧ IsIds L ∧
  (L ≠ [] → ∃ b o, s = some ⟨b, o, none⟩ ∧ b < B ∧ ∀ i x, L[i]? = some x → w.rangeAt b (o + i * 32) (idA x).toList)
theorem idr_below {C : Nat} {w w' : World} {b o : Nat} {cs : List Value} (h : w.rangeAt b o cs) (hb : Below C w w') (hC : b < C) : w'.rangeAt b o cs := fun j v hv => (hb.cell (p := ⟨b, o + j, none⟩) hC).trans (h j v hv)
theorem IdsV.keep {w w' : World} {B : Nat} {v : Value} {L : List (List Nat)} (h : IdsV w B v L) {C : Nat} (hb : Below C w w') (hC : B ≤ C) : IdsV w' B v L := by
  obtain ⟨s, cap, rfl, h1, h2, h3, h4⟩ := h
  refine ⟨s, cap, rfl, h1, h2, h3, fun hne => ?_⟩
  obtain ⟨b, o, e, hb', hc⟩ := h4 hne
  exact ⟨b, o, e, hb', fun i x hx => idr_below (hc i x hx) hb (by omega)⟩
theorem IdsV.mono {w : World} {B C : Nat} {v : Value} {L : List (List Nat)} (h : IdsV w B v L) (hC : B ≤ C) : IdsV w C v L := by
  obtain ⟨s, cap, rfl, h1, h2, h3, h4⟩ := h
  refine ⟨s, cap, rfl, h1, h2, h3, fun hne => ?_⟩
  obtain ⟨b, o, e, hb', hc⟩ := h4 hne
  exact ⟨b, o, e, by omega, hc⟩
theorem IdsV.slice {w : World} {B : Nat} {v : Value} {L : List (List Nat)} (h : IdsV w B v L) : ∃ s c, v = .slice s L.length c := by
  obtain ⟨s, cap, rfl, _⟩ := h
  exact ⟨s, cap, rfl⟩
theorem IdsV.ids {w : World} {B : Nat} {v : Value} {L : List (List Nat)} (h : IdsV w B v L) : IsIds L := by
  obtain ⟨s, cap, rfl, _, _, h, _⟩ := h
  exact h
theorem IdsV.nil (w : World) (B : Nat) : IdsV w B (.slice none 0 0) [] := ⟨none, 0, rfl, Nat.le_refl _, by omega, IsIds.nil, fun h => absurd rfl h⟩
/-- Where its names lie. -/
theorem IdsV.at_ {w : World} {B n c : Nat} {s : Option Addr} {L : List (List Nat)} (h : IdsV w B (.slice s n c) L) (hne : L ≠ []) : ∃ b o, s = some ⟨b, o, none⟩ ∧ b < B ∧ n = L.length ∧ ∀ i x, L[i]? = some x → w.rangeAt b (o + i * 32) (idA x).toList := by
  obtain ⟨s', cap, e, h1, h2, h3, h4⟩ := h
  cases e
  obtain ⟨b, o, e, hb, hc⟩ := h4 hne
  exact ⟨b, o, e, hb, rfl, hc⟩
/-- A slice of the call's own, of just these names. -/
def MineI (W : World) (lo : Nat) (v : Value) (L : List (List Nat)) : Prop := (v = .slice none 0 0 ∧ L = []) ∨
  ∃ T cap z, v = .slice (some ⟨T, 0, none⟩) L.length cap ∧ cap = L.length + z ∧ cap < 9223372036854775808 ∧ lo ≤ T ∧ Bk W T 23 (idA (L.flatten ++ zeros (z * 32)))
theorem MineI.keep {W W' : World} {lo : Nat} {v : Value} {L : List (List Nat)} (h : MineI W lo v L) (hb : Below W.heap.size W W') : MineI W' lo v L := by
  rcases h with h | ⟨T, cap, z, e, hc, hc2, hT, K⟩
  · exact .inl h
  · exact .inr ⟨T, cap, z, e, hc, hc2, hT, K.keep hb⟩
theorem MineI.slice {W : World} {lo : Nat} {v : Value} {L : List (List Nat)} (h : MineI W lo v L) : ∃ s c, v = .slice s L.length c := by
  rcases h with ⟨rfl, rfl⟩ | ⟨T, cap, z, rfl, _⟩
  · exact ⟨none, 0, rfl⟩
  · exact ⟨_, _, rfl⟩
theorem idA_opt' (l : List Nat) (i : Nat) : (idA l)[i]? = (l[i]?).map byteV := by unfold idA; simp
theorem row_ids {W : World} {T : Nat} {t : TypeId} {L : List (List Nat)} {r : List Nat} (hL : IsIds L) (K : Bk W T t (idA (L.flatten ++ r))) : ∀ i x, L[i]? = some x → W.rangeAt T (0 + i * 32) (idA x).toList := by
  intro i x hx j v hv
  have hxl := (hL.at_ hx).1
  have hil := (List.getElem?_eq_some_iff.1 hx).1
  have hj : j < 32 := by
    have := (List.getElem?_eq_some_iff.1 hv).1
    simp [idA_size, hxl] at this
    exact this
  rw [Nat.zero_add, K.cell, idA_opt', List.getElem?_append_left (by rw [hL.flat]; omega), flat_get L hL i j x hx hj]
  rw [← hv]
  simp [idA_opt']
theorem MineI.ids {W : World} {lo : Nat} {v : Value} {L : List (List Nat)} (h : MineI W lo v L) (hL : IsIds L) : IdsV W W.heap.size v L := by
  rcases h with ⟨rfl, rfl⟩ | ⟨T, cap, z, rfl, hc, hc2, hT, K⟩
  · exact IdsV.nil _ _
  · exact ⟨_, cap, rfl, by omega, hc2, hL, fun _ => ⟨T, 0, rfl, K.lt, row_ids hL K⟩⟩
/-- A row of names, just built. -/
theorem ids_row {w : World} {g n : Nat} {t : TypeId} {L : List (List Nat)} (hg : Bk w g t (idA L.flatten)) (hL : IsIds L) (hn : n = L.length) (hc : L.length < 9223372036854775808) : IdsV w w.heap.size (.slice (some ⟨g, 0, none⟩) n n) L := by
  subst hn
  have K : Bk w g t (idA (L.flatten ++ [])) := by rw [List.append_nil]; exact hg
  exact ⟨_, _, rfl, Nat.le_refl _, hc, hL, fun _ => ⟨g, 0, rfl, hg.lt, row_ids hL K⟩⟩
theorem id_facts : (Tryd.prog.info? 23).map (fun i => (i.zero, i.size, i.bytes)) = some (some (idv (zeros 32)), 32, 32) := by kernel_rfl
theorem id_infoA : ∃ i, Tryd.prog.info? 23 = some i ∧ i.zero = some (idv (zeros 32)) ∧ i.size = 32 ∧ i.bytes = 32 := by
  have h := id_facts
  revert h
  cases Tryd.prog.info? 23 with
  | none => intro h; cases h
  | some i =>
    intro h
    have h' : (i.zero, i.size, i.bytes) = (some (idv (zeros 32)), 32, 32) := Option.some.inj h
    simp only [Prod.mk.injEq] at h'
    exact ⟨i, rfl, h'.1, h'.2.1, h'.2.2⟩
theorem zero_get (i : Nat) (h : i < 32) : (zeros 32)[i]? = some 0 := by unfold zeros; rw [List.getElem?_replicate, if_pos h]
theorem cells_id (x : List Nat) : (idv x).cells = idA x := rfl
theorem zero_ids (k : Nat) : Builtin.zeroCells (idv (zeros 32)).cells k = idA (zeros (k * 32)) := by
  rw [cells_id]
  have hs : (idA (zeros 32)).size = 32 := by rw [idA_size]; rfl
  have he : ∀ m, m < 32 → (idA (zeros 32))[m]! = byteV 0 := by
    intro m hm
    have h := idA_opt' (zeros 32) m
    rw [zero_get m hm] at h
    rw [getElem!_def, h]
    rfl
  unfold Builtin.zeroCells
  rw [hs]
  apply Array.ext_getElem?
  intro i
  rw [idA_opt']
  unfold zeros
  rw [List.getElem?_replicate, Array.getElem?_map, Array.getElem?_range]
  by_cases h : i < k * 32
  · rw [if_pos h, if_pos h, Option.map_some, Option.map_some, ← he (i % 32) (Nat.mod_lt _ (by omega))]
    rfl
  · rw [if_neg h, if_neg h]
    rfl
theorem ovr_ids (xs ys : List Nat) (z m : Nat) (hm : ys.length = m) (h : m ≤ z) : ovr (idA (xs ++ zeros z)) xs.length (ys.map byteV) = idA ((xs ++ ys) ++ zeros (z - m)) := by
  subst hm
  exact ovr_bytes xs ys z h
end Go.Proofs.YtmjiadfdmchhaaaDoor
namespace Go.Proofs.YtmjiadfdmchhaaaDoor
open Go.RowKit
set_option linter.unusedVariables false

/-- All is as it was but the block in which v lies. -/
def ButI (v : Value) (w W : World) : Prop := ∀ b o, b < w.heap.size → (∀ o' n c, v ≠ .slice (some ⟨b, o', none⟩) n c) → W.cell? ⟨b, o, none⟩ = w.cell? ⟨b, o, none⟩
/-- The names, onto a slice of the call's own. -/
theorem appI2 (xs ys : List (List Nat)) (v u : Value) (lo : Nat) (w : World) (hm : MineI w lo v xs) (hxs : IsIds xs) (hlo : lo ≤ w.heap.size) (hu : IdsV w w.heap.size u ys) (hlt : xs.length + ys.length ≤ 1048576) :
    ∃ v' W, (Builtin.append_ #[60, 60] 60 #[v, u]).run Tryd.prog w = .ok v' W ∧ MineI W lo v' (xs ++ ys) ∧ Below lo w W ∧ ButI v w W := by
  obtain ⟨i, hi, hz, hs, hby⟩ := id_infoA
  obtain ⟨s, cap, rfl, h1, h2, h3, h4⟩ := hu
  have fx := hxs.flat
  have fy := h3.flat
  by_cases h0 : ys = []
  · subst h0
    have hsrc : Src Tryd.prog i.size 60 (.slice s 0 cap) 0 [] w := by
      cases s with
      | none => exact Src.ofNil w Tryd.underlying60 cap
      | some a => exact Src.ofSlice w Tryd.underlying60 a 0 cap [] (by simp) (by simp) (by simp)
    rw [List.append_nil]
    rcases hm with ⟨rfl, rfl⟩ | ⟨T, c, z, rfl, hc, hc2, hT, K⟩
    · exact ⟨_, w, run_append_nothing w _ _ _ _ i Tryd.underlying60 hi _ 0 0 (Nat.le_refl _) _ hsrc, .inl ⟨rfl, rfl⟩, Below.refl _ _, fun _ _ _ _ => rfl⟩
    · exact ⟨_, w, run_append_nothing w _ _ _ _ i Tryd.underlying60 hi _ xs.length c (by omega) _ hsrc, .inr ⟨T, c, z, rfl, hc, hc2, hT, K⟩, Below.refl _ _, fun _ _ _ _ => rfl⟩
  · obtain ⟨b, o, rfl, hb, hc⟩ := h4 h0
    have hpos : 0 < ys.length := by
      rcases Nat.eq_zero_or_pos ys.length with h | h
      · exact absurd (List.eq_nil_of_length_eq_zero h) h0
      · exact h
    have hsrc : Src Tryd.prog i.size 60 (.slice (some ⟨b, o, none⟩) ys.length cap) ys.length (ys.flatten.map byteV) w :=
      Src.ofSlice w Tryd.underlying60 _ _ _ _ (by rw [hs, List.length_map, fy]) (fun j u hu => by
        rw [List.getElem?_map] at hu
        have hjl : j < ys.length * 32 := by
          rcases Nat.lt_or_ge j (ys.length * 32) with h | h
          · exact h
          · rw [List.getElem?_eq_none (by omega)] at hu; cases hu
        have hq : j / 32 < ys.length := by omega
        have hx := List.getElem?_eq_getElem hq
        have hr : j % 32 < 32 := Nat.mod_lt _ (by omega)
        have e1 := flat_get ys h3 (j / 32) (j % 32) _ hx hr
        have e2 := hc (j / 32) _ hx (j % 32) u (by
          rw [Array.getElem?_toList, idA_opt', ← e1, show j / 32 * 32 + j % 32 = j by omega]
          exact hu)
        rw [Go.WideShapes.add_plain]
        rw [show o + j / 32 * 32 + j % 32 = o + j by omega] at e2
        exact e2) (by
        intro u hu
        obtain ⟨x, _, rfl⟩ := List.mem_map.1 hu
        rfl)
    have grown : ∀ (sb : Option Addr) (c : Nat), c < xs.length + ys.length → (Builtin.firstCells i.size xs.length (.slice sb xs.length c)).run Tryd.prog w.drew = .ok (xs.flatten.map byteV).toArray w.drew →
        ∃ v' W, (Builtin.append_ #[60, 60] 60 #[.slice sb xs.length c, .slice (some ⟨b, o, none⟩) ys.length cap]).run Tryd.prog w = .ok v' W ∧ MineI W lo v' (xs ++ ys) ∧ Below lo w W ∧ ButI (.slice sb xs.length c) w W := by
      intro sb c hcl hold
      have hge := grownCap_ge w (xs.length + ys.length) c 23
      have hle := grownCap_le_maxLen w (xs.length + ys.length) c 23 (by unfold maxLen; omega)
      unfold maxLen at hle
      have hrun := run_append_grow_src w 60 60 60 23 i _ Tryd.underlying60 hi hz sb xs.length c _ hold _ ys.length _ hsrc hcl (by omega) (growslice_fits_wide hcl (by rw [hby]; omega))
      rw [zero_ids] at hrun
      refine ⟨_, _, hrun, .inr ⟨w.heap.size, grownCap w (xs.length + ys.length) c 23, grownCap w (xs.length + ys.length) c 23 - (xs.length + ys.length), by rw [List.length_append], by rw [List.length_append]; omega, by omega, hlo, ?_⟩, (Below.refl lo w).drew.alloc (by simpa using hlo) _, fun b' o' hb' _ => (World.cell?_alloc_lt w.drew _ ⟨b', o', none⟩ hb')⟩
      refine Eq.trans (heap_alloc_new w.drew _) ?_
      simp [idA]
    rcases hm with ⟨rfl, rfl⟩ | ⟨T, c, z, rfl, hcz, hc2, hT, K⟩
    · exact grown none 0 (by simpa using hpos) (run_firstCells_none w.drew _ 0 0 0)
    · rcases Nat.lt_or_ge c (xs.length + ys.length) with hg | hr
      · refine grown _ c hg (run_firstCells_some w.drew _ _ _ _ _ _ (by rw [hs, List.length_map, fx]) (fun j u hu => ?_))
        rw [List.getElem?_map] at hu
        rcases hj : xs.flatten[j]? with _ | x
        · rw [hj] at hu; cases hu
        · rw [hj] at hu
          have hl := (List.getElem?_eq_some_iff.1 hj).1
          rw [Go.WideShapes.add_plain, Nat.zero_add]
          refine (K.drew.cell j).trans ?_
          rw [idA_opt', List.getElem?_append_left hl, hj]
          exact hu
      · have hyl : (ys.flatten.map byteV).length = ys.length * 32 := by rw [List.length_map, fy]
        have hrun := run_append_room_src w 60 60 60 23 i Tryd.underlying60 hi T 0 xs.length c _ ys.length _ hsrc hr
          (fun j hj => by
            rw [hyl] at hj
            rw [hs, Nat.zero_add, K.cell, idA_opt']
            have : xs.length * 32 + j < (xs.flatten ++ zeros (z * 32)).length := by
              rw [List.length_append, fx]
              unfold zeros
              rw [List.length_replicate]
              omega
            rw [List.getElem?_eq_getElem this]; rfl)
          (fun j hj => by rw [hs, Nat.zero_add]; exact K.frozen _)
        rw [hs, Nat.zero_add] at hrun
        refine ⟨_, _, hrun, .inr ⟨T, c, z - ys.length, by rw [List.length_append], by rw [List.length_append]; omega, hc2, hT, ?_⟩, Below.setCells hT _ _ _ (Below.refl _ _), fun b' o' hb' hne => World.cell?_setCells_out T _ _ w ⟨b', o', none⟩ (fun hbe _ => absurd rfl (by have hbe' : b' = T := hbe; subst hbe'; exact hne 0 _ _))⟩
        have e := Bk.ovr_ (w := w) (ys.flatten.map byteV) xs.flatten.length w _ K
        rw [ovr_ids xs.flatten ys.flatten (z * 32) (ys.length * 32) fy (by omega), fx] at e
        rw [List.flatten_append, Nat.sub_mul]
        exact e
theorem appI (xs ys : List (List Nat)) (v u : Value) (lo : Nat) (w : World) (hm : MineI w lo v xs) (hxs : IsIds xs) (hlo : lo ≤ w.heap.size) (hu : IdsV w w.heap.size u ys) (hlt : xs.length + ys.length ≤ 1048576) :
    ∃ v' W, (Builtin.append_ #[60, 60] 60 #[v, u]).run Tryd.prog w = .ok v' W ∧ MineI W lo v' (xs ++ ys) ∧ Below lo w W := by
  obtain ⟨v', W, h1, h2, h3, _⟩ := appI2 xs ys v u lo w hm hxs hlo hu hlt
  exact ⟨v', W, h1, h2, h3⟩
/-- An append whose outcome is known, as a step of a region that draws. -/
theorem step_appI {ops : Array Oper} {o : Oper} {a : Act} {w W : World} {K : Act → World → Prop} {Q : Exit → Act → World → Prop} {E : Prop} {v1 v2 v : Value}
    (hg : o.guard = none) (s y : Operand) (hop : o.op = Op.call { callee := Callee.builtin Builtin.append, args := #[s, y], argTypes := #[60, 60] }) (hty : o.type = 60)
    (hs : a.eval s = v1) (hy : a.eval y = v2) (hrun : (Builtin.append_ #[60, 60] 60 #[v1, v2]).run Tryd.prog w = .ok v W)
    (hK : K (a.put o.dst v) W) :
    if Region.wanted o (yielded ops a.tmps) = true then Oper.wp Tryd.prog o a w K Q else E := by
  have hw : Region.wanted o (yielded ops a.tmps) = true := by simp [Region.wanted, hg]
  rw [if_pos hw]
  unfold Oper.wp
  simp [execOp, hop, resolve, invoke, builtin, hs, hy, hty, hrun, Result.andThen]
  exact hK
/-- An append whose outcome is known, in a plain region. -/
theorem wpList_appI {ops : Array Oper} {rest : List Oper} {o : Oper} {a : Act} {w W : World} {Q : Exit → Act → World → Prop} {v1 v2 v : Value} (hg : o.guard = none) (s x : Operand)
    (hop : o.op = Op.call { callee := Callee.builtin Builtin.append, args := #[s, x], argTypes := #[60, 60] }) (hty : o.type = 60) (hs : a.eval s = v1) (hx : a.eval x = v2)
    (hrun : (Builtin.append_ #[60, 60] 60 #[v1, v2]).run Tryd.prog w = .ok v W) (hK : wpList Tryd.prog ops Q rest (a.put o.dst v) W) : wpList Tryd.prog ops Q (o :: rest) a w := by
  refine wpList_plain hg fun K hK' => ?_
  unfold Oper.wp
  simp [execOp, hop, resolve, invoke, builtin, hs, hx, hty, hrun, Result.andThen]
  exact hK' _ _ hK
/-- A row of names that is made, none in it yet. -/
theorem run_makeI (w : World) (m : Nat) (hm : m ≤ 1000000) :
    (Instr.makeSlice 60 (.int .i64 0) (.int .i64 (m : Int))).run Tryd.prog w = .ok (.slice (some ⟨w.heap.size, 0, none⟩) 0 m) (w.alloc (.cells (idA (zeros (m * 32))) 23)) := by
  obtain ⟨i, hi, hz, hs, hby⟩ := id_infoA
  have h := run_make (P := Tryd.prog) w 60 23 i _ Tryd.underlying60 hi hz .i64 .i64 0 (m : Int) (by omega) (by omega) (by rw [hby]; omega) (by omega)
  have e : madeCells (idv (zeros 32)).cells (m * 32) = idA (zeros (m * 32)) := zero_ids m
  rw [Int.toNat_natCast, hs, e] at h
  exact h
theorem wpList_mkI {ops : Array Oper} {rest : List Oper} {o : Oper} {a : Act} {w W : World} {Q : Exit → Act → World → Prop} {v1 v2 v : Value} (t : TypeId) (hg : o.guard = none) (l c : Operand)
    (hop : o.op = Op.makeSlice t l c) (hs : a.eval l = v1) (hx : a.eval c = v2)
    (hrun : (Instr.makeSlice t v1 v2).run Tryd.prog w = .ok v W) (hK : wpList Tryd.prog ops Q rest (a.put o.dst v) W) : wpList Tryd.prog ops Q (o :: rest) a w := by
  refine wpList_plain hg fun K hK' => ?_
  unfold Oper.wp
  simp [execOp, hop, hs, hx, hrun, Result.andThen]
  exact hK' _ _ hK
theorem id_agg (w : World) : (isAgg 23).run Tryd.prog w = .ok true w := by kernel_rfl
theorem id_size (w : World) : (sizeOf 23).run Tryd.prog w = .ok 32 w := by kernel_rfl
theorem id_cells (w : World) (A o : Nat) (L : List Value) (hl : L.length = 32) (h : w.rangeAt A o L) : (loadCellsFrom ⟨A, o, none⟩ 0 32 #[]).run Tryd.prog w = .ok L.toArray w := by
  have e := run_loadCells_list (P := Tryd.prog) w ⟨A, o, none⟩ L (fun j v hv => by rw [Addr.add_mid]; exact h j v hv)
  rw [hl] at e
  exact e
theorem id_load (w : World) (A o : Nat) (x : List Nat) (hl : x.length = 32) (h : w.rangeAt A o (idA x).toList) : (loadCellsFrom ⟨A, o, none⟩ 0 32 #[]).run Tryd.prog w = .ok (idA x) w := by
  have e := id_cells w A o (idA x).toList (by rw [Array.length_toList, idA_size, hl]) h
  simpa using e
theorem id_one (O : List Nat) : ∀ v ∈ (idA O).toList, v.oneCell' = true := by
  intro v hv
  simp only [idA, List.mem_map] at hv
  obtain ⟨x, _, rfl⟩ := hv
  rfl
theorem id_ones (O : List Nat) : (idA O).all (·.oneCell') = true := all_oneCell_toArray (id_one O)
theorem flat_cells (L : List (List Nat)) : ((L.map fun x => idv x).flatMap fun v => v.cells.toList).toArray = idA L.flatten := by
  unfold idA
  congr 1
  induction L with
  | nil => rfl
  | cons x r ih =>
    rw [List.map_cons, List.flatMap_cons, ih, List.flatten_cons, List.map_append]
    rfl
/-- A row of names that is built out of them. -/
theorem wpList_bsI {ops : Array Oper} {rest : List Oper} {o : Oper} {a : Act} {w : World} {Q : Exit → Act → World → Prop} (hg : o.guard = none) (len : Nat) (parts : Array (Nat × Operand)) (ho : o.op = .buildSlice 60 len parts)
    (L : List (List Nat)) (hL : IsIds L) (hlen : len = L.length) (hpos : 0 < len) (hsmall : len ≤ 1000) (hparts : (parts.map fun (i, x) => (i, a.eval x)).toList = ((L.map fun x => idv x).zipIdx 0).map fun x => (x.2, x.1))
    (h : wpList Tryd.prog ops Q rest (a.put o.dst (.slice (some ⟨w.heap.size, 0, none⟩) len len)) (w.alloc (.cells (idA L.flatten) 23))) : wpList Tryd.prog ops Q (o :: rest) a w := by
  obtain ⟨i, hi, hz, hs, hby⟩ := id_infoA
  refine wpList_buildSlice hg 60 23 len parts ho _ i _ Tryd.underlying60 hi hz (by rw [hs]; omega) (by rw [hs]; omega) ?_ h
  rw [hparts, hs, ← flat_cells]
  refine Great.fill_whole (by omega) _ _ ?_ ?_
  · intro v hv
    obtain ⟨x, hx, rfl⟩ := List.mem_map.1 hv
    show (idA x).size = 32
    rw [idA_size, (hL x hx).1]
  · rw [List.length_map, ← hlen]
    simp
theorem wpList_bsI1 {ops : Array Oper} {rest : List Oper} {o : Oper} {a : Act} {w : World} {Q : Exit → Act → World → Prop} (hg : o.guard = none) (k : Operand) (ho : o.op = .buildSlice 60 1 #[(0, k)])
    (q : List Nat) (hq : IsId q) (hev : a.eval k = idv q)
    (h : wpList Tryd.prog ops Q rest (a.put o.dst (.slice (some ⟨w.heap.size, 0, none⟩) 1 1)) (w.alloc (.cells (idA q) 23))) : wpList Tryd.prog ops Q (o :: rest) a w := by
  have e : [q].flatten = q := by simp
  refine wpList_bsI hg 1 _ ho [q] (IsIds.one hq) rfl (by omega) (by omega) ?_ (by rw [e]; exact h)
  rw [Array.toList_map]
  simp [hev]
theorem wpList_bsI2 {ops : Array Oper} {rest : List Oper} {o : Oper} {a : Act} {w : World} {Q : Exit → Act → World → Prop} (hg : o.guard = none) (k l : Operand) (ho : o.op = .buildSlice 60 2 #[(0, k), (1, l)])
    (q r : List Nat) (hq : IsId q) (hr : IsId r) (hev : a.eval k = idv q) (hel : a.eval l = idv r)
    (h : wpList Tryd.prog ops Q rest (a.put o.dst (.slice (some ⟨w.heap.size, 0, none⟩) 2 2)) (w.alloc (.cells (idA (q ++ r)) 23))) : wpList Tryd.prog ops Q (o :: rest) a w := by
  have e : [q, r].flatten = q ++ r := by simp
  have h2 : IsIds [q, r] := IsIds.app (IsIds.one hq) (IsIds.one hr)
  refine wpList_bsI hg 2 _ ho [q, r] h2 rfl (by omega) (by omega) ?_ (by rw [e]; exact h)
  rw [Array.toList_map]
  simp [hev, hel]
theorem two_row {w : World} {g : Nat} {t : TypeId} {q r : List Nat} (hg : Bk w g t (idA (q ++ r))) (hq : IsId q) (hr : IsId r) : IdsV w w.heap.size (.slice (some ⟨g, 0, none⟩) 2 2) [q, r] := by
  refine ids_row (t := t) (L := [q, r]) ?_ (IsIds.app (IsIds.one hq) (IsIds.one hr)) rfl (by simp)
  have e : [q, r].flatten = q ++ r := by simp
  rw [e]
  exact hg
theorem one_row {w : World} {g : Nat} {t : TypeId} {q : List Nat} (hg : Bk w g t (idA q)) (hq : IsId q) : IdsV w w.heap.size (.slice (some ⟨g, 0, none⟩) 1 1) [q] := by
  refine ids_row (t := t) (L := [q]) ?_ (IsIds.one hq) rfl (by simp)
  have e : [q].flatten = q := by simp
  rw [e]
  exact hg
/-- A row of one name, built: what the walk's own steps come to. -/
theorem id_fold (q : List Nat) (hq : q.length = 32) : Array.foldl (fun (cs : Array Value) (x : Value × Nat) => cs.setIfInBounds x.snd x.fst) #[.int .u8 0, .int .u8 0, .int .u8 0, .int .u8 0, .int .u8 0, .int .u8 0, .int .u8 0, .int .u8 0, .int .u8 0, .int .u8 0, .int .u8 0, .int .u8 0, .int .u8 0, .int .u8 0, .int .u8 0, .int .u8 0, .int .u8 0, .int .u8 0, .int .u8 0, .int .u8 0, .int .u8 0, .int .u8 0, .int .u8 0, .int .u8 0, .int .u8 0, .int .u8 0, .int .u8 0, .int .u8 0, .int .u8 0, .int .u8 0, .int .u8 0, .int .u8 0] ((idA q).zipIdx 0) 0 32 = idA q := by
  have hs : ((idA q).zipIdx 0).size = 32 := by rw [Array.size_zipIdx, idA_size, hq]
  have h := Great.foldl_set 0 (idA q).toList 0 #[.int .u8 0, .int .u8 0, .int .u8 0, .int .u8 0, .int .u8 0, .int .u8 0, .int .u8 0, .int .u8 0, .int .u8 0, .int .u8 0, .int .u8 0, .int .u8 0, .int .u8 0, .int .u8 0, .int .u8 0, .int .u8 0, .int .u8 0, .int .u8 0, .int .u8 0, .int .u8 0, .int .u8 0, .int .u8 0, .int .u8 0, .int .u8 0, .int .u8 0, .int .u8 0, .int .u8 0, .int .u8 0, .int .u8 0, .int .u8 0, .int .u8 0, .int .u8 0]
  simp only [Nat.zero_add] at h
  obtain ⟨h1, h2⟩ := h
  have e : Array.foldl (fun (cs : Array Value) (x : Value × Nat) => cs.setIfInBounds x.snd x.fst) #[.int .u8 0, .int .u8 0, .int .u8 0, .int .u8 0, .int .u8 0, .int .u8 0, .int .u8 0, .int .u8 0, .int .u8 0, .int .u8 0, .int .u8 0, .int .u8 0, .int .u8 0, .int .u8 0, .int .u8 0, .int .u8 0, .int .u8 0, .int .u8 0, .int .u8 0, .int .u8 0, .int .u8 0, .int .u8 0, .int .u8 0, .int .u8 0, .int .u8 0, .int .u8 0, .int .u8 0, .int .u8 0, .int .u8 0, .int .u8 0, .int .u8 0, .int .u8 0] ((idA q).zipIdx 0) 0 32 = (((idA q).toList.zipIdx 0).foldl (fun (cs : Array Value) (x : Value × Nat) => cs.setIfInBounds x.2 x.1) #[.int .u8 0, .int .u8 0, .int .u8 0, .int .u8 0, .int .u8 0, .int .u8 0, .int .u8 0, .int .u8 0, .int .u8 0, .int .u8 0, .int .u8 0, .int .u8 0, .int .u8 0, .int .u8 0, .int .u8 0, .int .u8 0, .int .u8 0, .int .u8 0, .int .u8 0, .int .u8 0, .int .u8 0, .int .u8 0, .int .u8 0, .int .u8 0, .int .u8 0, .int .u8 0, .int .u8 0, .int .u8 0, .int .u8 0, .int .u8 0, .int .u8 0, .int .u8 0]) := by
    rw [← hs, ← Array.foldl_toList, Array.toList_zipIdx]
  rw [e]
  apply Array.ext_getElem?
  intro k
  rw [h2]
  have hl : (idA q).toList.length = 32 := by rw [Array.length_toList, idA_size, hq]
  by_cases hk : k < 32
  · rw [if_pos ⟨by omega, by rw [hl]; omega, by simpa using hk⟩]
    simp
  · rw [if_neg (by rw [hl]; omega), Array.getElem?_eq_none (by simp; omega), Array.getElem?_eq_none (by rw [idA_size, hq]; omega)]
/-- A name is loaded, in the head of a region that draws. -/
theorem still_load_id {ops : Array Oper} {rest : List Oper} {o : Oper} {a : Act} {w : World} {Q : Act → Prop} (hg : o.guard = none) (k : Operand) (ho : o.op = .load 23 k) (A off : Nat) (hev : a.eval k = .pointer (some ⟨A, off, none⟩)) (x : List Nat) (hl : x.length = 32) (hr : w.rangeAt A off (idA x).toList)
    (h : wpStill Tryd.prog ops w Q rest (a.put o.dst (idv x))) : wpStill Tryd.prog ops w Q (o :: rest) a := by
  refine wpStill_step (fun K hK => ?_)
  have hw : Region.wanted o (yielded ops a.tmps) = true := by simp [Region.wanted, hg]
  have hrun := run_loadAt_mid (P := Tryd.prog) w A off 23 (idA x).toList _ hr Tryd.underlying23 rfl (by rw [Array.length_toList, idA_size, hl]; exact id_info')
  rw [if_pos hw]
  unfold Oper.still execOp
  simp only [ho, hev, Sem.run_bind, hrun, Result.andThen_ok]
  rw [Array.toArray_toList]
  exact (Oper.stillUpon_value o a w K (idv x)).mpr (hK _ h)
end Go.Proofs.YtmjiadfdmchhaaaDoor
namespace Go.Proofs.YtmjiadfdmchhaaaDoor
open Go.RowKit
set_option linter.unusedVariables false

/-- The sum of two. -/
def H2 (x y : List Nat) : List Nat := sha (sha (x ++ y))
theorem H2_id (x y : List Nat) : IsId (H2 x y) := ⟨rfl, sha_lt _⟩
theorem parts_two {w : World} {g1 g2 h : Nat} {xs ys : List Nat} {t u : TypeId} (hx : IsId xs) (hy : IsId ys) (h1 : Bk w g1 t (idA xs)) (h2 : Bk w g2 t (idA ys)) (hh : Bk w h u #[.slice (some ⟨g1, 0, none⟩) 32 32, .slice (some ⟨g2, 0, none⟩) 32 32]) : PartsV w (some ⟨h, 0, none⟩) [xs, ys] := by
  intro _
  refine ⟨h, 0, rfl, hh.lt, fun k zs hk => ?_⟩
  match k with
  | 0 =>
    obtain rfl : xs = zs := by simpa using hk
    exact ⟨_, hh.cell 0, some ⟨g1, 0, none⟩, 32, by rw [hx.1]; rfl, by rw [hx.1]; omega, by omega, hx.2, fun _ => ⟨g1, 0, rfl, h1.lt, fun i hi => by
      rw [Nat.zero_add, h1.cell]; exact idA_get xs i hi⟩⟩
  | 1 =>
    obtain rfl : ys = zs := by simpa using hk
    exact ⟨_, hh.cell 1, some ⟨g2, 0, none⟩, 32, by rw [hy.1]; rfl, by rw [hy.1]; omega, by omega, hy.2, fun _ => ⟨g2, 0, rfl, h2.lt, fun i hi => by
      rw [Nat.zero_add, h2.cell]; exact idA_get ys i hi⟩⟩
  | k + 2 => simp at hk
set_option maxRecDepth 100000 in
set_option maxHeartbeats 1000000 in
theorem pair_any (xs ys : List Nat) (w : World) (hL : Laid w) (hx : IsId xs) (hy : IsId ys) :
    Calls Tryd.prog 37 #[idv xs, idv ys] w fun e w' => e = .returned (idv (H2 xs ys)) ∧ Below w.heap.size w w' := by
  have HT : Hid (∀ sp W, Laid W → PartsV W sp [xs, ys] → Calls Tryd.prog 39 #[.slice sp 2 2] W fun e w' => e = .returned (idv (H2 xs ys)) ∧ Below W.heap.size W w') := fun sp W h1 h2 => by
    have h := twicev [xs, ys] sp 2 W h1 (by simp [hx.1, hy.1]) (by simp) h2
    simpa [H2] using h
  have HQL : Hid ((H2 xs ys).length = 32) := (H2_id xs ys).1
  generalize H2 xs ys = Q at *
  have HL := Lib.hid hL
  have HX := Lib.hid hx
  have HY := Lib.hid hy
  clear hL hx hy
  go_enter Tryd.func37, Tryd.ntmps37
  go_upto_region 1 with fail
  refine wp_any (fun W => Below w.heap.size w W ∧ Bk W w.heap.size 23 (idA xs) ∧ Bk W (w.heap.size + 1) 23 (idA ys) ∧ Bk W (w.heap.size + 2) 23 (idA (zeros 32))) ⟨?_, ?_, ?_, ?_⟩ ?_
  · exact (((Below.refl _ _).alloc (Nat.le_refl _) _).alloc (by simp) _).alloc (by simp; omega) _
  · exact ((Bk.new _ _ _).alloc _).alloc _
  · exact (Bk.new' _ _ _ (by simp)).alloc _
  · exact Bk.new' _ _ _ (by simp)
  generalize hg : w.heap.size = g at *
  rintro W ⟨hW, X, Y, R⟩
  have zx := X.lt
  have zy := Y.lt
  have zr := R.lt
  go_still_tail 2, (by kernel_rfl)
  change wpList _ _ _ _ _ W.drew
  have hW := hW.drew
  have X := X.drew
  have Y := Y.drew
  have R := R.drew
  clear zx zy zr
  generalize W.drew = W at *
  have zx := X.lt
  have zy := Y.lt
  have zr := R.lt
  have HLW := Lib.hid (HL.out.below hW (by rw [← hg]; exact HL.out.size))
  go_wp2_with fail
  have hA : Below g w (W.alloc (.cells #[.slice (some ⟨g, 0, none⟩) 32 32, .slice (some ⟨g + 1, 0, none⟩) 32 32] 32)) := hW.alloc (Nat.le_of_lt zx) _
  refine (HT.out _ _ (HL.out.below hA (by rw [← hg]; exact HL.out.size)) (parts_two HX.out HY.out (X.alloc _) (Y.alloc _) (Bk.new _ _ _))).mono ?_
  rintro e w5 ⟨rfl, hb5⟩
  have R5 := (R.alloc (.cells #[.slice (some ⟨g, 0, none⟩) 32 32, .slice (some ⟨g + 1, 0, none⟩) 32 32] 32)).keep hb5
  have hW5 := below_step hA (by simp; omega) hb5
  clear hb5 hA X Y R hW
  go_wp2_with (refine wpList_store_mid rfl 23 (.tmp 4) (.tmp 8) rfl (g + 1 + 1) 0 (idA Q) rfl rfl (by rw [idA_size, HQL.out]; exact R5.there 32 (by rw [idA_size]; decide)) (by rw [idA_size, HQL.out]; exact id_info') (id_ones Q) ?_)
  refine bodyPost_ret (results_cell_row rfl _ _ (g + 1 + 1) 23 (idA Q) (0, 0) _ rfl (R5.setAll (by rw [idA_size, idA_size, HQL.out]; rfl)) Tryd.underlying23 rfl (by rw [idA_size, HQL.out]; exact id_info')) rfl ⟨rfl, ?_⟩
  rw [hg]
  exact Below.setCells (by omega) _ _ _ hW5
set_option maxRecDepth 100000 in
set_option maxHeartbeats 1000000 in
/-- The place of the other one of a pair. -/
def besideN (i n : Nat) : Nat := if i % 2 = 1 then i - 1 else min (i + 1) (n - 1)
theorem beside_any (i n : Nat) (w : World) (hi : i < n) (hn : n ≤ 1000000) :
    Calls Tryd.prog 38 #[.int .i64 (i : Int), .int .i64 (n : Int)] w fun e w' => e = .returned (.int .i64 (besideN i n : Int)) ∧ w' = w := by
  unfold besideN
  by_cases h : i % 2 = 1
  · rw [if_pos h]
    have hd : decide ((i : Int) % 2 = 1) = true := decide_eq_true (by omega)
    have hd' : decide (i % 2 = 1) = true := decide_eq_true h
    go_enter Tryd.func38, Tryd.ntmps38
    go_wp2_with fail
    go_ret
    exact ⟨congrArg (fun x => Ending.returned (Value.int .i64 x)) (by omega), rfl⟩
  · rw [if_neg h]
    have hd : decide ((i : Int) % 2 = 1) = false := decide_eq_false (by omega)
    have hd' : decide (i % 2 = 1) = false := decide_eq_false h
    have e : min ((i : Int) + 1) ((n : Int) - 1) = ((min (i + 1) (n - 1) : Nat) : Int) := by omega
    have E := Lib.hid e
    generalize min (i + 1) (n - 1) = r at *
    clear e
    go_enter Tryd.func38, Tryd.ntmps38
    go_wp2_with fail
    all_goals
      go_ret
      exact ⟨congrArg (fun x => Ending.returned (Value.int .i64 x)) (by have := E.out; omega), rfl⟩
end Go.Proofs.YtmjiadfdmchhaaaDoor
namespace Go.Proofs.YtmjiadfdmchhaaaDoor
open Go.RowKit
set_option linter.unusedVariables false

def nthI (L : List (List Nat)) (i : Nat) : List Nat := L.getD i []
theorem nthI_get {L : List (List Nat)} {i : Nat} (h : i < L.length) : L[i]? = some (nthI L i) := by
  unfold nthI
  rw [List.getD, List.getElem?_eq_getElem h]
  rfl
theorem nthI_id {L : List (List Nat)} (hL : IsIds L) {i : Nat} (h : i < L.length) : IsId (nthI L i) := hL.at_ (nthI_get h)
theorem besideN_lt (i n : Nat) (h : i < n) : besideN i n < n := by unfold besideN; split <;> omega
/-- The first so many of the level over a level. -/
def aboveP (L : List (List Nat)) (m : Nat) : List (List Nat) := (List.range m).map fun t => H2 (nthI L (2 * t)) (nthI L (besideN (2 * t) L.length))
def aboveV (L : List (List Nat)) : List (List Nat) := aboveP L ((L.length + 1) / 2)
theorem aboveP_length (L : List (List Nat)) (m : Nat) : (aboveP L m).length = m := by unfold aboveP; simp
theorem aboveV_length (L : List (List Nat)) : (aboveV L).length = (L.length + 1) / 2 := aboveP_length _ _
theorem aboveP_succ (L : List (List Nat)) (m : Nat) : aboveP L (m + 1) = aboveP L m ++ [H2 (nthI L (2 * m)) (nthI L (besideN (2 * m) L.length))] := by
  unfold aboveP
  rw [List.range_succ, List.map_append]
  rfl
theorem aboveP_ids (L : List (List Nat)) (m : Nat) : IsIds (aboveP L m) := by
  intro x hx
  unfold aboveP at hx
  obtain ⟨t, _, rfl⟩ := List.mem_map.1 hx
  exact H2_id _ _
set_option maxRecDepth 100000 in
set_option maxHeartbeats 2000000 in
theorem above_any (v : Value) (L : List (List Nat)) (w : World) (hL : Laid w) (hv : IdsV w w.heap.size v L) (hn : L.length ≤ 100000) :
    Calls Tryd.prog 22 #[v] w fun e w' => ∃ v', e = .returned v' ∧ MineI w' w.heap.size v' (aboveV L) ∧ Below w.heap.size w w' := by
  have HV := Lib.hid hv
  have HL := Lib.hid hL
  have hid := hv.ids
  obtain ⟨s, c, rfl⟩ := hv.slice
  have hat := hv.at_
  obtain ⟨n, hnl⟩ : ∃ n, n = L.length := ⟨_, rfl⟩
  have HAT : Hid (0 < n → ∃ b o, s = some ⟨b, o, none⟩ ∧ b < w.heap.size ∧ ∀ k, k < n → w.rangeAt b (o + k * 32) (idA (nthI L k)).toList) := fun h => by
    obtain ⟨b, o, e, hb, _, hr⟩ := hat (fun h0 => by rw [h0] at hnl; simp at hnl; omega)
    exact ⟨b, o, e, hb, fun k hk => hr k _ (nthI_get (by omega))⟩
  have HNL := Lib.hid hnl
  have HID := Lib.hid (fun k (h : k < n) => nthI_id hid (i := k) (by omega))
  rw [← hnl] at hn ⊢
  clear hat hv hL hid hnl
  obtain ⟨m, hm⟩ : ∃ m, m = (n + 1) / 2 := ⟨_, rfl⟩
  have hm0 : ((n : Int) / 2 + (n : Int) % 2) = (m : Int) := by omega
  have hmk : (Instr.makeSlice 60 (.int .i64 0) (.int .i64 (m : Int))).run Tryd.prog w = .ok (.slice (some ⟨w.heap.size, 0, none⟩) 0 m) (w.alloc (.cells (idA (zeros (m * 32))) 23)) := run_makeI w m (by omega)
  have HM := Lib.hid hm
  have hml : m ≤ 100000 := by omega
  clear hm
  go_enter Tryd.func22, Tryd.ntmps22
  go_wp2_with (refine wpList_mkI (v1 := .int .i64 0) (v2 := .int .i64 (m : Int)) (v := .slice (some ⟨w.heap.size, 0, none⟩) 0 m) 60 rfl (.const (.int .i64 0)) (.tmp 11) rfl rfl rfl hmk ?_)
  clear hmk hm0
  go_loopw [3, 4] (fun out i wr => ∃ j : Nat, j ≤ m ∧ i = .int .i64 ((2 * j : Nat) : Int) ∧ Hid (Below w.heap.size w wr) ∧ Hid (MineI wr w.heap.size out (aboveP L j))) (fun _ i _ => (2 * m - (intOf i).toNat))
  case atStart => exact ⟨0, Nat.zero_le _, rfl, (Below.refl _ _).alloc (Nat.le_refl _) _, .inr ⟨w.heap.size, m, m, rfl, by simp [aboveP], by omega, Nat.le_refl _, Bk.new _ _ _⟩⟩
  case round =>
    obtain ⟨j, hj, rfl, hWr, Mr⟩ := hrel
    by_cases hlt : 2 * j < n
    · have hd : decide (((2 * j : Nat) : Int) < (n : Int)) = true := decide_eq_true (by omega)
      obtain ⟨b, o, rfl, hbl, hrange⟩ := HAT.out (by omega)
      obtain ⟨s5, c5, e5⟩ := Mr.out.slice
      rw [aboveP_length] at e5
      subst e5
      obtain ⟨i, hi⟩ : ∃ i, i = 2 * j := ⟨_, rfl⟩
      rw [← hi] at hlt hd ⊢
      obtain ⟨p, hp⟩ : ∃ p, p = besideN i n := ⟨_, rfl⟩
      have hpn : p < n := by rw [hp]; exact besideN_lt i n hlt
      have HB := Lib.hid (fun W => beside_any i n W hlt (by omega))
      rw [← hp] at HB
      have hxi := HID.out i hlt
      have hyi := HID.out p hpn
      have hrx := idr_below (hrange i hlt) hWr.out hbl
      have hry := idr_below (hrange p hpn) hWr.out hbl
      have hPV := aboveP_succ L j
      rw [← HNL.out, ← hi, ← hp] at hPV
      have HP := Lib.hid (fun W (h : Laid W) => pair_any _ _ W h hxi hyi)
      have HXL := Lib.hid hxi.1
      have HYL := Lib.hid hyi.1
      have hqi := H2_id (nthI L i) (nthI L p)
      generalize nthI L i = x at *
      generalize nthI L p = y at *
      generalize H2 x y = q at *
      have HLW := Lib.hid (HL.out.below hWr.out HL.out.size)
      have hAI := fun u W (h : MineI W w.heap.size (.slice s5 j c5) (aboveP L j)) (hs : w.heap.size ≤ W.heap.size) (hu : IdsV W W.heap.size u [q]) => appI (aboveP L j) [q] _ u w.heap.size W h (aboveP_ids L j) hs hu (by rw [aboveP_length]; simp; omega)
      rw [← hPV] at hAI
      have HAI := Lib.hid hAI
      have HJ := Lib.hid hi
      have HQ := Lib.hid hqi
      have hn2 : i + 2 < 9223372036854775807 := by omega
      clear hAI hPV hp hxi hyi HID hrange hi hqi
      go_upto_region 5 with fail
      have hx0 : wr.drew.rangeAt b (o + i * 32) (idA x).toList := by simpa using hrx
      have hy0 : wr.drew.rangeAt b (o + p * 32) (idA y).toList := by simpa using hry
      obtain ⟨tl, htl⟩ : ∃ tl : TypeId, tl = 23 := ⟨_, rfl⟩
      obtain ⟨sz, hsz0⟩ : ∃ sz : Nat, sz = 32 := ⟨_, rfl⟩
      have hag : ∀ w, (isAgg tl).run Tryd.prog w = .ok true w := by rw [htl]; exact id_agg
      have hsz : ∀ w, (sizeOf tl).run Tryd.prog w = .ok sz w := by rw [htl, hsz0]; exact id_size
      have hlx : (loadCellsFrom ⟨b, o + i * 32, none⟩ 0 sz #[]).run Tryd.prog wr.drew = .ok (idA x) wr.drew := by rw [hsz0]; exact id_load _ _ _ _ HXL.out hx0
      have hly : (loadCellsFrom ⟨b, o + p * 32, none⟩ 0 sz #[]).run Tryd.prog wr.drew = .ok (idA y) wr.drew := by rw [hsz0]; exact id_load _ _ _ _ HYL.out hy0
      simp only [show ∀ z, Op.load 23 z = Op.load tl z from fun z => by rw [htl]]
      clear htl hsz0 hx0 hy0 hrx hry
      have HLD := Lib.hid (HLW.out.below ((Below.refl _ _).drew) HLW.out.size)
      have hb0 := Lib.hid hWr.out.drew
      have M0 : Hid (MineI wr.drew w.heap.size (.slice s5 j c5) (aboveP L j)) := Mr.out.keep ((Below.refl _ _).drew)
      have hq32 : (idA q).size = 32 := by rw [idA_size]; exact HQ.out.1
      have hfold := id_fold q HQ.out.1
      go_region_law (first
        | (go_simp; go_at_call 38; refine (HB.out _).mono ?_; rintro e w5 ⟨rfl, h5⟩; subst h5)
        | (go_simp; go_at_call 37; refine (HP.out _ HLD.out).mono ?_; rintro e w6 ⟨rfl, hb6⟩; have M6 := M0.out.keep hb6; have hE6 := hb0.out.trans (hb6.mono hb0.out.size); have hA6 : Below w6.heap.size w6 (w6.alloc (.cells (idA q) 23)) := (Below.refl _ _).alloc (Nat.le_refl _) _; obtain ⟨v7, W7, hrun, M7, hb7⟩ := HAI.out (.slice (some ⟨w6.heap.size, 0, none⟩) 1 1) _ (M6.keep hA6) (Nat.le_trans hE6.size hA6.size) (one_row (Bk.new _ _ _) HQ.out); have hb8 := Lib.hid ((hE6.alloc hE6.size _).trans hb7); obtain ⟨s7, c7, eq7⟩ := M7.slice; subst eq7; have M7 := Lib.hid M7; rw [aboveP_length] at hrun M7; clear hb7 M6 hE6 hA6 hb6)
        | (refine step_appI (v1 := .slice s5 j c5) (v2 := .slice (some ⟨w6.heap.size, 0, none⟩) 1 1) (v := .slice s7 (j + 1) c7) rfl (.tmp 19) (.tmp 32) rfl rfl rfl rfl hrun ?_))
      all_goals
       clear hrun hlx hly hag hsz hfold hq32
       go_wp2_with fail
       go_roundw
       case rel =>
        have hi2 : Value.int .i64 ((i : Int) + 2) = .int .i64 ((2 * (j + 1) : Nat) : Int) := congrArg (Value.int .i64) (by have := HJ.out; omega)
        have hjm : j + 1 ≤ m := by have := HM.out; have := HJ.out; omega
        first | exact ⟨j + 1, hjm, hi2, hb8, M7⟩ | ((repeat apply Exists.intro); exact ⟨⟨j + 1, hjm, hi2, hb8, M7⟩, rfl⟩)
       case measure => have hJ := HJ.out; have hM := HM.out; simp [intOf]; omega
    · have hd : decide (((2 * j : Nat) : Int) < (n : Int)) = false := decide_eq_false (by omega)
      have hjm : j = m := by have := HM.out; omega
      obtain ⟨s5, c5, e5⟩ := Mr.out.slice
      subst e5
      have hd' : decide (2 * j < n) = false := decide_eq_false hlt
      go_wp2_with fail
      go_ret
      refine ⟨_, rfl, ?_, hWr.out⟩
      have e : aboveV L = aboveP L j := by unfold aboveV; rw [← HNL.out, ← HM.out, hjm]
      rw [e]
      exact Mr.out
end Go.Proofs.YtmjiadfdmchhaaaDoor
set_option maxRecDepth 100000
namespace Go.Proofs.YtmjiadfdmchhaaaDoor
open Go.RowKit
set_option linter.unusedVariables false

theorem id_eql (x y : List Nat) (hx : x.length = 32) (hy : y.length = 32) (w : World) : (Op.equalIn 10000 23 (idv x) (idv y)).run Tryd.prog w = .ok (decide (x = y)) w := by
  have h := run_equalIn_arr (P := Tryd.prog) w 9998 23 5 32 .u8 (idA x) (idA y) (fun i => ((x.getD i 0 : Nat) : Int)) (fun i => ((y.getD i 0 : Nat) : Int)) (by kernel_rfl) (by kernel_rfl) (by kernel_rfl)
    (fun i hi => ⟨idA_get x i (by omega), idA_get y i (by omega)⟩)
  rw [h]
  congr 1
  by_cases e : x = y
  · subst e
    simp
  · rw [decide_eq_false e, Bool.eq_false_iff]
    intro hq
    apply e
    apply List.ext_getElem (by omega)
    intro i h1 h2
    rw [List.all_eq_true] at hq
    have h3 := hq i (by simp; omega)
    have h4 : ((x.getD i 0 : Nat) : Int) = ((y.getD i 0 : Nat) : Int) := by simpa using h3
    have h5 : x.getD i 0 = y.getD i 0 := by omega
    rw [List.getD, List.getD, List.getElem?_eq_getElem h1, List.getElem?_eq_getElem h2] at h5
    exact h5
/-- Are two of a pair the same? -/
def doubV (L : List (List Nat)) : Bool := (List.range (L.length / 2)).any fun t => decide (nthI L (2 * t) = nthI L (2 * t + 1))
theorem doubV_true (L : List (List Nat)) (j : Nat) (h : 2 * j + 1 < L.length) (e : nthI L (2 * j) = nthI L (2 * j + 1)) : doubV L = true := by
  unfold doubV
  rw [List.any_eq_true]
  exact ⟨j, by simp; omega, decide_eq_true e⟩
theorem doubV_false (L : List (List Nat)) (h : ∀ t, t < L.length / 2 → nthI L (2 * t) ≠ nthI L (2 * t + 1)) : doubV L = false := by
  unfold doubV
  rw [List.any_eq_false]
  intro t ht
  rw [decide_eq_true_iff]
  exact h t (by simpa using ht)
set_option maxRecDepth 100000 in
set_option maxHeartbeats 2000000 in
theorem doubled_any (v : Value) (L : List (List Nat)) (w : World) (hv : IdsV w w.heap.size v L) (hn : L.length ≤ 100000) :
    Calls Tryd.prog 21 #[v] w fun e w' => e = .returned (.bool (doubV L)) ∧ Below w.heap.size w w' := by
  have hid := hv.ids
  obtain ⟨s, c, rfl⟩ := hv.slice
  have hat := hv.at_
  have HT := Lib.hid (doubV_true L)
  have HF := Lib.hid (doubV_false L)
  generalize doubV L = D at *
  obtain ⟨n, hnl⟩ : ∃ n, n = L.length := ⟨_, rfl⟩
  have HAT : Hid (0 < n → ∃ b o, s = some ⟨b, o, none⟩ ∧ b < w.heap.size ∧ ∀ k, k < n → w.rangeAt b (o + k * 32) (idA (nthI L k)).toList) := fun h => by
    obtain ⟨b, o, e, hb, _, hr⟩ := hat (fun h0 => by rw [h0] at hnl; simp at hnl; omega)
    exact ⟨b, o, e, hb, fun k hk => hr k _ (nthI_get (by omega))⟩
  have HID := Lib.hid (fun k (h : k < n) => nthI_id hid (i := k) (by omega))
  rw [← hnl] at hn HT HF ⊢
  clear hat hv hid hnl
  go_enter Tryd.func21, Tryd.ntmps21
  go_wp2_with fail
  go_loopw [3] (fun i wr => ∃ j : Nat, 2 * j ≤ n ∧ i = .int .i64 ((2 * j + 1 : Nat) : Int) ∧ Hid (Below w.heap.size w wr) ∧ Hid (∀ t, t < j → nthI L (2 * t) ≠ nthI L (2 * t + 1))) (fun i _ => (n + 1 - (intOf i).toNat))
  case atStart => exact ⟨0, Nat.zero_le _, rfl, Below.refl _ _, fun t ht => by omega⟩
  case round =>
    obtain ⟨j, hj, rfl, hWr, hne⟩ := hrel
    obtain ⟨i, hi⟩ : ∃ i, i = 2 * j + 1 := ⟨_, rfl⟩
    rw [← hi]
    by_cases hlt : i < n
    · have hd : decide ((i : Int) < (n : Int)) = true := decide_eq_true (by omega)
      obtain ⟨b, o, rfl, hbl, hrange⟩ := HAT.out (by omega)
      have hrx := idr_below (hrange (i - 1) (by omega)) hWr.out hbl
      have hry := idr_below (hrange i hlt) hWr.out hbl
      have HXL := Lib.hid (HID.out (i - 1) (by omega)).1
      have HYL := Lib.hid (HID.out i hlt).1
      have HEQ := Lib.hid (fun W => id_eql _ _ HXL.out HYL.out W)
      obtain ⟨k, hk⟩ : ∃ k, k = i - 1 := ⟨_, rfl⟩
      rw [← hk] at hrx HXL HEQ
      have hik : ((i : Int) - 1) = (k : Int) := by omega
      have hkn : (k : Int) < (n : Int) := by omega
      have hwk : IntKind.i64.wrap (k : Int) = (k : Int) := IntWalk.i64_in _ (by omega)
      have hii : (i : Int) < (n : Int) := by omega
      have HK2 : Hid (k = 2 * j) := by show _ = _; omega
      have HI2 := Lib.hid hi
      have hn2 : i + 2 < 9223372036854775807 := by omega
      have HTJ : Hid (nthI L k = nthI L i → D = true) := fun e => HT.out j (by omega) (by rw [← hi, ← HK2.out]; exact e)
      have HNX : Hid (nthI L k ≠ nthI L i → ∀ t, t < j + 1 → nthI L (2 * t) ≠ nthI L (2 * t + 1)) := fun e t ht => by
        by_cases h : t = j
        · rw [h, ← hi, ← HK2.out]; exact e
        · exact hne.out t (by omega)
      generalize nthI L k = x at *
      generalize nthI L i = y at *
      clear hrange hk hi hne
      go_upto_region 4 with fail
      refine wp_region_still_tail 9 (by kernel_rfl) (by kernel_rfl) ?_
      simp only [List.take_succ_cons, List.take_zero, List.drop_succ_cons, List.drop_zero]
      still_step
      still_step
      still_step
      still_step
      refine still_load_id rfl (.tmp 13) rfl b (o + k * 32) rfl x HXL.out hrx ?_
      still_step
      still_step
      still_step
      refine still_load_id rfl (.tmp 17) rfl b (o + i * 32) rfl y HYL.out hry ?_
      refine wpStill_nil ?_
      change wpList _ _ _ _ _ wr.drew
      have hb0 := Lib.hid hWr.out.drew
      clear hrx hry
      generalize wr.drew = w4 at *
      by_cases hxy : x = y
      · have hD := HTJ.out hxy
        subst hD
        have heq : ∀ W, (Op.equalIn 10000 23 (.agg (idA x)) (.agg (idA y))).run Tryd.prog W = .ok true W := fun W => by
          have h := HEQ.out W
          rw [decide_eq_true hxy] at h
          exact h
        clear hxy
        go_wp2_with fail
        go_ret
        exact ⟨rfl, hb0.out⟩
      · have heq : ∀ W, (Op.equalIn 10000 23 (.agg (idA x)) (.agg (idA y))).run Tryd.prog W = .ok false W := fun W => by
          have h := HEQ.out W
          rw [decide_eq_false hxy] at h
          exact h
        have hnx := Lib.hid (HNX.out hxy)
        clear hxy
        go_wp2_with fail
        go_roundw
        case rel =>
          have hi2 : Value.int .i64 ((i : Int) + 2) = .int .i64 ((2 * (j + 1) + 1 : Nat) : Int) := congrArg (Value.int .i64) (by have := HI2.out; omega)
          have hjm : 2 * (j + 1) ≤ n := by have := HI2.out; omega
          first | exact ⟨j + 1, hjm, hi2, hb0, hnx⟩ | ((repeat apply Exists.intro); exact ⟨⟨j + 1, hjm, hi2, hb0, hnx⟩, rfl⟩)
        case measure => simp [intOf] <;> omega
    · have hd : decide ((i : Int) < (n : Int)) = false := decide_eq_false (by omega)
      have hd' : decide (i < n) = false := decide_eq_false hlt
      have hD := HF.out (fun t ht => hne.out t (by omega))
      subst hD
      clear hi
      go_wp2_with fail
      go_ret
      exact ⟨rfl, hWr.out⟩
end Go.Proofs.YtmjiadfdmchhaaaDoor
namespace Go.Proofs.YtmjiadfdmchhaaaDoor
open Go.RowKit
set_option linter.unusedVariables false

/-- The sum of many, and whether two that are a pair are the same. -/
def rootW (L : List (List Nat)) (s : Bool) : List Nat × Bool :=
  if h : 1 < L.length then rootW (aboveV L) (s || doubV L) else (nthI L 0, s)
termination_by L.length
decreasing_by rw [aboveV_length]; omega
def rootV (L : List (List Nat)) : List Nat × Bool := if L.length = 0 then (zeros 32, false) else rootW L false
theorem rootW_one (L : List (List Nat)) (s : Bool) (h : ¬ 1 < L.length) : rootW L s = (nthI L 0, s) := by rw [rootW, dif_neg h]
theorem rootW_more (L : List (List Nat)) (s : Bool) (h : 1 < L.length) : rootW L s = rootW (aboveV L) (s || doubV L) := by rw [rootW, dif_pos h]
theorem aboveV_ids (L : List (List Nat)) : IsIds (aboveV L) := aboveP_ids _ _
theorem rootW_id (L : List (List Nat)) (s : Bool) (hL : IsIds L) (h : 0 < L.length) : IsId (rootW L s).1 := by
  rw [rootW]
  split
  · exact rootW_id _ _ (aboveV_ids L) (by rw [aboveV_length]; omega)
  · exact nthI_id hL h
termination_by L.length
decreasing_by rw [aboveV_length]; omega
theorem zeros_id : IsId (zeros 32) := ⟨rfl, fun b hb => by rw [List.eq_of_mem_replicate hb]; omega⟩
theorem rootV_id (L : List (List Nat)) (hL : IsIds L) : IsId (rootV L).1 := by
  unfold rootV
  split
  · exact zeros_id
  · exact rootW_id L false hL (by omega)
/-- How long a slice is. -/
def lenS : Value → Nat
  | .slice _ n _ => n
  | _ => 0
/-- A function that hands back a name out of its own block, and a word. -/
theorem id_ret2 {P : Func} {a : Act} {w W : World} {g nm k : Nat} {r : List Nat} {v : Value} (hr : r.length = 32) (hp : P.results = #[ResultVar.cell nm 23, ResultVar.tmp k]) (hd : a.defers = []) (hv : a.tmps.getD nm undef = .pointer (some ⟨g, 0, none⟩)) (hk : a.tmps.getD k undef = v)
    (hR : Bk W g 23 (idA r)) (hB : Below w.heap.size w W) : bodyPost Tryd.prog P (fun e w' => e = .returned (.tuple #[idv r, v]) ∧ Below w.heap.size w w') Exit.ret a W := by
  have h1 := run_loadVar_row (P := Tryd.prog) W g 23 23 (idA r) (0, 0) _ hR Tryd.underlying23 rfl (by rw [idA_size, hr]; exact id_info')
  refine bodyPost_ret (v := .tuple #[idv r, v]) ?_ hd ⟨rfl, hB⟩
  rw [results_cell_tmp hp, hv, hk]
  show ((asAddr (.pointer (some ⟨g, 0, none⟩))).run Tryd.prog W).andThen _ = _
  simp only [asAddr, Sem.run_pure, Result.andThen_ok, h1]
set_option maxRecDepth 100000 in
set_option maxHeartbeats 2000000 in
theorem root_any (v : Value) (L : List (List Nat)) (w : World) (hL : Laid w) (hv : IdsV w w.heap.size v L) (hn : L.length ≤ 100000) :
    Calls Tryd.prog 7 #[v] w fun e w' => e = .returned (.tuple #[idv (rootV L).1, .bool (rootV L).2]) ∧ Below w.heap.size w w' := by
  have HV := Lib.hid hv
  have HL := Lib.hid hL
  have HID := Lib.hid hv.ids
  obtain ⟨s, c, rfl⟩ := hv.slice
  clear hv hL
  by_cases h0 : L.length = 0
  · have e : rootV L = (zeros 32, false) := by unfold rootV; rw [if_pos h0]
    rw [e, h0]
    clear HV e
    go_enter Tryd.func7, Tryd.ntmps7
    have R := Bk.new w 23 (idA (zeros 32))
    go_wp2_with (refine wpList_store_mid rfl 23 (.tmp 2) (.tmp 8) rfl w.heap.size 0 (idA (zeros 32)) rfl rfl (R.there 32 (by rw [idA_size]; decide)) id_info' (id_ones _) ?_)
    exact id_ret2 (g := w.heap.size) rfl rfl rfl rfl rfl (R.setAll rfl) (Below.setCells (Nat.le_refl _) _ _ _ ((Below.refl _ _).alloc (Nat.le_refl _) _))
  · have e : rootV L = rootW L false := by unfold rootV; rw [if_neg h0]
    rw [e]
    have HRL := Lib.hid (rootW_id L false HID.out (by omega)).1
    have hd0 : decide ((L.length : Int) = 0) = false := decide_eq_false (by omega)
    have hd0' : decide (L.length = 0) = false := decide_eq_false h0
    obtain ⟨n, hnl⟩ : ∃ n, n = L.length := ⟨_, rfl⟩
    rw [← hnl] at hn h0 hd0 hd0' ⊢
    have HW : Hid (rootW L false = rootW L false) := rfl
    have HS : Hid (∀ M s, rootW L false = rootW M s → ¬ 1 < M.length → rootW L false = (nthI M 0, s)) := fun M s h1 h2 => by rw [h1, rootW_one M s h2]
    have HN : Hid (∀ M s, rootW L false = rootW M s → 1 < M.length → rootW L false = rootW (aboveV M) (s || doubV M)) := fun M s h1 h2 => by rw [h1, rootW_more M s h2]
    obtain ⟨R0, hR0⟩ : ∃ R0, R0 = rootW L false := ⟨_, rfl⟩
    rw [← hR0] at HS HN HRL ⊢
    have HR0 := Lib.hid hR0
    have HNL := Lib.hid hnl
    have hbe : ((n : Int) == 0) = false := by simp; omega
    clear e hR0 HW hnl
    go_enter Tryd.func7, Tryd.ntmps7
    go_upto_region 3 with fail
    refine wp_any (fun W => Below w.heap.size w W ∧ Bk W w.heap.size 23 (idA (zeros 32))) ⟨(Below.refl _ _).alloc (Nat.le_refl _) _, Bk.new _ _ _⟩ ?_
    generalize hg : w.heap.size = g at *
    rintro W ⟨hW, R⟩
    have HV : Hid (IdsV W W.heap.size (.slice s n c) L) := by rw [HNL.out]; exact (HV.out.keep hW (Nat.le_refl _)).mono (by rw [← hg]; exact hW.size)
    go_wp2_with fail
    go_loopw [0, 4] (fun ids sm wr => ∃ (M : List (List Nat)) (t : Bool), sm = .bool t ∧ Hid (M.length ≤ 100000) ∧ Hid (0 < M.length) ∧ Hid (R0 = rootW M t) ∧ Hid (IdsV wr wr.heap.size ids M) ∧ Hid (Below g w wr) ∧ Bk wr g 23 (idA (zeros 32))) (fun ids _ _ => lenS ids)
    case atStart => exact ⟨L, false, rfl, by rw [← HNL.out]; exact hn, by rw [← HNL.out]; show _ < _; omega, HR0.out, HV.out, hW, R⟩
    case round =>
      obtain ⟨M, t, rfl, HML, HM0, HMR, HMV, hWr, R⟩ := hrel
      clear hW HV
      obtain ⟨s5, c5, e5⟩ := HMV.out.slice
      subst e5
      have HLr := Lib.hid (HL.out.below hWr.out (by rw [← hg]; exact HL.out.size))
      by_cases h1 : 1 < M.length
      · have hd : decide ((1 : Int) < (M.length : Int)) = true := decide_eq_true (by omega)
        have hnx := Lib.hid (HN.out M t HMR.out h1)
        have HAL : Hid ((aboveV M).length ≤ 100000 ∧ 0 < (aboveV M).length ∧ (aboveV M).length < M.length) := by
          have := HML.out
          show _ ∧ _ ∧ _
          rw [aboveV_length]
          omega
        have HDB := Lib.hid (doubled_any _ M wr HMV.out HML.out)
        have HAB : Hid (∀ W, Below wr.heap.size wr W → Calls Tryd.prog 22 #[.slice s5 M.length c5] W fun e w' => ∃ v', e = .returned v' ∧ MineI w' W.heap.size v' (aboveV M) ∧ Below W.heap.size W w') := fun W hW => above_any _ M W (HLr.out.keep hW) ((HMV.out.keep hW (Nat.le_refl _)).mono hW.size) HML.out
        have hAI := aboveV_ids M
        generalize doubV M = D at *
        generalize aboveV M = A at *
        have HAI := Lib.hid hAI
        generalize hml : M.length = ml at *
        clear hAI h1
        cases t
        · go_wp2_with fail
          refine HDB.out.mono ?_
          rintro e w5 ⟨rfl, hb5⟩
          have HAB := Lib.hid (HAB.out w5 hb5)
          have R := R.keep hb5
          have hW5 := Lib.hid (hWr.out.trans (hb5.mono (by have := R.lt; have := hWr.out.size; omega)))
          clear hb5 HDB
          go_wp2_with fail
          refine HAB.out.mono ?_
          rintro e w6 ⟨v6, rfl, M6, hb6⟩
          have R := R.keep hb6
          have hW6 := Lib.hid (hW5.out.trans (hb6.mono (by have := R.lt; have := hW5.out.size; omega)))
          have M6 := Lib.hid (M6.ids HAI.out)
          clear hb6 HAB
          obtain ⟨s7, c7, e7⟩ := M6.out.slice
          subst e7
          go_wp2_with fail
          go_roundw
          case rel =>
            have hnx : Hid (R0 = rootW A D) := by have h := hnx.out; rw [Bool.false_or] at h; exact h
            first | exact ⟨A, D, rfl, HAL.out.1, HAL.out.2.1, hnx, M6, hW6, R⟩ | ((repeat apply Exists.intro); exact ⟨⟨A, D, rfl, HAL.out.1, HAL.out.2.1, hnx, M6, hW6, R⟩, rfl⟩)
          case measure => have h := HAL.out.2.2; simp [lenS]; omega
        · go_wp2_with fail
          refine (HAB.out _ (Below.refl _ _)).mono ?_
          rintro e w6 ⟨v6, rfl, M6, hb6⟩
          have R := R.keep hb6
          have hW6 := Lib.hid (hWr.out.trans (hb6.mono (by have := R.lt; have := hWr.out.size; omega)))
          have M6 := Lib.hid (M6.ids HAI.out)
          clear hb6 HAB
          obtain ⟨s7, c7, e7⟩ := M6.out.slice
          subst e7
          go_wp2_with fail
          go_roundw
          case rel =>
            have hnx : Hid (R0 = rootW A true) := by have h := hnx.out; rw [Bool.true_or] at h; exact h
            first | exact ⟨A, true, rfl, HAL.out.1, HAL.out.2.1, hnx, M6, hW6, R⟩ | ((repeat apply Exists.intro); exact ⟨⟨A, true, rfl, HAL.out.1, HAL.out.2.1, hnx, M6, hW6, R⟩, rfl⟩)
          case measure => have h := HAL.out.2.2; simp [lenS]; omega
      · have hd : decide ((1 : Int) < (M.length : Int)) = false := decide_eq_false (by omega)
        have hd' : decide (1 < M.length) = false := decide_eq_false h1
        have hend := HS.out M t HMR.out h1
        have hat := HMV.out.at_ (fun h => by have := HM0.out; rw [h] at this; simp at this)
        obtain ⟨b, o, rfl, hbl, _, hr⟩ := hat
        have hr0 := hr 0 _ (nthI_get HM0.out)
        rw [Nat.zero_mul, Nat.add_zero] at hr0
        have e1 : R0.1 = nthI M 0 := by rw [hend]
        have e2 : R0.2 = t := by rw [hend]
        have hq : (nthI M 0).length = 32 := by rw [← e1]; exact HRL.out
        obtain ⟨q, hqe⟩ : ∃ q, q = nthI M 0 := ⟨_, rfl⟩
        rw [← hqe] at e1 hq hr0
        have E1 := Lib.hid e1
        have E2 := Lib.hid e2
        clear hend e1 e2 hqe
        have HML1 : Hid (M.length = 1) := by have := HM0.out; show _ = _; omega
        rw [HML1.out]
        clear hr
        go_wp2_with (first | (refine wpList_load_mid rfl 23 (.tmp 20) rfl b o rfl (idA q).toList _ hr0 Tryd.underlying23 rfl (by rw [Array.length_toList, idA_size, hq]; exact id_info') ?_) | (refine wpList_store_mid rfl 23 (.tmp 2) (.tmp 21) rfl g 0 (idA q) rfl rfl (by rw [idA_size, hq]; exact R.there 32 (by rw [idA_size]; decide)) (by rw [idA_size, hq]; exact id_info') (id_ones q) ?_))
        rw [← hg] at R hWr ⊢
        rw [E1.out, E2.out]
        exact id_ret2 (g := w.heap.size) hq rfl rfl rfl rfl (R.setAll (by rw [idA_size, idA_size, hq]; rfl)) (Below.setCells (Nat.le_refl _) _ _ _ hWr.out)
end Go.Proofs.YtmjiadfdmchhaaaDoor
