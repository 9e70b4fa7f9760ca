/-
  Words for bytes in memory: slices of bytes that came in, or that the call made itself; bytes appended.
-/
import Derived.Test.YtcedljfdnbenoaaRows
import Derived.Test.YtcedljfdnbenoaaIdM
import Derived.Test.YtcedljfdnbenoaaOvr
import Derived.Deep.Upon
import Derived.Laws.AppendOwn
import Derived.Deep.DeepAppendWide
import Derived.Lib.Hide
namespace Go.Proofs.Ytcedljfdnbenoaa
open Go.RowKit
set_option linter.unusedVariables false

def nth (l : List Nat) (i : Nat) : Nat := l.getD i 0
def zeros (n : Nat) : List Nat := List.replicate n 0
theorem zeros_length (n : Nat) : (zeros n).length = n := List.length_replicate
theorem zeros_lt (n : Nat) : ∀ x ∈ zeros n, x < 256 := by
  intro x hx
  have := List.eq_of_mem_replicate hx
  omega
/-- A slice whose bytes are these, in a block below B. -/
def BsV (w : World) (B : Nat) (v : Value) (xs : List Nat) : Prop := ∃ s cap, v = .slice s xs.length cap ∧ xs.length ≤ cap ∧ cap < 9223372036854775808 ∧ (∀ x ∈ xs, x < 256) ∧
  (xs ≠ [] → ∃ b o, s = some ⟨b, o, none⟩ ∧ b < B ∧ ∀ i, i < xs.length → w.cell? ⟨b, o + i, none⟩ = some (.int .u8 ((nth xs i : Nat) : Int)))
theorem BsV.keep {w w' : World} {B : Nat} {v : Value} {xs : List Nat} (h : BsV w B v xs) {C : Nat} (hb : Below C w w') (hC : B ≤ C) : BsV w' B v xs := by
  obtain ⟨s, cap, rfl, h1, h2, h3, h4⟩ := h
  refine ⟨s, cap, rfl, h1, h2, h3, fun hne => ?_⟩
  obtain ⟨b, o, e, hb', hc⟩ := h4 hne
  exact ⟨b, o, e, hb', fun i hi => (hb.cell (p := ⟨b, o + i, none⟩) (by show b < C; omega)).trans (hc i hi)⟩
theorem BsV.mono {w : World} {B C : Nat} {v : Value} {xs : List Nat} (h : BsV w B v xs) (hC : B ≤ C) : BsV w C v xs := by
  obtain ⟨s, cap, rfl, h1, h2, h3, h4⟩ := h
  refine ⟨s, cap, rfl, h1, h2, h3, fun hne => ?_⟩
  obtain ⟨b, o, e, hb', hc⟩ := h4 hne
  exact ⟨b, o, e, by omega, hc⟩
/-- Parts that lie one behind the other. -/
def Parts (w : World) (B pb po : Nat) (ps : List (List Nat)) : Prop := ∀ k xs, ps[k]? = some xs → ∃ v, w.cell? ⟨pb, po + k, none⟩ = some v ∧ BsV w B v xs

/-- Parts as an argument: none, or a row of slices. -/
def PartsV (w : World) (sp : Option Addr) (ps : List (List Nat)) : Prop := ps ≠ [] → ∃ pb po, sp = some ⟨pb, po, none⟩ ∧ pb < w.heap.size ∧ Parts w w.heap.size pb po ps
theorem PartsV.keep {w w' : World} {sp : Option Addr} {ps : List (List Nat)} (h : PartsV w sp ps) (hb : Below w.heap.size w w') : PartsV w' sp ps := by
  intro hne
  obtain ⟨pb, po, e, h1, h2⟩ := h hne
  refine ⟨pb, po, e, Nat.lt_of_lt_of_le h1 hb.size, fun k xs hk => ?_⟩
  obtain ⟨v, h3, h4⟩ := h2 k xs hk
  exact ⟨v, (hb.cell (p := ⟨pb, po + k, none⟩) h1).trans h3, (h4.keep hb (Nat.le_refl _)).mono hb.size⟩
/-- One part, of an array that is known whole. -/
theorem parts_one {w : World} {g h : Nat} {xs : List Nat} {t u : TypeId} {cap : Nat} {v : Value} (hv : v = .slice (some ⟨g, 0, none⟩) xs.length cap) (hg : Bk w g t (idA xs)) (hx : ∀ x ∈ xs, x < 256) (hc : xs.length ≤ cap) (hc2 : cap < 9223372036854775808) (hh : Bk w h u #[v]) : PartsV w (some ⟨h, 0, none⟩) [xs] := by
  intro _
  refine ⟨h, 0, rfl, hh.lt, fun k ys hk => ?_⟩
  match k with
  | 0 =>
    obtain rfl : xs = ys := by simpa using hk
    exact ⟨v, hh.cell 0, some ⟨g, 0, none⟩, cap, hv, hc, hc2, hx, fun _ => ⟨g, 0, rfl, hg.lt, fun i hi => by
      rw [Nat.zero_add, hg.cell]; exact idA_get xs i hi⟩⟩
  | k + 1 => simp at hk
/-- One part, wherever its bytes lie. -/
theorem parts_bs {w : World} {h B : Nat} {xs : List Nat} {u : TypeId} {v : Value} (hv : BsV w B v xs) (hB : B ≤ w.heap.size) (hh : Bk w h u #[v]) : PartsV w (some ⟨h, 0, none⟩) [xs] := by
  intro _
  refine ⟨h, 0, rfl, hh.lt, fun k ys hk => ?_⟩
  match k with
  | 0 =>
    obtain rfl : xs = ys := by simpa using hk
    exact ⟨v, hh.cell 0, hv.mono hB⟩
  | k + 1 => simp at hk
/-- A slice at the head of a row that is known whole. -/
theorem bs_row {w : World} {g n cap : Nat} {t : TypeId} {ys : List Nat} (hg : Bk w g t (idA ys)) (hn : n ≤ ys.length) (hc : n ≤ cap) (hc2 : cap < 9223372036854775808) (hx : ∀ y ∈ ys, y < 256) : BsV w w.heap.size (.slice (some ⟨g, 0, none⟩) n cap) (ys.take n) := by
  have hl : (ys.take n).length = n := by rw [List.length_take]; omega
  refine ⟨some ⟨g, 0, none⟩, cap, by rw [hl], by omega, hc2, fun x hxm => hx x (List.mem_of_mem_take hxm), fun hne => ⟨g, 0, rfl, hg.lt, fun i hi => ?_⟩⟩
  rw [hl] at hi
  rw [Nat.zero_add, hg.cell, idA_get ys i (by omega)]
  unfold nth
  rw [List.getD, List.getD, List.getElem?_take_of_lt hi]
theorem byte_facts : (Try.prog.info? 5).map (fun i => (i.zero, i.size, i.bytes)) = some (some (.int .u8 0), 1, 1) := by kernel_rfl
theorem byte_info : ∃ i, Try.prog.info? 5 = some i ∧ i.zero = some (.int .u8 0) ∧ i.size = 1 ∧ i.bytes = 1 := by
  have h := byte_facts
  revert h
  cases Try.prog.info? 5 with
  | none => intro h; cases h
  | some i =>
    intro h
    have h' : (i.zero, i.size, i.bytes) = (some (Value.int .u8 0), 1, 1) := Option.some.inj h
    simp only [Prod.mk.injEq] at h'
    exact ⟨i, rfl, h'.1, h'.2.1, h'.2.2⟩
theorem zero_bytes (k : Nat) : Builtin.zeroCells (Value.int .u8 0).cells k = idA (zeros k) := by
  have hc : (Value.int .u8 0).cells = #[.int .u8 0] := rfl
  rw [hc]
  unfold Builtin.zeroCells idA zeros byteV
  apply Array.ext
  · simp
  · intro i h1 h2
    simp [Nat.mod_one]
/-- The bytes, onto an empty slice. -/
theorem app (xs : List Nat) (n : Nat) (hn : n = xs.length) (s : Option Addr) (cap g : Nat) (w : World) (hb : BsV w w.heap.size (.slice s n cap) xs) (hlt : xs.length ≤ 1048576) (hg : Bk w g 5 #[]) :
    ∃ T c z W, (Builtin.append_ #[48, 48] 48 #[.slice (some ⟨g, 0, none⟩) 0 0, .slice s n cap]).run Try.prog w = .ok (.slice (some ⟨T, 0, none⟩) n c) W ∧ Bk W T 5 (idA (xs ++ zeros z)) ∧ n ≤ c ∧ c < 9223372036854775808 ∧ g ≤ T ∧ Below g w W := by
  subst hn
  obtain ⟨i, hi, hz, hs, hby⟩ := byte_info
  obtain ⟨s', cap', e, h1, h2, h3, h4⟩ := hb
  cases e
  by_cases h0 : xs = []
  · subst h0
    have hsrc : Src Try.prog i.size 48 (.slice s 0 cap) 0 [] w := by
      cases s with
      | none => exact Src.ofNil w Try.underlying48 cap
      | some a => exact Src.ofSlice w Try.underlying48 a 0 cap [] (by simp) (by simp) (by simp)
    exact ⟨g, 0, 0, w, run_append_nothing w _ _ _ _ i Try.underlying48 hi _ 0 0 (Nat.le_refl _) _ hsrc, hg, Nat.le_refl _, by omega, Nat.le_refl _, Below.refl _ _⟩
  · obtain ⟨b, o, rfl, hb, hc⟩ := h4 h0
    have hpos : 0 < xs.length := by
      rcases Nat.eq_zero_or_pos xs.length with h | h
      · exact absurd (List.eq_nil_of_length_eq_zero h) h0
      · exact h
    have hsrc : Src Try.prog i.size 48 (.slice (some ⟨b, o, none⟩) xs.length cap) xs.length (xs.map byteV) w :=
      Src.ofSlice w Try.underlying48 _ _ _ _ (by rw [hs]; simp) (fun j u hu => by
        rw [List.getElem?_map] at hu
        rcases hj : xs[j]? with _ | x
        · rw [hj] at hu; cases hu
        · rw [hj] at hu
          have hlt := (List.getElem?_eq_some_iff.1 hj).1
          rw [Go.WideShapes.add_plain, hc j hlt, ← hu]
          simp [nth, List.getD, hj, byteV]) (by
        intro u hu
        obtain ⟨x, _, rfl⟩ := List.mem_map.1 hu
        rfl)
    have hge := grownCap_ge w (0 + xs.length) 0 5
    have hle := grownCap_le_maxLen w (0 + xs.length) 0 5 (by unfold maxLen; omega)
    unfold maxLen at hle
    have hrun := run_append_grow_src w 48 48 48 5 i _ Try.underlying48 hi hz (some ⟨g, 0, none⟩) 0 0 [] (run_firstCells_some w.drew _ _ _ _ _ [] (by simp) (by simp)) _ xs.length _ hsrc (by omega) (by omega) (growslice_fits_wide (by omega) (by rw [hby]; omega))
    have hgl := hg.lt
    rw [Nat.zero_add, zero_bytes] at hrun
    rw [Nat.zero_add] at hge hle
    refine ⟨w.heap.size, grownCap w xs.length 0 5, grownCap w xs.length 0 5 - xs.length, _, hrun, ?_, hge, by omega, by omega, (Below.refl g w).drew.alloc (by simp; omega) _⟩
    refine Eq.trans (heap_alloc_new w.drew _) ?_
    simp [idA]
/-- The step of an append whose outcome is known. -/
theorem wpList_app {ops : Array Oper} {rest : List Oper} {o : Oper} {a : Act} {w W : World} {Q : Exit → Act → World → Prop} {v1 v2 v : Value} (hg : o.guard = none) (s x : Operand)
    (hop : o.op = Op.call { callee := Callee.builtin Builtin.append, args := #[s, x], argTypes := #[48, 48] }) (hty : o.type = 48) (hs : a.eval s = v1) (hx : a.eval x = v2)
    (hrun : (Builtin.append_ #[48, 48] 48 #[v1, v2]).run Try.prog w = .ok v W) (hK : wpList Try.prog ops Q rest (a.put o.dst v) W) : wpList Try.prog ops Q (o :: rest) a w := by
  refine wpList_plain hg fun K hK' => ?_
  unfold Oper.wp
  simp [execOp, hop, resolve, invoke, builtin, hs, hx, hty, hrun, Result.andThen]
  exact hK' _ _ hK
/-- A row stays behind stores into another one. -/
theorem Bk.farCells {w : World} {g b : Nat} {t : TypeId} {cs : Array Value} (h : Bk w g t cs) (hg : g ≠ b) : ∀ (l : List Value) (o : Nat), Bk (w.setCells b o l) g t cs := by
  intro l
  induction l generalizing w with
  | nil => intro o; exact h
  | cons v l ih => intro o; exact ih (h.far (p := ⟨b, o, none⟩) hg v) (o + 1)
/-- A slice of the call's own, of just these bytes. -/
def Mine (W : World) (lo : Nat) (v : Value) (xs : List Nat) : Prop := (v = .slice none 0 0 ∧ xs = []) ∨
  ∃ T cap z, v = .slice (some ⟨T, 0, none⟩) xs.length cap ∧ cap = xs.length + z ∧ cap < 9223372036854775808 ∧ lo ≤ T ∧ Bk W T 5 (idA (xs ++ zeros z))
theorem Mine.keep {W W' : World} {lo : Nat} {v : Value} {xs : List Nat} (h : Mine W lo v xs) (hb : Below W.heap.size W W') : Mine W' lo v xs := by
  rcases h with h | ⟨T, cap, z, e, hc, hc2, hT, K⟩
  · exact .inl h
  · exact .inr ⟨T, cap, z, e, hc, hc2, hT, K.keep hb⟩
theorem Mine.bs {W : World} {lo : Nat} {v : Value} {xs : List Nat} (h : Mine W lo v xs) (hx : ∀ x ∈ xs, x < 256) : BsV W W.heap.size v xs := by
  rcases h with ⟨rfl, rfl⟩ | ⟨T, cap, z, rfl, hc, hc2, hT, K⟩
  · exact ⟨none, 0, rfl, Nat.le_refl _, by omega, by simp, fun h => absurd rfl h⟩
  · have h := bs_row K (n := xs.length) (cap := cap) (by simp) (by omega) hc2 (by
      intro y hy
      rcases List.mem_append.1 hy with h | h
      · exact hx y h
      · have := List.eq_of_mem_replicate h
        omega)
    have e : (xs ++ zeros z).take xs.length = xs := by simp
    rw [e] at h
    exact h
theorem idA_opt (l : List Nat) (i : Nat) : (idA l)[i]? = (l[i]?).map byteV := by unfold idA; simp
theorem ovr_bytes (xs ys : List Nat) (z : Nat) (h : ys.length ≤ z) : ovr (idA (xs ++ zeros z)) xs.length (ys.map byteV) = idA ((xs ++ ys) ++ zeros (z - ys.length)) := by
  apply Array.ext_getElem?
  intro i
  have hs : (idA (xs ++ zeros z)).size = xs.length + z := by simp [idA, zeros]
  rw [ovr_get, hs, List.length_map, idA_opt, idA_opt, List.append_assoc]
  by_cases h1 : i < xs.length
  · rw [if_neg (by omega), List.getElem?_append_left h1, List.getElem?_append_left h1]
  · rw [List.getElem?_append_right (by omega), List.getElem?_append_right (by omega)]
    by_cases h2 : i < xs.length + ys.length
    · rw [if_pos (by omega), List.getElem?_append_left (by omega), List.getElem?_map]
    · rw [if_neg (by omega), List.getElem?_append_right (by omega)]
      unfold zeros
      rw [List.getElem?_replicate, List.getElem?_replicate]
      by_cases h3 : i - xs.length < z
      · rw [if_pos h3, if_pos (by omega)]
      · rw [if_neg h3, if_neg (by omega)]
/-- The bytes, onto a slice of the call's own. -/
theorem app2 (xs ys : List Nat) (v u : Value) (lo : Nat) (w : World) (hm : Mine w lo v xs) (hlo : lo ≤ w.heap.size) (hu : BsV w w.heap.size u ys) (hlt : xs.length + ys.length ≤ 1048576) :
    ∃ v' W, (Builtin.append_ #[48, 48] 48 #[v, u]).run Try.prog w = .ok v' W ∧ Mine W lo v' (xs ++ ys) ∧ Below lo w W := by
  obtain ⟨i, hi, hz, hs, hby⟩ := byte_info
  obtain ⟨s, cap, rfl, h1, h2, h3, h4⟩ := hu
  by_cases h0 : ys = []
  · subst h0
    have hsrc : Src Try.prog i.size 48 (.slice s 0 cap) 0 [] w := by
      cases s with
      | none => exact Src.ofNil w Try.underlying48 cap
      | some a => exact Src.ofSlice w Try.underlying48 a 0 cap [] (by simp) (by simp) (by simp)
    rw [List.append_nil]
    rcases hm with ⟨rfl, rfl⟩ | ⟨T, c, z, rfl, hc, hc2, hT, K⟩
    · exact ⟨_, w, run_append_nothing w _ _ _ _ i Try.underlying48 hi _ 0 0 (Nat.le_refl _) _ hsrc, .inl ⟨rfl, rfl⟩, Below.refl _ _⟩
    · exact ⟨_, w, run_append_nothing w _ _ _ _ i Try.underlying48 hi _ xs.length c (by omega) _ hsrc, .inr ⟨T, c, z, rfl, hc, hc2, hT, K⟩, Below.refl _ _⟩
  · obtain ⟨b, o, rfl, hb, hc⟩ := h4 h0
    have hpos : 0 < ys.length := by
      rcases Nat.eq_zero_or_pos ys.length with h | h
      · exact absurd (List.eq_nil_of_length_eq_zero h) h0
      · exact h
    have hsrc : Src Try.prog i.size 48 (.slice (some ⟨b, o, none⟩) ys.length cap) ys.length (ys.map byteV) w :=
      Src.ofSlice w Try.underlying48 _ _ _ _ (by rw [hs]; simp) (fun j u hu => by
        rw [List.getElem?_map] at hu
        rcases hj : ys[j]? with _ | x
        · rw [hj] at hu; cases hu
        · rw [hj] at hu
          have hlt := (List.getElem?_eq_some_iff.1 hj).1
          rw [Go.WideShapes.add_plain, hc j hlt, ← hu]
          simp [nth, List.getD, hj, byteV]) (by
        intro u hu
        obtain ⟨x, _, rfl⟩ := List.mem_map.1 hu
        rfl)
    have grown : ∀ (sb : Option Addr) (c : Nat), c < xs.length + ys.length → (Builtin.firstCells i.size xs.length (.slice sb xs.length c)).run Try.prog w.drew = .ok (xs.map byteV).toArray w.drew →
        ∃ v' W, (Builtin.append_ #[48, 48] 48 #[.slice sb xs.length c, .slice (some ⟨b, o, none⟩) ys.length cap]).run Try.prog w = .ok v' W ∧ Mine W lo v' (xs ++ ys) ∧ Below lo w W := by
      intro sb c hcl hold
      have hge := grownCap_ge w (xs.length + ys.length) c 5
      have hle := grownCap_le_maxLen w (xs.length + ys.length) c 5 (by unfold maxLen; omega)
      unfold maxLen at hle
      have hrun := run_append_grow_src w 48 48 48 5 i _ Try.underlying48 hi hz sb xs.length c _ hold _ ys.length _ hsrc hcl (by omega) (growslice_fits_wide hcl (by rw [hby]; omega))
      rw [zero_bytes] at hrun
      refine ⟨_, _, hrun, .inr ⟨w.heap.size, grownCap w (xs.length + ys.length) c 5, grownCap w (xs.length + ys.length) c 5 - (xs.length + ys.length), by rw [List.length_append], by rw [List.length_append]; omega, by omega, hlo, ?_⟩, (Below.refl lo w).drew.alloc (by simpa using hlo) _⟩
      refine Eq.trans (heap_alloc_new w.drew _) ?_
      simp [idA]
    rcases hm with ⟨rfl, rfl⟩ | ⟨T, c, z, rfl, hcz, hc2, hT, K⟩
    · exact grown none 0 (by simpa using hpos) (run_firstCells_none w.drew _ 0 0 0)
    · rcases Nat.lt_or_ge c (xs.length + ys.length) with hg | hr
      · refine grown _ c hg (run_firstCells_some w.drew _ _ _ _ _ _ (by rw [hs]; simp) (fun j u hu => ?_))
        rw [List.getElem?_map] at hu
        rcases hj : xs[j]? with _ | x
        · rw [hj] at hu; cases hu
        · rw [hj] at hu
          have hl := (List.getElem?_eq_some_iff.1 hj).1
          rw [Go.WideShapes.add_plain, Nat.zero_add]
          refine (K.drew.cell j).trans ?_
          rw [idA_opt, List.getElem?_append_left hl, hj]
          exact hu
      · have hrun := run_append_room_src w 48 48 48 5 i Try.underlying48 hi T 0 xs.length c _ ys.length _ hsrc hr
          (fun j hj => by
            rw [hs, Nat.mul_one, Nat.zero_add, K.cell, idA_opt]
            have : xs.length + j < (xs ++ zeros z).length := by simp [zeros] at hj ⊢; omega
            rw [List.getElem?_eq_getElem this]; rfl)
          (fun j hj => by rw [hs, Nat.mul_one, Nat.zero_add]; exact K.frozen _)
        rw [hs, Nat.mul_one, Nat.zero_add] at hrun
        refine ⟨_, _, hrun, .inr ⟨T, c, z - ys.length, by rw [List.length_append], by rw [List.length_append]; omega, hc2, hT, ?_⟩, Below.setCells hT _ _ _ (Below.refl _ _)⟩
        have e := Bk.ovr_ (w := w) (ys.map byteV) xs.length w _ K
        rw [ovr_bytes xs ys z (by omega)] at e
        exact e
end Go.Proofs.Ytcedljfdnbenoaa
