/-
  Texts in one: Row, Str, StrP, Byt, PartsA.
-/
import Derived.Test.YtljfhabhenaapaaDoorRows
import Derived.Test.YtljfhabhenaapaaDoorBasZ
import Derived.Deep.Upon
import Derived.Laws.AppendOwn
import Derived.Laws.MakeOwn
import Derived.Deep.DeepAppendWide
import Derived.Great.BuildSlice
import Derived.StillTailTactics
import Derived.Lib.Hide
import Derived.Test.YtljfhabhenaapaaDoorHashZ
import Derived.Laws.BytesArg
import Derived.Deep.Slices
namespace Go.Proofs.YtljfhabhenaapaaDoor
open Go.RowKit
set_option maxRecDepth 100000
set_option linter.unusedVariables false

/-- A kind of elements: its type, the slices' type, how many cells one has, and which. -/
structure RowT (α : Type) where
  e : TypeId
  t : TypeId
  k : Nat
  by_ : Nat
  c : α → List Value
  z : α
structure RowT.Ok {α : Type} (R : RowT α) : Prop where
  ht : Tryd.prog.underlying R.t = some (.slice R.e)
  info : ∃ i v, Tryd.prog.info? R.e = some i ∧ i.zero = some v ∧ i.size = R.k ∧ i.bytes = R.by_ ∧ v.cells = (R.c R.z).toArray
  len : ∀ x, (R.c x).length = R.k
  one : ∀ x, ∀ v ∈ R.c x, v.oneCell' = true
  pos : 0 < R.k
  bys : R.by_ ≤ 4096
theorem rowFar {w : World} {g b : Nat} {t : TypeId} {cs : Array Value} (h : Bk w g t cs) (hg : g ≠ b) : ∀ (l : List Value) (o : Nat), Bk (w.setCells b o l) g t cs := by
  intro l
  induction l generalizing w with
  | nil => intro o; exact h
  | cons v r ih => intro o; exact ih (h.far hg v) (o + 1)
theorem Bk.type_eq {w : World} {g : Nat} {t u : TypeId} {cs ds : Array Value} (h : Bk w g t cs) (k : Bk w g u ds) : t = u := by
  have e := Eq.trans (Eq.symm h) k
  simp at e
  exact e.2
section
variable {α : Type} {R : RowT α}
def RowT.flat (R : RowT α) (L : List α) : List Value := L.flatMap R.c
theorem RowT.Ok.flat_len (h : R.Ok) (L : List α) : (R.flat L).length = L.length * R.k := by
  unfold RowT.flat
  induction L with
  | nil => simp
  | cons x r ih =>
    rw [List.flatMap_cons, List.length_append, h.len, ih, List.length_cons, Nat.succ_mul]
    omega
theorem flat_app (L M : List α) : R.flat (L ++ M) = R.flat L ++ R.flat M := by unfold RowT.flat; rw [List.flatMap_append]
theorem RowT.Ok.flat_get (h : R.Ok) (L : List α) (i j : Nat) (x : α) (hi : L[i]? = some x) (hj : j < R.k) : (R.flat L)[i * R.k + j]? = (R.c x)[j]? := by
  unfold RowT.flat
  induction L generalizing i with
  | nil => cases hi
  | cons y r ih =>
    have hy := h.len y
    cases i with
    | zero =>
      obtain rfl : y = x := by simpa using hi
      rw [List.flatMap_cons, Nat.zero_mul, Nat.zero_add, List.getElem?_append_left (by omega)]
    | succ i =>
      rw [List.flatMap_cons, List.getElem?_append_right (by rw [hy, Nat.succ_mul]; omega), hy, show (i + 1) * R.k + j - R.k = i * R.k + j by rw [Nat.succ_mul]; omega]
      exact ih i (by simpa using hi)
theorem RowT.Ok.flat_one (h : R.Ok) (L : List α) : ∀ v ∈ R.flat L, v.oneCell' = true := by
  intro v hv
  unfold RowT.flat at hv
  obtain ⟨x, _, hx⟩ := List.mem_flatMap.1 hv
  exact h.one x v hx
theorem rowr_below {C : Nat} {w w' : World} {b o : Nat} {cs : List Value} (h : w.rangeAt b o cs) (hb : Below C w w') (hC : b < C) : w'.rangeAt b o cs := fun j v hv => (hb.cell (p := ⟨b, o + j, none⟩) hC).trans (h j v hv)
/-- A slice whose elements are these, in a block below B. -/
def RowV (R : RowT α) (w : World) (B : Nat) (v : Value) (L : List α) : Prop := ∃ s cap, v = .slice s L.length cap ∧ L.length ≤ cap ∧ cap < 9223372036854775808 ∧
  (L ≠ [] → ∃ b o, s = some ⟨b, o, none⟩ ∧ b < B ∧ ∀ i x, L[i]? = some x → w.rangeAt b (o + i * R.k) (R.c x))
theorem RowV.keep {w w' : World} {B : Nat} {v : Value} {L : List α} (h : RowV R w B v L) {C : Nat} (hb : Below C w w') (hC : B ≤ C) : RowV R w' B v L := by
  obtain ⟨s, cap, rfl, h1, h2, h4⟩ := h
  refine ⟨s, cap, rfl, h1, h2, fun hne => ?_⟩
  obtain ⟨b, o, e, hb', hc⟩ := h4 hne
  exact ⟨b, o, e, hb', fun i x hx => rowr_below (hc i x hx) hb (by omega)⟩
theorem RowV.mono {w : World} {B C : Nat} {v : Value} {L : List α} (h : RowV R w B v L) (hC : B ≤ C) : RowV R w C v L := by
  obtain ⟨s, cap, rfl, h1, h2, h4⟩ := h
  refine ⟨s, cap, rfl, h1, h2, fun hne => ?_⟩
  obtain ⟨b, o, e, hb', hc⟩ := h4 hne
  exact ⟨b, o, e, by omega, hc⟩
theorem RowV.slice {w : World} {B : Nat} {v : Value} {L : List α} (h : RowV R w B v L) : ∃ s c, v = .slice s L.length c := by
  obtain ⟨s, cap, rfl, _⟩ := h
  exact ⟨s, cap, rfl⟩
theorem RowV.at_ {w : World} {B n c : Nat} {s : Option Addr} {L : List α} (h : RowV R w B (.slice s n c) L) (hne : L ≠ []) : ∃ b o, s = some ⟨b, o, none⟩ ∧ b < B ∧ n = L.length ∧ ∀ i x, L[i]? = some x → w.rangeAt b (o + i * R.k) (R.c x) := by
  obtain ⟨s', cap, e, h1, h2, h4⟩ := h
  cases e
  obtain ⟨b, o, e, hb, hc⟩ := h4 hne
  exact ⟨b, o, e, hb, rfl, hc⟩
/-- A slice of the call's own, of just these elements. -/
def MineR (R : RowT α) (W : World) (lo : Nat) (v : Value) (L : List α) : Prop := (v = .slice none 0 0 ∧ L = []) ∨
  ∃ T cap z, v = .slice (some ⟨T, 0, none⟩) L.length cap ∧ cap = L.length + z ∧ cap < 9223372036854775808 ∧ lo ≤ T ∧ Bk W T R.e (R.flat (L ++ List.replicate z R.z)).toArray
theorem MineR.keep {W W' : World} {lo : Nat} {v : Value} {L : List α} (h : MineR R W lo v L) (hb : Below W.heap.size W W') : MineR R W' lo v L := by
  rcases h with h | ⟨T, cap, z, e, hc, hc2, hT, K⟩
  · exact .inl h
  · exact .inr ⟨T, cap, z, e, hc, hc2, hT, K.keep hb⟩
theorem MineR.slice {W : World} {lo : Nat} {v : Value} {L : List α} (h : MineR R W lo v L) : ∃ s c, v = .slice s L.length c := by
  rcases h with ⟨rfl, rfl⟩ | ⟨T, cap, z, rfl, _⟩
  · exact ⟨none, 0, rfl⟩
  · exact ⟨_, _, rfl⟩
theorem rowr_row (h : R.Ok) {W : World} {T : Nat} {t : TypeId} {L M : List α} (K : Bk W T t (R.flat (L ++ M)).toArray) : ∀ i x, L[i]? = some x → W.rangeAt T (0 + i * R.k) (R.c x) := by
  intro i x hx j v hv
  have hj : j < R.k := by
    have := (List.getElem?_eq_some_iff.1 hv).1
    rw [h.len] at this
    exact this
  have hi : (L ++ M)[i]? = some x := by rw [List.getElem?_append_left (List.getElem?_eq_some_iff.1 hx).1]; exact hx
  rw [Nat.zero_add, K.cell, List.getElem?_toArray, h.flat_get _ i j x hi hj]
  exact hv
theorem MineR.rows (h : R.Ok) {W : World} {lo : Nat} {v : Value} {L : List α} (hm : MineR R W lo v L) : RowV R W W.heap.size v L := by
  rcases hm with ⟨rfl, rfl⟩ | ⟨T, cap, z, rfl, hc, hc2, hT, K⟩
  · exact ⟨none, 0, rfl, Nat.le_refl _, by omega, fun h => absurd rfl h⟩
  · exact ⟨_, cap, rfl, by omega, hc2, fun _ => ⟨T, 0, rfl, K.lt, rowr_row h K⟩⟩
/-- A row of elements, just built. -/
theorem row_built (h : R.Ok) {w : World} {g n : Nat} {t : TypeId} {L : List α} (hg : Bk w g t (R.flat L).toArray) (hn : n = L.length) (hc : n < 9223372036854775808) : RowV R w w.heap.size (.slice (some ⟨g, 0, none⟩) n n) L := by
  subst hn
  have K : Bk w g t (R.flat (L ++ [])).toArray := by rw [List.append_nil]; exact hg
  exact ⟨_, _, rfl, Nat.le_refl _, hc, fun _ => ⟨g, 0, rfl, hg.lt, rowr_row h K⟩⟩
theorem zero_rows (h : R.Ok) (v : Value) (hv : v.cells = (R.c R.z).toArray) (n : Nat) : Builtin.zeroCells v.cells n = (R.flat (List.replicate n R.z)).toArray := by
  have hs : (R.c R.z).toArray.size = R.k := by rw [List.size_toArray, h.len]
  rw [hv]
  unfold Builtin.zeroCells
  rw [hs]
  apply Array.ext_getElem?
  intro i
  rw [Array.getElem?_map, Array.getElem?_range, List.getElem?_toArray]
  have hl := h.flat_len (List.replicate n R.z)
  rw [List.length_replicate] at hl
  by_cases hi : i < n * R.k
  · have hp := h.pos
    have hq : i / R.k < n := by rw [Nat.div_lt_iff_lt_mul hp]; exact hi
    have hm := Nat.mod_lt i hp
    have e := h.flat_get (List.replicate n R.z) (i / R.k) (i % R.k) R.z (by rw [List.getElem?_replicate, if_pos hq]) hm
    rw [show i / R.k * R.k + i % R.k = i by rw [Nat.mul_comm]; exact Nat.div_add_mod _ _] at e
    rw [if_pos hi, e, Option.map_some, getElem!_def, List.getElem?_toArray, List.getElem?_eq_getElem (by rw [h.len]; exact hm)]
  · rw [if_neg hi, List.getElem?_eq_none (by omega)]
    rfl
/-- All is as it was but the block in which v lies. -/
def ButR (v : Value) (w W : World) : Prop := (∀ b o, b < w.heap.size → (∀ o' n c, v ≠ .slice (some ⟨b, o', none⟩) n c) → W.cell? ⟨b, o, none⟩ = w.cell? ⟨b, o, none⟩) ∧
  ∀ b t cs, Bk w b t cs → (∀ o' n c, v ≠ .slice (some ⟨b, o', none⟩) n c) → Bk W b t cs
/-- A slice of another kind stays what it is. -/
theorem MineR.but {β : Type} {S : RowT β} {w W : World} {lo : Nat} {u v : Value} {L : List α} {M : List β} (hne : R.e ≠ S.e) (hu : MineR R w lo u L) (hv : MineR S w lo v M) (hb : ButR v w W) : MineR R W lo u L := by
  rcases hu with h | ⟨T, cap, z, e, hc, hc2, hT, K⟩
  · exact .inl h
  · refine .inr ⟨T, cap, z, e, hc, hc2, hT, hb.2 _ _ _ K fun o n c he => ?_⟩
    rcases hv with ⟨rfl, rfl⟩ | ⟨T', cap', z', rfl, _, _, _, K'⟩
    · cases he
    · cases he
      exact hne (Bk.type_eq K K')
/-- Elements, onto a slice of the call's own. -/
theorem appR (h : R.Ok) (xs ys : List α) (v u : Value) (lo : Nat) (w : World) (hm : MineR R w lo v xs) (hlo : lo ≤ w.heap.size) (hu : RowV R w w.heap.size u ys) (hlt : xs.length + ys.length ≤ 1048576) :
    ∃ v' W, (Builtin.append_ #[R.t, R.t] R.t #[v, u]).run Tryd.prog w = .ok v' W ∧ MineR R W lo v' (xs ++ ys) ∧ Below lo w W ∧ ButR v w W := by
  obtain ⟨i, zv, hi, hz, hs, hby, hzc⟩ := h.info
  obtain ⟨s, cap, rfl, h1, h2, h4⟩ := hu
  have fx := h.flat_len xs
  have fy := h.flat_len ys
  by_cases h0 : ys = []
  · subst h0
    have hsrc : Src Tryd.prog i.size R.t (.slice s 0 cap) 0 [] w := by
      cases s with
      | none => exact Src.ofNil w h.ht cap
      | some a => exact Src.ofSlice w h.ht a 0 cap [] (by simp) (by simp) (by simp)
    rw [List.append_nil]
    rcases hm with ⟨rfl, rfl⟩ | ⟨T, c, z, rfl, hc, hc2, hT, K⟩
    · exact ⟨_, w, run_append_nothing w _ _ _ _ i h.ht hi _ 0 0 (Nat.le_refl _) _ hsrc, .inl ⟨rfl, rfl⟩, Below.refl _ _, fun _ _ _ _ => rfl, fun _ _ _ h _ => h⟩
    · exact ⟨_, w, run_append_nothing w _ _ _ _ i h.ht hi _ xs.length c (by omega) _ hsrc, .inr ⟨T, c, z, rfl, hc, hc2, hT, K⟩, Below.refl _ _, fun _ _ _ _ => rfl, fun _ _ _ h _ => h⟩
  · obtain ⟨b, o, rfl, hb, hc⟩ := h4 h0
    have hpos : 0 < ys.length := by
      rcases Nat.eq_zero_or_pos ys.length with h | h
      · exact absurd (List.eq_nil_of_length_eq_zero h) h0
      · exact h
    have hp := h.pos
    have hsrc : Src Tryd.prog i.size R.t (.slice (some ⟨b, o, none⟩) ys.length cap) ys.length (R.flat ys) w :=
      Src.ofSlice w h.ht _ _ _ _ (by rw [hs, fy]) (fun j u hu => by
        have hjl : j < ys.length * R.k := by
          rcases Nat.lt_or_ge j (ys.length * R.k) with h | h
          · exact h
          · rw [List.getElem?_eq_none (by omega)] at hu; cases hu
        have hq : j / R.k < ys.length := by rw [Nat.div_lt_iff_lt_mul hp]; exact hjl
        have hx := List.getElem?_eq_getElem hq
        have hr := Nat.mod_lt j hp
        have ej : j / R.k * R.k + j % R.k = j := by rw [Nat.mul_comm]; exact Nat.div_add_mod _ _
        have e1 := h.flat_get ys (j / R.k) (j % R.k) _ hx hr
        have e2 := hc (j / R.k) _ hx (j % R.k) u (by rw [← e1, ej]; exact hu)
        rw [Go.WideShapes.add_plain]
        rw [show o + j / R.k * R.k + j % R.k = o + j by rw [Nat.add_assoc, ej]] at e2
        exact e2) (h.flat_one ys)
    have grown : ∀ (sb : Option Addr) (c : Nat), c < xs.length + ys.length → (Builtin.firstCells i.size xs.length (.slice sb xs.length c)).run Tryd.prog w.drew = .ok (R.flat xs).toArray w.drew →
        ∃ v' W, (Builtin.append_ #[R.t, R.t] R.t #[.slice sb xs.length c, .slice (some ⟨b, o, none⟩) ys.length cap]).run Tryd.prog w = .ok v' W ∧ MineR R W lo v' (xs ++ ys) ∧ Below lo w W ∧ ButR (.slice sb xs.length c) w W := by
      intro sb c hcl hold
      have hge := grownCap_ge w (xs.length + ys.length) c R.e
      have hle := grownCap_le_maxLen w (xs.length + ys.length) c R.e (by unfold maxLen; omega)
      unfold maxLen at hle
      have hbys := h.bys
      have hrun := run_append_grow_src w R.t R.t R.t R.e i _ h.ht hi hz sb xs.length c _ hold _ ys.length _ hsrc hcl (by omega) (growslice_fits_wide hcl (by
        rw [hby]
        refine Nat.le_trans (Nat.mul_le_mul (show xs.length + ys.length + (xs.length + ys.length) / 4 + 192 ≤ 2000000 by omega) hbys) (by omega)))
      rw [zero_rows h zv hzc] at hrun
      refine ⟨_, _, hrun, .inr ⟨w.heap.size, grownCap w (xs.length + ys.length) c R.e, grownCap w (xs.length + ys.length) c R.e - (xs.length + ys.length), by rw [List.length_append], by rw [List.length_append]; omega, by omega, hlo, ?_⟩, (Below.refl lo w).drew.alloc (by simpa using hlo) _, fun b' o' hb' _ => (World.cell?_alloc_lt w.drew _ ⟨b', o', none⟩ hb'), fun _ _ _ h _ => h.drew.alloc _⟩
      refine Eq.trans (heap_alloc_new w.drew _) ?_
      simp [flat_app]
    rcases hm with ⟨rfl, rfl⟩ | ⟨T, c, z, rfl, hcz, hc2, hT, K⟩
    · exact grown none 0 (by simpa using hpos) (run_firstCells_none w.drew _ 0 0 0)
    · rcases Nat.lt_or_ge c (xs.length + ys.length) with hg | hr
      · refine grown _ c hg (run_firstCells_some w.drew _ _ _ _ _ _ (by rw [hs, fx]) (fun j u hu => ?_))
        rw [Go.WideShapes.add_plain, Nat.zero_add]
        refine (K.drew.cell j).trans ?_
        rw [List.getElem?_toArray, flat_app, List.getElem?_append_left (List.getElem?_eq_some_iff.1 hu).1]
        exact hu
      · have hzl := h.flat_len (xs ++ List.replicate z R.z)
        rw [List.length_append, List.length_replicate] at hzl
        have hroom : (xs.length + ys.length) * R.k ≤ (xs.length + z) * R.k := Nat.mul_le_mul_right _ (by omega)
        rw [Nat.add_mul] at hroom
        have hrun := run_append_room_src w R.t R.t R.t R.e i h.ht hi T 0 xs.length c _ ys.length _ hsrc hr
          (fun j hj => by
            rw [fy] at hj
            rw [hs, Nat.zero_add, K.cell, List.getElem?_toArray, List.getElem?_eq_getElem (by rw [hzl]; omega)]; rfl)
          (fun j hj => by rw [hs, Nat.zero_add]; exact K.frozen _)
        rw [hs, Nat.zero_add] at hrun
        refine ⟨_, _, hrun, .inr ⟨T, c, z - ys.length, by rw [List.length_append], by rw [List.length_append]; omega, hc2, hT, ?_⟩, Below.setCells hT _ _ _ (Below.refl _ _), fun b' o' hb' hne => World.cell?_setCells_out T _ _ w ⟨b', o', none⟩ (fun hbe _ => absurd rfl (by have hbe' : b' = T := hbe; subst hbe'; exact hne 0 _ _)), fun b' t' cs' hb' hne => rowFar hb' (fun hbe => by subst hbe; exact hne 0 _ _ rfl) _ _⟩
        have e := Bk.ovr_ (w := w) (R.flat ys) (xs.length * R.k) w _ K
        have e2 : ovr (R.flat (xs ++ List.replicate z R.z)).toArray (xs.length * R.k) (R.flat ys) = (R.flat ((xs ++ ys) ++ List.replicate (z - ys.length) R.z)).toArray := by
          apply Array.ext_getElem?
          intro q
          rw [ovr_get, List.size_toArray, hzl, fy, List.getElem?_toArray, List.getElem?_toArray, flat_app, flat_app, flat_app]
          have hsp : List.replicate z R.z = List.replicate ys.length R.z ++ List.replicate (z - ys.length) R.z := by rw [List.replicate_append_replicate, show ys.length + (z - ys.length) = z by omega]
          have hry := h.flat_len (List.replicate ys.length R.z)
          rw [List.length_replicate] at hry
          by_cases q1 : q < xs.length * R.k
          · rw [if_neg (by omega), List.getElem?_append_left (by omega), List.append_assoc, List.getElem?_append_left (by omega)]
          · by_cases q2 : q < xs.length * R.k + ys.length * R.k
            · rw [if_pos (by omega), List.append_assoc, List.getElem?_append_right (by omega), List.getElem?_append_left (by omega), fx]
            · rw [if_neg (by omega), List.getElem?_append_right (by omega), hsp, flat_app, List.getElem?_append_right (by omega), List.append_assoc, List.getElem?_append_right (by omega), List.getElem?_append_right (by omega), fx, fy, hry]
        rw [e2] at e
        exact e
end
end Go.Proofs.YtljfhabhenaapaaDoor
namespace Go.Proofs.YtljfhabhenaapaaDoor
open Go.RowKit
set_option linter.unusedVariables false

def ints (l : List Nat) : List Int := l.map fun (x : Nat) => (x : Int)
/-- The string of these bytes. -/
def strN (l : List Nat) : ByteArray := strOfNums (ints l)
theorem strN_size (l : List Nat) : (strN l).size = l.length := by unfold strN ints; rw [strOfNums_size, List.length_map]
theorem strN_list (l : List Nat) : (strN l).data.toList = l.map UInt8.ofNat := by
  unfold strN ints
  rw [strOfNums_data, List.map_map]
  rfl
theorem byteArray_ext {a b : ByteArray} (h : a.data.toList = b.data.toList) : a = b := by
  cases a; cases b
  congr 1
  exact Array.ext' h
theorem strN_append (a b : List Nat) : strN a ++ strN b = strN (a ++ b) := by
  apply byteArray_ext
  rw [strN_list, List.map_append, ← strN_list, ← strN_list]
  simp [ByteArray.data_append]
theorem strN_toList (l : List Nat) : (strN l).toList = l.map UInt8.ofNat := by rw [ByteArray.toList_eq, strN_list]
theorem strN_eq (l : List Nat) : ((strN l).toList == (strN l).toList) = true := by simp
theorem strN_get (l : List Nat) (i : Nat) (h : i < l.length) (hl : ∀ x ∈ l, x < 256) (hi : i < (strN l).size) : ((strN l)[i]'hi).toNat = nth l i := by
  have hi2 : i < (strN l).data.toList.length := by rw [strN_list, List.length_map]; exact h
  have e : (strN l)[i]'hi = (strN l).data.toList[i]'hi2 := by
    rw [Array.getElem_toList]
    rfl
  rw [e]
  have e2 : (strN l).data.toList[i]? = some (UInt8.ofNat (nth l i)) := by
    rw [strN_list, List.getElem?_map, List.getElem?_eq_getElem h]
    unfold nth
    rw [List.getD, List.getElem?_eq_getElem h]
    rfl
  rw [List.getElem?_eq_getElem hi2] at e2
  rw [Option.some.inj e2]
  have := nth_lt l i 256 (by omega) hl
  rw [UInt8.toNat_ofNat']
  omega
/-- A byte of a string. -/
theorem str_at (l : List Nat) (hl : ∀ x ∈ l, x < 256) (i : Nat) (h : i < l.length) (w : World) : (Instr.index 9 (.string (strN l)) (.int .i64 (i : Int))).run Tryd.prog w = .ok (.int .u8 ((nth l i : Nat) : Int)) w := by
  have hs : i < (strN l).size := by rw [strN_size]; exact h
  rw [run_index_string (P := Tryd.prog) w 9 (strN l) .i64 (i : Int) (by kernel_rfl), dif_pos ⟨by omega, by omega⟩]
  have := strN_get l i h hl hs
  simp only [Int.toNat_natCast]
  rw [this]
/-- The bytes of a slice, as a string. -/
theorem conv_bs {w : World} {B : Nat} {v : Value} {xs : List Nat} (h : BsV w B v xs) : (convert 100 9 v).run Tryd.prog w = .ok (.string (strN xs)) w := by
  obtain ⟨s, cap, rfl, h1, h2, h3, h4⟩ := h
  by_cases h0 : xs = []
  · subst h0
    cases s with
    | none => exact run_convert_bytes_nil (P := Tryd.prog) w 100 5 (by kernel_rfl) (by kernel_rfl) 0 cap 9 (by kernel_rfl)
    | some a =>
      rw [run_convert_bytes_string w 100 9 5 _ _ cap (by kernel_rfl) (by kernel_rfl) (by kernel_rfl)]
      have := run_bytesToString (P := Tryd.prog) w a 0 cap [] (by simp [loadCells, loadCellsFrom])
      rw [List.length_nil, this]
      rfl
  · obtain ⟨b, o, rfl, hb, hc⟩ := h4 h0
    refine run_convert_bytes_arg (P := Tryd.prog) w 100 5 (by kernel_rfl) (by kernel_rfl) b o xs.length cap (ints xs) (by unfold ints; rw [List.length_map]) (fun i hi => ?_) 9 (by kernel_rfl)
    rw [hc i hi]
    unfold ints nth
    rw [List.getD, List.getD, List.getElem?_map, List.getElem?_eq_getElem hi]
    rfl
end Go.Proofs.YtljfhabhenaapaaDoor
namespace Go.Proofs.YtljfhabhenaapaaDoor
end Go.Proofs.YtljfhabhenaapaaDoor
namespace Go.Proofs.YtljfhabhenaapaaDoor
end Go.Proofs.YtljfhabhenaapaaDoor
set_option maxRecDepth 100000
namespace Go.Proofs.YtljfhabhenaapaaDoor
open Go.ChangeShapes Go.WideShapes Go.ChangeAt Go.RowKit
open Go.Deep (open_slice choose_lt)
set_option linter.unusedVariables false

/-- What reads as a slice of bytes is one. -/
theorem bytes_trod {H : Type} {enc : TypeId × Value → H} {w : World} {base f : Nat} {spare : Nat → Bool} {held : Bool} {cs : List Value} {x : DataW H × List MemPlace}
    (hf : DataW.trod enc Tryd.prog w base spare held f 100 cs = some x) : ∃ (v : Value) (xs : List Nat), cs = [v] ∧ BsV w w.heap.size v xs := by
  rcases open_ints Tryd.underlying100 Tryd.underlying5 (by kernel_rfl) hf with ⟨rfl, _⟩ | ⟨a, len, cap, zs, rfl, _, hl, hm, hz, _, hcell, hwz⟩
  · exact ⟨_, [], rfl, none, 0, rfl, Nat.le_refl _, by omega, by simp, fun h => absurd rfl h⟩
  · have hlz : len ≤ zs.length := by rw [hz]; split <;> omega
    have hxl : ((zs.take len).map Int.toNat).length = len := by rw [List.length_map, List.length_take]; omega
    refine ⟨_, (zs.take len).map Int.toNat, rfl, some a, cap, by rw [hxl], by omega, by unfold maxLen at hm; omega, ?_, ?_⟩
    · intro x hx
      simp only [List.mem_map] at hx
      obtain ⟨z, hzm, rfl⟩ := hx
      have := wf_byte (hwz z (List.mem_of_mem_take hzm))
      omega
    · intro hne
      have hpos : 0 < len := by
        rcases Nat.eq_zero_or_pos len with h0 | h0
        · subst h0; simp at hne
        · exact h0
      have c0 := hcell 0 (by omega)
      obtain ⟨b, o, spot⟩ := a
      have hspot : spot = none := by simpa [Addr.add] using World.cell?_spot c0
      subst hspot
      refine ⟨b, o, rfl, ?_, fun i hi => ?_⟩
      · exact block_lt_of_cell (a := ⟨b, o, none⟩) (by have := c0; simpa [Go.WideShapes.add_plain] using this)
      · have hi' : i < len := by rw [hxl] at hi; exact hi
        have ci := hcell i (by omega)
        rw [Addr.add_mid] at ci
        rw [ci]
        have hzi : zs[i]? = some (zs[i]'(by omega)) := List.getElem?_eq_getElem (by omega)
        have hw := wf_byte (hwz _ (List.getElem_mem (show i < zs.length by omega)))
        have e1 : zs.getD i 0 = zs[i]'(by omega) := by rw [List.getD, hzi]; rfl
        have e2 : nth ((zs.take len).map Int.toNat) i = (zs[i]'(by omega)).toNat := by
          unfold nth
          rw [List.getD, List.getElem?_map, List.getElem?_take_of_lt hi', hzi]; rfl
        rw [e1, e2]
        congr 2
        omega

theorem parts_arg {H : Type} {enc : TypeId × Value → H} {w : World} {base b0 : Nat} {spare : Nat → Bool} {held : Bool} {r : Reach} {v : Value} {d : DataW H} {p : List MemPlace}
    (hv : Value.okWide Tryd.prog w r b0 128 v) (h : DataW.Trod enc Tryd.prog w base spare held 128 v d p) :
    ∃ (s : Option Addr) (cap : Nat) (ps : List (List Nat)), v = .slice s ps.length cap ∧ ps.length ≤ cap ∧ cap < 9223372036854775808 ∧ PartsV w s ps := by
  obtain ⟨s, len, cap, rfl⟩ := okWide_slice Tryd.underlying128 hv
  obtain ⟨f, hf⟩ := h
  rcases open_slice Tryd.underlying128 hf with ⟨hcs, _⟩ | ⟨a, len', cap', m, n, D, Pl, hcs, _, hlc, hmx, hm, _, hx⟩
  · simp [Value.cells] at hcs
    obtain ⟨rfl, rfl, rfl⟩ := hcs
    exact ⟨none, 0, [], rfl, Nat.le_refl _, by omega, fun h => absurd rfl h⟩
  · simp [Value.cells] at hcs
    obtain ⟨rfl, rfl, rfl⟩ := hcs
    unfold maxLen at hmx
    have hlm : len ≤ m := by rw [hm]; split <;> omega
    have hce : Tryd.prog.cellsOf 100 = 1 := by kernel_rfl
    have hk : ∀ i, i < len → ∃ q : Value × List Nat, w.cell? (a.add i) = some q.1 ∧ BsV w w.heap.size q.1 q.2 := by
      intro i hi
      obtain ⟨cs, hc, ht⟩ := hx i (by omega)
      rw [hce, Nat.mul_one] at hc
      obtain ⟨u, xs, rfl, hu⟩ := bytes_trod ht
      exact ⟨(u, xs), cell_of_cells?_one hc, hu⟩
    have : Inhabited (Value × List Nat) := ⟨(undef, [])⟩
    obtain ⟨g, hg⟩ := choose_lt hk
    have hlen : ((List.range len).map fun i => (g i).2).length = len := by simp
    refine ⟨some a, cap, (List.range len).map fun i => (g i).2, by rw [hlen], by rw [hlen]; exact hlc, by omega, fun hne => ?_⟩
    have hpos : 0 < len := by
      rcases Nat.eq_zero_or_pos len with h0 | h0
      · subst h0; simp at hne
      · exact h0
    obtain ⟨b, o, spot⟩ := a
    have hspot : spot = none := by simpa [Addr.add] using World.cell?_spot (hg 0 hpos).1
    subst hspot
    refine ⟨b, o, rfl, block_lt_of_cell (a := ⟨b, o, none⟩) (by have := (hg 0 hpos).1; simpa [Go.WideShapes.add_plain] using this), fun k xs hkx => ?_⟩
    have hkl : k < len := by
      have := (List.getElem?_eq_some_iff.mp hkx).1
      simpa using this
    have hxe : xs = (g k).2 := by
      simp [hkl] at hkx
      exact hkx.symm
    subst hxe
    refine ⟨(g k).1, ?_, (hg k hkl).2⟩
    have := (hg k hkl).1
    simpa [Go.WideShapes.add_plain] using this
end Go.Proofs.YtljfhabhenaapaaDoor
