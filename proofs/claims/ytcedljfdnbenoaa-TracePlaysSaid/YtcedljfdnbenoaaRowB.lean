/-
  Slices of elements of any kind: where they lie, and what is appended onto one that the call made itself.
-/
import Derived.Test.YtcedljfdnbenoaaRows
import Derived.Test.YtcedljfdnbenoaaOvr
import Derived.Deep.Upon
import Derived.Laws.AppendOwn
import Derived.Laws.MakeOwn
import Derived.Deep.DeepAppendWide
import Derived.Great.BuildSlice
import Derived.StillTailTactics
import Derived.Lib.Hide
import Derived.Deep.RegionLaw
import Derived.Deep.RegionHeld3
import Derived.Deep.DeepCutAuto
import Derived.WalkKit
import Derived.WalkLawsBesides
import Derived.RegionTactic
import Derived.BigRegion
import Derived.Outline
import Derived.LoopN
import Derived.IntWalk
namespace Go.Proofs.Ytcedljfdnbenoaa
open Go.RowKit
set_option linter.unusedVariables false

/-- Of the blocks that were there just these may have turned. -/
structure But (S : Nat → Prop) (w w' : World) : Prop where
  os : w'.os = w.os
  tape : w'.tape = w.tape
  output : w'.output = w.output
  size : w.heap.size ≤ w'.heap.size
  block : ∀ k, k < w.heap.size → ¬ S k → w'.heap[k]? = w.heap[k]?
section
variable {S S' : Nat → Prop} {a b w w' : World}
theorem But.refl (S : Nat → Prop) (w : World) : But S w w := ⟨rfl, rfl, rfl, Nat.le_refl _, fun _ _ _ => rfl⟩
theorem But.of (h : Below w.heap.size w w') : But S w w' := ⟨h.os, h.tape, h.output, h.size, fun k hk _ => h.block k hk⟩
theorem But.trans (h : But S a b) (k : But S' b w) (hs : ∀ i, i < a.heap.size → S' i → S i) : But S a w :=
  ⟨k.os.trans h.os, k.tape.trans h.tape, k.output.trans h.output, Nat.le_trans h.size k.size, fun i hi hn => (k.block i (Nat.lt_of_lt_of_le hi h.size) (fun hc => hn (hs i hi hc))).trans (h.block i hi hn)⟩
theorem But.step (h : But S a w) (k : Below w.heap.size w w') : But S a w' := h.trans (But.of (S := S) k) (fun _ _ h => h)
theorem But.drew (h : But S a w) : But S a w.drew := ⟨h.os, h.tape, h.output, h.size, h.block⟩
theorem But.alloc (h : But S a w) (o : Obj) : But S a (w.alloc o) := h.step ((Below.refl _ _).alloc (Nat.le_refl _) _)
theorem But.set_ (h : But S a w) {g : Nat} (hg : S g ∨ a.heap.size ≤ g) (i : Nat) (s : Option Nat) (u : Value) : But S a (w.setCell ⟨g, i, none⟩ u) :=
  ⟨h.os, h.tape, h.output, by simpa [World.setCell] using h.size, fun k hk hn => (Below.heap_setCell _ _ _ _ (by
    intro e
    have e : k = g := e
    subst e
    rcases hg with hg | hg
    · exact hn hg
    · omega)).trans (h.block k hk hn)⟩
theorem But.setCells {g : Nat} (hg : S g) (vs : List Value) : ∀ (o : Nat) (w : World), But S a w → But S a (w.setCells g o vs) := by
  induction vs with
  | nil => intro o w h; exact h
  | cons v r ih => intro o w h; exact ih (o + 1) _ (h.set_ (.inl hg) o none v)
theorem But.keep (h : But S w w') {g : Nat} {t : TypeId} {cs : Array Value} (hb : Bk w g t cs) (hg : ¬ S g) : Bk w' g t cs := (h.block g hb.lt hg).trans hb
theorem But.below (h : But S w w') {B : Nat} (hB : B ≤ w.heap.size) (hS : ∀ k, S k → B ≤ k) : Below B w w' :=
  ⟨h.os, h.tape, h.output, h.size, fun k hk => h.block k (by omega) (fun hs => by have := hS k hs; omega)⟩
theorem But.cell (h : But S w w') {p : Addr} (hp : p.block < w.heap.size) (hn : ¬ S p.block) : w'.cell? p = w.cell? p := World.cell?_of_block (w := w) (h.block p.block hp hn)
theorem But.mono (h : But S w w') (hs : ∀ k, k < w.heap.size → S k → S' k) : But S' w w' := ⟨h.os, h.tape, h.output, h.size, fun k hk hn => h.block k hk (fun hc => hn (hs k hk hc))⟩
end
/-- The block in which a slice lies. -/
def slb (v : Value) (k : Nat) : Prop := ∃ a n c, v = .slice (some a) n c ∧ a.block = k
theorem slb_none (n c k : Nat) : ¬ slb (.slice none n c) k := by
  rintro ⟨o, n', c', e, _⟩
  cases e
theorem slb_some {b o n c k : Nat} (h : slb (.slice (some ⟨b, o, none⟩) n c) k) : k = b := by
  obtain ⟨o', n', c', e, e2⟩ := h
  cases e
  exact e2.symm
theorem slb_mk (b o n c : Nat) : slb (.slice (some ⟨b, o, none⟩) n c) b := ⟨_, _, _, rfl, rfl⟩
theorem wp_any {e : Code} {Q : Exit → Act → World → Prop} {a : Act} {w : World} {P : Program} (R : World → Prop) (hR : R w) (h : ∀ W, R W → Code.wp P e Q a W) : Code.wp P e Q a w := h w hR
/-- A kind of elements: its type, the slices' type, how many cells one has, and which. -/
structure RowT (α : Type) where
  e : TypeId
  t : TypeId
  k : Nat
  by_ : Nat
  c : α → List Value
  z : α
structure RowT.Ok {α : Type} (R : RowT α) : Prop where
  ht : Try.prog.underlying R.t = some (.slice R.e)
  info : ∃ i v, Try.prog.info? R.e = some i ∧ i.zero = some v ∧ i.size = R.k ∧ i.bytes = R.by_ ∧ v.cells = (R.c R.z).toArray
  len : ∀ x, (R.c x).length = R.k
  one : ∀ x, ∀ v ∈ R.c x, v.oneCell' = true
  pos : 0 < R.k
  bys : R.by_ ≤ 4096
theorem rowFar {w : World} {g b : Nat} {t : TypeId} {cs : Array Value} (h : Bk w g t cs) (hg : g ≠ b) : ∀ (l : List Value) (o : Nat), Bk (w.setCells b o l) g t cs := by
  intro l
  induction l generalizing w with
  | nil => intro o; exact h
  | cons v r ih => intro o; exact ih (h.far hg v) (o + 1)
theorem Bk.type_eq {w : World} {g : Nat} {t u : TypeId} {cs ds : Array Value} (h : Bk w g t cs) (k : Bk w g u ds) : t = u := by
  have e := Eq.trans (Eq.symm h) k
  simp at e
  exact e.2
section
variable {α : Type} {R : RowT α}
def RowT.flat (R : RowT α) (L : List α) : List Value := L.flatMap R.c
theorem RowT.Ok.flat_len (h : R.Ok) (L : List α) : (R.flat L).length = L.length * R.k := by
  unfold RowT.flat
  induction L with
  | nil => simp
  | cons x r ih =>
    rw [List.flatMap_cons, List.length_append, h.len, ih, List.length_cons, Nat.succ_mul]
    omega
theorem flat_app (L M : List α) : R.flat (L ++ M) = R.flat L ++ R.flat M := by unfold RowT.flat; rw [List.flatMap_append]
theorem RowT.Ok.flat_get (h : R.Ok) (L : List α) (i j : Nat) (x : α) (hi : L[i]? = some x) (hj : j < R.k) : (R.flat L)[i * R.k + j]? = (R.c x)[j]? := by
  unfold RowT.flat
  induction L generalizing i with
  | nil => cases hi
  | cons y r ih =>
    have hy := h.len y
    cases i with
    | zero =>
      obtain rfl : y = x := by simpa using hi
      rw [List.flatMap_cons, Nat.zero_mul, Nat.zero_add, List.getElem?_append_left (by omega)]
    | succ i =>
      rw [List.flatMap_cons, List.getElem?_append_right (by rw [hy, Nat.succ_mul]; omega), hy, show (i + 1) * R.k + j - R.k = i * R.k + j by rw [Nat.succ_mul]; omega]
      exact ih i (by simpa using hi)
theorem RowT.Ok.flat_one (h : R.Ok) (L : List α) : ∀ v ∈ R.flat L, v.oneCell' = true := by
  intro v hv
  unfold RowT.flat at hv
  obtain ⟨x, _, hx⟩ := List.mem_flatMap.1 hv
  exact h.one x v hx
theorem rowr_below {C : Nat} {w w' : World} {b o : Nat} {cs : List Value} (h : w.rangeAt b o cs) (hb : Below C w w') (hC : b < C) : w'.rangeAt b o cs := fun j v hv => (hb.cell (p := ⟨b, o + j, none⟩) hC).trans (h j v hv)
/-- A slice whose elements are these, in a block below B. -/
def RowV (R : RowT α) (w : World) (B : Nat) (v : Value) (L : List α) : Prop := ∃ s cap, v = .slice s L.length cap ∧ L.length ≤ cap ∧ cap < 9223372036854775808 ∧
  (L ≠ [] → ∃ b o, s = some ⟨b, o, none⟩ ∧ b < B ∧ ∀ i x, L[i]? = some x → w.rangeAt b (o + i * R.k) (R.c x))
theorem RowV.keep {w w' : World} {B : Nat} {v : Value} {L : List α} (h : RowV R w B v L) {C : Nat} (hb : Below C w w') (hC : B ≤ C) : RowV R w' B v L := by
  obtain ⟨s, cap, rfl, h1, h2, h4⟩ := h
  refine ⟨s, cap, rfl, h1, h2, fun hne => ?_⟩
  obtain ⟨b, o, e, hb', hc⟩ := h4 hne
  exact ⟨b, o, e, hb', fun i x hx => rowr_below (hc i x hx) hb (by omega)⟩
theorem RowV.mono {w : World} {B C : Nat} {v : Value} {L : List α} (h : RowV R w B v L) (hC : B ≤ C) : RowV R w C v L := by
  obtain ⟨s, cap, rfl, h1, h2, h4⟩ := h
  refine ⟨s, cap, rfl, h1, h2, fun hne => ?_⟩
  obtain ⟨b, o, e, hb', hc⟩ := h4 hne
  exact ⟨b, o, e, by omega, hc⟩
theorem RowV.slice {w : World} {B : Nat} {v : Value} {L : List α} (h : RowV R w B v L) : ∃ s c, v = .slice s L.length c := by
  obtain ⟨s, cap, rfl, _⟩ := h
  exact ⟨s, cap, rfl⟩
theorem RowV.at_ {w : World} {B n c : Nat} {s : Option Addr} {L : List α} (h : RowV R w B (.slice s n c) L) (hne : L ≠ []) : ∃ b o, s = some ⟨b, o, none⟩ ∧ b < B ∧ n = L.length ∧ ∀ i x, L[i]? = some x → w.rangeAt b (o + i * R.k) (R.c x) := by
  obtain ⟨s', cap, e, h1, h2, h4⟩ := h
  cases e
  obtain ⟨b, o, e, hb, hc⟩ := h4 hne
  exact ⟨b, o, e, hb, rfl, hc⟩
/-- A slice of the call's own, of just these elements. -/
def MineR (R : RowT α) (W : World) (lo : Nat) (v : Value) (L : List α) : Prop := (v = .slice none 0 0 ∧ L = []) ∨
  ∃ T cap z, v = .slice (some ⟨T, 0, none⟩) L.length cap ∧ cap = L.length + z ∧ cap < 9223372036854775808 ∧ lo ≤ T ∧ Bk W T R.e (R.flat (L ++ List.replicate z R.z)).toArray
theorem MineR.keep {W W' : World} {lo : Nat} {v : Value} {L : List α} (h : MineR R W lo v L) (hb : Below W.heap.size W W') : MineR R W' lo v L := by
  rcases h with h | ⟨T, cap, z, e, hc, hc2, hT, K⟩
  · exact .inl h
  · exact .inr ⟨T, cap, z, e, hc, hc2, hT, K.keep hb⟩
theorem MineR.slice {W : World} {lo : Nat} {v : Value} {L : List α} (h : MineR R W lo v L) : ∃ s c, v = .slice s L.length c := by
  rcases h with ⟨rfl, rfl⟩ | ⟨T, cap, z, rfl, _⟩
  · exact ⟨none, 0, rfl⟩
  · exact ⟨_, _, rfl⟩
theorem rowr_row (h : R.Ok) {W : World} {T : Nat} {t : TypeId} {L M : List α} (K : Bk W T t (R.flat (L ++ M)).toArray) : ∀ i x, L[i]? = some x → W.rangeAt T (0 + i * R.k) (R.c x) := by
  intro i x hx j v hv
  have hj : j < R.k := by
    have := (List.getElem?_eq_some_iff.1 hv).1
    rw [h.len] at this
    exact this
  have hi : (L ++ M)[i]? = some x := by rw [List.getElem?_append_left (List.getElem?_eq_some_iff.1 hx).1]; exact hx
  rw [Nat.zero_add, K.cell, List.getElem?_toArray, h.flat_get _ i j x hi hj]
  exact hv
theorem MineR.rows (h : R.Ok) {W : World} {lo : Nat} {v : Value} {L : List α} (hm : MineR R W lo v L) : RowV R W W.heap.size v L := by
  rcases hm with ⟨rfl, rfl⟩ | ⟨T, cap, z, rfl, hc, hc2, hT, K⟩
  · exact ⟨none, 0, rfl, Nat.le_refl _, by omega, fun h => absurd rfl h⟩
  · exact ⟨_, cap, rfl, by omega, hc2, fun _ => ⟨T, 0, rfl, K.lt, rowr_row h K⟩⟩
/-- A row of elements, just built. -/
theorem row_built (h : R.Ok) {w : World} {g n : Nat} {t : TypeId} {L : List α} (hg : Bk w g t (R.flat L).toArray) (hn : n = L.length) (hc : n < 9223372036854775808) : RowV R w w.heap.size (.slice (some ⟨g, 0, none⟩) n n) L := by
  subst hn
  have K : Bk w g t (R.flat (L ++ [])).toArray := by rw [List.append_nil]; exact hg
  exact ⟨_, _, rfl, Nat.le_refl _, hc, fun _ => ⟨g, 0, rfl, hg.lt, rowr_row h K⟩⟩
theorem zero_rows (h : R.Ok) (v : Value) (hv : v.cells = (R.c R.z).toArray) (n : Nat) : Builtin.zeroCells v.cells n = (R.flat (List.replicate n R.z)).toArray := by
  have hs : (R.c R.z).toArray.size = R.k := by rw [List.size_toArray, h.len]
  rw [hv]
  unfold Builtin.zeroCells
  rw [hs]
  apply Array.ext_getElem?
  intro i
  rw [Array.getElem?_map, Array.getElem?_range, List.getElem?_toArray]
  have hl := h.flat_len (List.replicate n R.z)
  rw [List.length_replicate] at hl
  by_cases hi : i < n * R.k
  · have hp := h.pos
    have hq : i / R.k < n := by rw [Nat.div_lt_iff_lt_mul hp]; exact hi
    have hm := Nat.mod_lt i hp
    have e := h.flat_get (List.replicate n R.z) (i / R.k) (i % R.k) R.z (by rw [List.getElem?_replicate, if_pos hq]) hm
    rw [show i / R.k * R.k + i % R.k = i by rw [Nat.mul_comm]; exact Nat.div_add_mod _ _] at e
    rw [if_pos hi, e, Option.map_some, getElem!_def, List.getElem?_toArray, List.getElem?_eq_getElem (by rw [h.len]; exact hm)]
  · rw [if_neg hi, List.getElem?_eq_none (by omega)]
    rfl
theorem row_size (h : R.Ok) (x : α) : (Try.prog.info? R.e).map (·.size) = some (R.c x).length := by
  obtain ⟨i, v, h1, h2, h3, _⟩ := h.info
  rw [h1, h.len x]
  exact congrArg some h3
theorem row_at {w : World} {B : Nat} {s : Option Addr} {n c : Nat} {L : List α} (h : RowV R w B (.slice s n c) L) : ∀ k, k < L.length → ∃ x b o, L[k]? = some x ∧ s = some ⟨b, o, none⟩ ∧ b < B ∧ w.rangeAt b (o + k * R.k) (R.c x) := by
  intro k hk
  obtain ⟨b, o, e, hb, _, hc⟩ := h.at_ (fun e => by rw [e] at hk; simp at hk)
  exact ⟨_, b, o, List.getElem?_eq_getElem hk, e, hb, hc k _ (List.getElem?_eq_getElem hk)⟩
theorem flat_sing (x : α) : R.flat [x] = R.c x := by simp [RowT.flat]
theorem one_rowR (h : R.Ok) {w : World} {g : Nat} {t : TypeId} {x : α} (hg : Bk w g t (R.c x).toArray) : RowV R w w.heap.size (.slice (some ⟨g, 0, none⟩) 1 1) [x] := row_built (n := 1) h (by rw [flat_sing]; exact hg) rfl (by decide)
theorem MineR.but_ {W W' : World} {lo : Nat} {S : Nat → Prop} {v : Value} {xs : List α} (h : MineR R W lo v xs) (hb : But S W W') (hs : ∀ k, slb v k → ¬ S k) : MineR R W' lo v xs := by
  rcases h with h | ⟨T, cap, z, e, hc, hc2, hT, K⟩
  · exact .inl h
  · exact .inr ⟨T, cap, z, e, hc, hc2, hT, hb.keep K (hs T ⟨_, _, _, e, rfl⟩)⟩
theorem MineR.slb_lo {W : World} {lo : Nat} {v : Value} {xs : List α} (h : MineR R W lo v xs) {k : Nat} (hk : slb v k) : lo ≤ k ∧ k < W.heap.size ∧ ∃ ys, Bk W k R.e ys := by
  rcases h with ⟨rfl, _⟩ | ⟨T, cap, z, rfl, _, _, hT, K⟩
  · exact absurd hk (slb_none _ _ _)
  · have := slb_some hk
    subst this
    exact ⟨hT, K.lt, _, K⟩
theorem MineR.apart {W : World} {lo g : Nat} {v : Value} {xs : List α} {t : TypeId} {cs : Array Value} (h : MineR R W lo v xs) (hg : Bk W g t cs) (ht : t ≠ R.e) : ¬ slb v g := by
  intro hs
  obtain ⟨_, _, ys, K⟩ := h.slb_lo hs
  exact ht (Bk.type_eq hg K)
/-- Elements, onto a slice of the call's own. -/
theorem appR5 (h : R.Ok) (xs ys : List α) (v u : Value) (lo : Nat) (w : World) (hm : MineR R w lo v xs) (hlo : lo ≤ w.heap.size) (hu : RowV R w w.heap.size u ys) (hlt : xs.length + ys.length ≤ 1048576) :
    ∃ v' W, (Builtin.append_ #[R.t, R.t] R.t #[v, u]).run Try.prog w = .ok v' W ∧ MineR R W lo v' (xs ++ ys) ∧ But (slb v) w W ∧ (∀ k, slb v' k → slb v k ∨ w.heap.size ≤ k) ∧ RowV R W W.heap.size v xs := by
  have hm0 := hm
  obtain ⟨i, zv, hi, hz, hs, hby, hzc⟩ := h.info
  obtain ⟨s, cap, rfl, h1, h2, h4⟩ := hu
  have fx := h.flat_len xs
  have fy := h.flat_len ys
  by_cases h0 : ys = []
  · subst h0
    have hsrc : Src Try.prog i.size R.t (.slice s 0 cap) 0 [] w := by
      cases s with
      | none => exact Src.ofNil w h.ht cap
      | some a => exact Src.ofSlice w h.ht a 0 cap [] (by simp) (by simp) (by simp)
    rw [List.append_nil]
    rcases hm with ⟨rfl, rfl⟩ | ⟨T, c, z, rfl, hc, hc2, hT, K⟩
    · exact ⟨_, w, run_append_nothing w _ _ _ _ i h.ht hi _ 0 0 (Nat.le_refl _) _ hsrc, .inl ⟨rfl, rfl⟩, But.refl _ _, fun k h => .inl h, hm0.rows h⟩
    · exact ⟨_, w, run_append_nothing w _ _ _ _ i h.ht hi _ xs.length c (by omega) _ hsrc, .inr ⟨T, c, z, rfl, hc, hc2, hT, K⟩, But.refl _ _, fun k h => .inl h, hm0.rows h⟩
  · obtain ⟨b, o, rfl, hb, hc⟩ := h4 h0
    have hpos : 0 < ys.length := by
      rcases Nat.eq_zero_or_pos ys.length with h | h
      · exact absurd (List.eq_nil_of_length_eq_zero h) h0
      · exact h
    have hp := h.pos
    have hsrc : Src Try.prog i.size R.t (.slice (some ⟨b, o, none⟩) ys.length cap) ys.length (R.flat ys) w :=
      Src.ofSlice w h.ht _ _ _ _ (by rw [hs, fy]) (fun j u hu => by
        have hjl : j < ys.length * R.k := by
          rcases Nat.lt_or_ge j (ys.length * R.k) with h | h
          · exact h
          · rw [List.getElem?_eq_none (by omega)] at hu; cases hu
        have hq : j / R.k < ys.length := by rw [Nat.div_lt_iff_lt_mul hp]; exact hjl
        have hx := List.getElem?_eq_getElem hq
        have hr := Nat.mod_lt j hp
        have ej : j / R.k * R.k + j % R.k = j := by rw [Nat.mul_comm]; exact Nat.div_add_mod _ _
        have e1 := h.flat_get ys (j / R.k) (j % R.k) _ hx hr
        have e2 := hc (j / R.k) _ hx (j % R.k) u (by rw [← e1, ej]; exact hu)
        rw [Go.WideShapes.add_plain]
        rw [show o + j / R.k * R.k + j % R.k = o + j by rw [Nat.add_assoc, ej]] at e2
        exact e2) (h.flat_one ys)
    have grown : ∀ (sb : Option Addr) (c : Nat), RowV R w w.heap.size (.slice sb xs.length c) xs → c < xs.length + ys.length → (Builtin.firstCells i.size xs.length (.slice sb xs.length c)).run Try.prog w.drew = .ok (R.flat xs).toArray w.drew →
        ∃ v' W, (Builtin.append_ #[R.t, R.t] R.t #[.slice sb xs.length c, .slice (some ⟨b, o, none⟩) ys.length cap]).run Try.prog w = .ok v' W ∧ MineR R W lo v' (xs ++ ys) ∧ But (slb (.slice sb xs.length c)) w W ∧ (∀ k, slb v' k → slb (.slice sb xs.length c) k ∨ w.heap.size ≤ k) ∧ RowV R W W.heap.size (.slice sb xs.length c) xs := by
      intro sb c hrv hcl hold
      have hge := grownCap_ge w (xs.length + ys.length) c R.e
      have hle := grownCap_le_maxLen w (xs.length + ys.length) c R.e (by unfold maxLen; omega)
      unfold maxLen at hle
      have hbys := h.bys
      have hrun := run_append_grow_src w R.t R.t R.t R.e i _ h.ht hi hz sb xs.length c _ hold _ ys.length _ hsrc hcl (by omega) (growslice_fits_wide hcl (by
        rw [hby]
        refine Nat.le_trans (Nat.mul_le_mul (show xs.length + ys.length + (xs.length + ys.length) / 4 + 192 ≤ 2000000 by omega) hbys) (by omega)))
      rw [zero_rows h zv hzc] at hrun
      refine ⟨_, _, hrun, .inr ⟨w.heap.size, grownCap w (xs.length + ys.length) c R.e, grownCap w (xs.length + ys.length) c R.e - (xs.length + ys.length), by rw [List.length_append], by rw [List.length_append]; omega, by omega, hlo, ?_⟩, ((But.refl _ w).drew.alloc _), fun k h => .inr (by rw [slb_some h]; exact Nat.le_refl _), (hrv.keep ((Below.refl w.heap.size w).drew.alloc (Nat.le_refl _) _) (Nat.le_refl _)).mono ((Below.refl w.heap.size w).drew.alloc (Nat.le_refl _) _).size⟩
      refine Eq.trans (heap_alloc_new w.drew _) ?_
      simp [flat_app]
    rcases hm with ⟨rfl, rfl⟩ | ⟨T, c, z, rfl, hcz, hc2, hT, K⟩
    · exact grown none 0 (hm0.rows h) (by simpa using hpos) (run_firstCells_none w.drew _ 0 0 0)
    · rcases Nat.lt_or_ge c (xs.length + ys.length) with hg | hr
      · refine grown _ c (hm0.rows h) hg (run_firstCells_some w.drew _ _ _ _ _ _ (by rw [hs, fx]) (fun j u hu => ?_))
        rw [Go.WideShapes.add_plain, Nat.zero_add]
        refine (K.drew.cell j).trans ?_
        rw [List.getElem?_toArray, flat_app, List.getElem?_append_left (List.getElem?_eq_some_iff.1 hu).1]
        exact hu
      · have hzl := h.flat_len (xs ++ List.replicate z R.z)
        rw [List.length_append, List.length_replicate] at hzl
        have hroom : (xs.length + ys.length) * R.k ≤ (xs.length + z) * R.k := Nat.mul_le_mul_right _ (by omega)
        rw [Nat.add_mul] at hroom
        have hrun := run_append_room_src w R.t R.t R.t R.e i h.ht hi T 0 xs.length c _ ys.length _ hsrc hr
          (fun j hj => by
            rw [fy] at hj
            rw [hs, Nat.zero_add, K.cell, List.getElem?_toArray, List.getElem?_eq_getElem (by rw [hzl]; omega)]; rfl)
          (fun j hj => by rw [hs, Nat.zero_add]; exact K.frozen _)
        rw [hs, Nat.zero_add] at hrun
        have hK : Bk (w.setCells T (xs.length * R.k) (R.flat ys)) T R.e (R.flat ((xs ++ ys) ++ List.replicate (z - ys.length) R.z)).toArray := by
          have e := Bk.ovr_ (w := w) (R.flat ys) (xs.length * R.k) w _ K
          have e2 : ovr (R.flat (xs ++ List.replicate z R.z)).toArray (xs.length * R.k) (R.flat ys) = (R.flat ((xs ++ ys) ++ List.replicate (z - ys.length) R.z)).toArray := by
            apply Array.ext_getElem?
            intro q
            rw [ovr_get, List.size_toArray, hzl, fy, List.getElem?_toArray, List.getElem?_toArray, flat_app, flat_app, flat_app]
            have hsp : List.replicate z R.z = List.replicate ys.length R.z ++ List.replicate (z - ys.length) R.z := by rw [List.replicate_append_replicate, show ys.length + (z - ys.length) = z by omega]
            have hry := h.flat_len (List.replicate ys.length R.z)
            rw [List.length_replicate] at hry
            by_cases q1 : q < xs.length * R.k
            · rw [if_neg (by omega), List.getElem?_append_left (by omega), List.append_assoc, List.getElem?_append_left (by omega)]
            · by_cases q2 : q < xs.length * R.k + ys.length * R.k
              · rw [if_pos (by omega), List.append_assoc, List.getElem?_append_right (by omega), List.getElem?_append_left (by omega), fx]
              · rw [if_neg (by omega), List.getElem?_append_right (by omega), hsp, flat_app, List.getElem?_append_right (by omega), List.append_assoc, List.getElem?_append_right (by omega), List.getElem?_append_right (by omega), fx, fy, hry]
          rw [e2] at e
          exact e
        refine ⟨_, _, hrun, .inr ⟨T, c, z - ys.length, by rw [List.length_append], by rw [List.length_append]; omega, hc2, hT, hK⟩, But.setCells (slb_mk _ _ _ _) _ _ _ (But.refl _ _), fun k h => .inl (by rw [slb_some h]; exact slb_mk _ _ _ _),
          ⟨some ⟨T, 0, none⟩, c, rfl, by omega, hc2, fun _ => ⟨T, 0, rfl, hK.lt, rowr_row h (L := xs) (M := ys ++ List.replicate (z - ys.length) R.z) (by rw [← List.append_assoc]; exact hK)⟩⟩⟩
theorem appR (h : R.Ok) (xs ys : List α) (v u : Value) (lo : Nat) (w : World) (hm : MineR R w lo v xs) (hlo : lo ≤ w.heap.size) (hu : RowV R w w.heap.size u ys) (hlt : xs.length + ys.length ≤ 1048576) :
    ∃ v' W, (Builtin.append_ #[R.t, R.t] R.t #[v, u]).run Try.prog w = .ok v' W ∧ MineR R W lo v' (xs ++ ys) ∧ But (slb v) w W ∧ (∀ k, slb v' k → slb v k ∨ w.heap.size ≤ k) := by
  obtain ⟨v', W, h1, h2, h3, h4, _⟩ := appR5 h xs ys v u lo w hm hlo hu hlt
  exact ⟨v', W, h1, h2, h3, h4⟩
end
end Go.Proofs.Ytcedljfdnbenoaa
