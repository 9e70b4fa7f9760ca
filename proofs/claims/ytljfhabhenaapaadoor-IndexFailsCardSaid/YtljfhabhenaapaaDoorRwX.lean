/-
  Rows of wide elements: an append, and which blocks may have turned.
-/
import Derived.Test.YtljfhabhenaapaaDoorBytZ
namespace Go.Proofs.YtljfhabhenaapaaDoor
open Go.ChangeShapes Go.WideShapes Go.ChangeAt Go.RowKit
set_option linter.unusedVariables false
set_option linter.unusedSimpArgs false
set_option maxRecDepth 100000
section
variable {S S' : Nat → Prop} {a b w w' : World}
/-- Of the blocks that were there just these may have turned. -/
structure But (S : Nat → Prop) (w w' : World) : Prop where
  os : w'.os = w.os
  tape : w'.tape = w.tape
  output : w'.output = w.output
  size : w.heap.size ≤ w'.heap.size
  block : ∀ k, k < w.heap.size → ¬ S k → w'.heap[k]? = w.heap[k]?
section
variable {S S' : Nat → Prop} {a b w w' : World}
theorem But.refl (S : Nat → Prop) (w : World) : But S w w := ⟨rfl, rfl, rfl, Nat.le_refl _, fun _ _ _ => rfl⟩
theorem But.of (h : Below w.heap.size w w') : But S w w' := ⟨h.os, h.tape, h.output, h.size, fun k hk _ => h.block k hk⟩
theorem But.trans (h : But S a b) (k : But S' b w) (hs : ∀ i, i < a.heap.size → S' i → S i) : But S a w :=
  ⟨k.os.trans h.os, k.tape.trans h.tape, k.output.trans h.output, Nat.le_trans h.size k.size, fun i hi hn => (k.block i (Nat.lt_of_lt_of_le hi h.size) (fun hc => hn (hs i hi hc))).trans (h.block i hi hn)⟩
theorem But.step (h : But S a w) (k : Below w.heap.size w w') : But S a w' := h.trans (But.of (S := S) k) (fun _ _ h => h)
theorem But.drew (h : But S a w) : But S a w.drew := ⟨h.os, h.tape, h.output, h.size, h.block⟩
theorem But.alloc (h : But S a w) (o : Obj) : But S a (w.alloc o) := h.step ((Below.refl _ _).alloc (Nat.le_refl _) _)
theorem But.set_ (h : But S a w) {g : Nat} (hg : S g ∨ a.heap.size ≤ g) (i : Nat) (s : Option Nat) (u : Value) : But S a (w.setCell ⟨g, i, none⟩ u) :=
  ⟨h.os, h.tape, h.output, by simpa [World.setCell] using h.size, fun k hk hn => (Below.heap_setCell _ _ _ _ (by
    intro e
    have e : k = g := e
    subst e
    rcases hg with hg | hg
    · exact hn hg
    · omega)).trans (h.block k hk hn)⟩
theorem But.setCells {g : Nat} (hg : S g) (vs : List Value) : ∀ (o : Nat) (w : World), But S a w → But S a (w.setCells g o vs) := by
  induction vs with
  | nil => intro o w h; exact h
  | cons v r ih => intro o w h; exact ih (o + 1) _ (h.set_ (.inl hg) o none v)
theorem But.keep (h : But S w w') {g : Nat} {t : TypeId} {cs : Array Value} (hb : Bk w g t cs) (hg : ¬ S g) : Bk w' g t cs := (h.block g hb.lt hg).trans hb
theorem But.below (h : But S w w') {B : Nat} (hB : B ≤ w.heap.size) (hS : ∀ k, S k → B ≤ k) : Below B w w' :=
  ⟨h.os, h.tape, h.output, h.size, fun k hk => h.block k (by omega) (fun hs => by have := hS k hs; omega)⟩
theorem But.cell (h : But S w w') {p : Addr} (hp : p.block < w.heap.size) (hn : ¬ S p.block) : w'.cell? p = w.cell? p := World.cell?_of_block (w := w) (h.block p.block hp hn)
theorem But.mono (h : But S w w') (hs : ∀ k, k < w.heap.size → S k → S' k) : But S' w w' := ⟨h.os, h.tape, h.output, h.size, fun k hk hn => h.block k hk (fun hc => hn (hs k hk hc))⟩
end
/-- The block in which a slice lies. -/
def slb (v : Value) (k : Nat) : Prop := ∃ a n c, v = .slice (some a) n c ∧ a.block = k
theorem slb_none (n c k : Nat) : ¬ slb (.slice none n c) k := by
  rintro ⟨o, n', c', e, _⟩
  cases e
theorem slb_some {b o n c k : Nat} (h : slb (.slice (some ⟨b, o, none⟩) n c) k) : k = b := by
  obtain ⟨o', n', c', e, e2⟩ := h
  cases e
  exact e2.symm
theorem slb_mk (b o n c : Nat) : slb (.slice (some ⟨b, o, none⟩) n c) b := ⟨_, _, _, rfl, rfl⟩
end
section
variable {α : Type} {R : RowT α}
theorem MineR.but_ {W W' : World} {lo : Nat} {S : Nat → Prop} {v : Value} {xs : List α} (h : MineR R W lo v xs) (hb : But S W W') (hs : ∀ k, slb v k → ¬ S k) : MineR R W' lo v xs := by
  rcases h with h | ⟨T, cap, z, e, hc, hc2, hT, K⟩
  · exact .inl h
  · exact .inr ⟨T, cap, z, e, hc, hc2, hT, hb.keep K (hs T ⟨_, _, _, e, rfl⟩)⟩
theorem MineR.slb_lo {W : World} {lo : Nat} {v : Value} {xs : List α} (h : MineR R W lo v xs) {k : Nat} (hk : slb v k) : lo ≤ k ∧ k < W.heap.size ∧ ∃ ys, Bk W k R.e ys := by
  rcases h with ⟨rfl, _⟩ | ⟨T, cap, z, rfl, _, _, hT, K⟩
  · exact absurd hk (slb_none _ _ _)
  · have := slb_some hk
    subst this
    exact ⟨hT, K.lt, _, K⟩
theorem MineR.apart {W : World} {lo g : Nat} {v : Value} {xs : List α} {t : TypeId} {cs : Array Value} (h : MineR R W lo v xs) (hg : Bk W g t cs) (ht : t ≠ R.e) : ¬ slb v g := by
  intro hs
  obtain ⟨_, _, ys, K⟩ := h.slb_lo hs
  exact ht (Bk.type_eq hg K)
/-- Elements, onto a slice of the call's own. -/
theorem appB5 (h : R.Ok) (xs ys : List α) (v u : Value) (lo : Nat) (w : World) (hm : MineR R w lo v xs) (hlo : lo ≤ w.heap.size) (hu : RowV R w w.heap.size u ys) (hlt : xs.length + ys.length ≤ 1500000) :
    ∃ v' W, (Builtin.append_ #[R.t, R.t] R.t #[v, u]).run Tryd.prog w = .ok v' W ∧ MineR R W lo v' (xs ++ ys) ∧ But (slb v) w W ∧ (∀ k, slb v' k → slb v k ∨ w.heap.size ≤ k) ∧ RowV R W W.heap.size v xs := by
  have hm0 := hm
  obtain ⟨i, zv, hi, hz, hs, hby, hzc⟩ := h.info
  obtain ⟨s, cap, rfl, h1, h2, h4⟩ := hu
  have fx := h.flat_len xs
  have fy := h.flat_len ys
  by_cases h0 : ys = []
  · subst h0
    have hsrc : Src Tryd.prog i.size R.t (.slice s 0 cap) 0 [] w := by
      cases s with
      | none => exact Src.ofNil w h.ht cap
      | some a => exact Src.ofSlice w h.ht a 0 cap [] (by simp) (by simp) (by simp)
    rw [List.append_nil]
    rcases hm with ⟨rfl, rfl⟩ | ⟨T, c, z, rfl, hc, hc2, hT, K⟩
    · exact ⟨_, w, run_append_nothing w _ _ _ _ i h.ht hi _ 0 0 (Nat.le_refl _) _ hsrc, .inl ⟨rfl, rfl⟩, But.refl _ _, fun k h => .inl h, hm0.rows h⟩
    · exact ⟨_, w, run_append_nothing w _ _ _ _ i h.ht hi _ xs.length c (by omega) _ hsrc, .inr ⟨T, c, z, rfl, hc, hc2, hT, K⟩, But.refl _ _, fun k h => .inl h, hm0.rows h⟩
  · obtain ⟨b, o, rfl, hb, hc⟩ := h4 h0
    have hpos : 0 < ys.length := by
      rcases Nat.eq_zero_or_pos ys.length with h | h
      · exact absurd (List.eq_nil_of_length_eq_zero h) h0
      · exact h
    have hp := h.pos
    have hsrc : Src Tryd.prog i.size R.t (.slice (some ⟨b, o, none⟩) ys.length cap) ys.length (R.flat ys) w :=
      Src.ofSlice w h.ht _ _ _ _ (by rw [hs, fy]) (fun j u hu => by
        have hjl : j < ys.length * R.k := by
          rcases Nat.lt_or_ge j (ys.length * R.k) with h | h
          · exact h
          · rw [List.getElem?_eq_none (by omega)] at hu; cases hu
        have hq : j / R.k < ys.length := by rw [Nat.div_lt_iff_lt_mul hp]; exact hjl
        have hx := List.getElem?_eq_getElem hq
        have hr := Nat.mod_lt j hp
        have ej : j / R.k * R.k + j % R.k = j := by rw [Nat.mul_comm]; exact Nat.div_add_mod _ _
        have e1 := h.flat_get ys (j / R.k) (j % R.k) _ hx hr
        have e2 := hc (j / R.k) _ hx (j % R.k) u (by rw [← e1, ej]; exact hu)
        rw [Go.WideShapes.add_plain]
        rw [show o + j / R.k * R.k + j % R.k = o + j by rw [Nat.add_assoc, ej]] at e2
        exact e2) (h.flat_one ys)
    have grown : ∀ (sb : Option Addr) (c : Nat), RowV R w w.heap.size (.slice sb xs.length c) xs → c < xs.length + ys.length → (Builtin.firstCells i.size xs.length (.slice sb xs.length c)).run Tryd.prog w.drew = .ok (R.flat xs).toArray w.drew →
        ∃ v' W, (Builtin.append_ #[R.t, R.t] R.t #[.slice sb xs.length c, .slice (some ⟨b, o, none⟩) ys.length cap]).run Tryd.prog w = .ok v' W ∧ MineR R W lo v' (xs ++ ys) ∧ But (slb (.slice sb xs.length c)) w W ∧ (∀ k, slb v' k → slb (.slice sb xs.length c) k ∨ w.heap.size ≤ k) ∧ RowV R W W.heap.size (.slice sb xs.length c) xs := by
      intro sb c hrv hcl hold
      have hge := grownCap_ge w (xs.length + ys.length) c R.e
      have hle := grownCap_le_maxLen w (xs.length + ys.length) c R.e (by unfold maxLen; omega)
      unfold maxLen at hle
      have hbys := h.bys
      have hrun := run_append_grow_src w R.t R.t R.t R.e i _ h.ht hi hz sb xs.length c _ hold _ ys.length _ hsrc hcl (by omega) (growslice_fits_wide hcl (by
        rw [hby]
        refine Nat.le_trans (Nat.mul_le_mul (show xs.length + ys.length + (xs.length + ys.length) / 4 + 192 ≤ 2000000 by omega) hbys) (by omega)))
      rw [zero_rows h zv hzc] at hrun
      refine ⟨_, _, hrun, .inr ⟨w.heap.size, grownCap w (xs.length + ys.length) c R.e, grownCap w (xs.length + ys.length) c R.e - (xs.length + ys.length), by rw [List.length_append], by rw [List.length_append]; omega, by omega, hlo, ?_⟩, ((But.refl _ w).drew.alloc _), fun k h => .inr (by rw [slb_some h]; exact Nat.le_refl _), (hrv.keep ((Below.refl w.heap.size w).drew.alloc (Nat.le_refl _) _) (Nat.le_refl _)).mono ((Below.refl w.heap.size w).drew.alloc (Nat.le_refl _) _).size⟩
      refine Eq.trans (heap_alloc_new w.drew _) ?_
      simp [flat_app]
    rcases hm with ⟨rfl, rfl⟩ | ⟨T, c, z, rfl, hcz, hc2, hT, K⟩
    · exact grown none 0 (hm0.rows h) (by simpa using hpos) (run_firstCells_none w.drew _ 0 0 0)
    · rcases Nat.lt_or_ge c (xs.length + ys.length) with hg | hr
      · refine grown _ c (hm0.rows h) hg (run_firstCells_some w.drew _ _ _ _ _ _ (by rw [hs, fx]) (fun j u hu => ?_))
        rw [Go.WideShapes.add_plain, Nat.zero_add]
        refine (K.drew.cell j).trans ?_
        rw [List.getElem?_toArray, flat_app, List.getElem?_append_left (List.getElem?_eq_some_iff.1 hu).1]
        exact hu
      · have hzl := h.flat_len (xs ++ List.replicate z R.z)
        rw [List.length_append, List.length_replicate] at hzl
        have hroom : (xs.length + ys.length) * R.k ≤ (xs.length + z) * R.k := Nat.mul_le_mul_right _ (by omega)
        rw [Nat.add_mul] at hroom
        have hrun := run_append_room_src w R.t R.t R.t R.e i h.ht hi T 0 xs.length c _ ys.length _ hsrc hr
          (fun j hj => by
            rw [fy] at hj
            rw [hs, Nat.zero_add, K.cell, List.getElem?_toArray, List.getElem?_eq_getElem (by rw [hzl]; omega)]; rfl)
          (fun j hj => by rw [hs, Nat.zero_add]; exact K.frozen _)
        rw [hs, Nat.zero_add] at hrun
        have hK : Bk (w.setCells T (xs.length * R.k) (R.flat ys)) T R.e (R.flat ((xs ++ ys) ++ List.replicate (z - ys.length) R.z)).toArray := by
          have e := Bk.ovr_ (w := w) (R.flat ys) (xs.length * R.k) w _ K
          have e2 : ovr (R.flat (xs ++ List.replicate z R.z)).toArray (xs.length * R.k) (R.flat ys) = (R.flat ((xs ++ ys) ++ List.replicate (z - ys.length) R.z)).toArray := by
            apply Array.ext_getElem?
            intro q
            rw [ovr_get, List.size_toArray, hzl, fy, List.getElem?_toArray, List.getElem?_toArray, flat_app, flat_app, flat_app]
            have hsp : List.replicate z R.z = List.replicate ys.length R.z ++ List.replicate (z - ys.length) R.z := by rw [List.replicate_append_replicate, show ys.length + (z - ys.length) = z by omega]
            have hry := h.flat_len (List.replicate ys.length R.z)
            rw [List.length_replicate] at hry
            by_cases q1 : q < xs.length * R.k
            · rw [if_neg (by omega), List.getElem?_append_left (by omega), List.append_assoc, List.getElem?_append_left (by omega)]
            · by_cases q2 : q < xs.length * R.k + ys.length * R.k
              · rw [if_pos (by omega), List.append_assoc, List.getElem?_append_right (by omega), List.getElem?_append_left (by omega), fx]
              · rw [if_neg (by omega), List.getElem?_append_right (by omega), hsp, flat_app, List.getElem?_append_right (by omega), List.append_assoc, List.getElem?_append_right (by omega), List.getElem?_append_right (by omega), fx, fy, hry]
          rw [e2] at e
          exact e
        refine ⟨_, _, hrun, .inr ⟨T, c, z - ys.length, by rw [List.length_append], by rw [List.length_append]; omega, hc2, hT, hK⟩, But.setCells (slb_mk _ _ _ _) _ _ _ (But.refl _ _), fun k h => .inl (by rw [slb_some h]; exact slb_mk _ _ _ _),
          ⟨some ⟨T, 0, none⟩, c, rfl, by omega, hc2, fun _ => ⟨T, 0, rfl, hK.lt, rowr_row h (L := xs) (M := ys ++ List.replicate (z - ys.length) R.z) (by rw [← List.append_assoc]; exact hK)⟩⟩⟩
theorem appB (h : R.Ok) (xs ys : List α) (v u : Value) (lo : Nat) (w : World) (hm : MineR R w lo v xs) (hlo : lo ≤ w.heap.size) (hu : RowV R w w.heap.size u ys) (hlt : xs.length + ys.length ≤ 1500000) :
    ∃ v' W, (Builtin.append_ #[R.t, R.t] R.t #[v, u]).run Tryd.prog w = .ok v' W ∧ MineR R W lo v' (xs ++ ys) ∧ But (slb v) w W ∧ (∀ k, slb v' k → slb v k ∨ w.heap.size ≤ k) := by
  obtain ⟨v', W, h1, h2, h3, h4, _⟩ := appB5 h xs ys v u lo w hm hlo hu hlt
  exact ⟨v', W, h1, h2, h3, h4⟩
end
end Go.Proofs.YtljfhabhenaapaaDoor
