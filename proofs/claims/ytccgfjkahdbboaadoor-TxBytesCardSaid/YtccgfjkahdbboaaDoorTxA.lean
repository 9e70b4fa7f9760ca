/-
  The contract of package tx's put.
-/
import Derived.Test.YtccgfjkahdbboaaDoorTxM
import Derived.Deep.MidRow
namespace Go.Proofs.YtccgfjkahdbboaaDoor
open Go.RowKit
set_option linter.unusedVariables false
set_option linter.unusedSimpArgs false
set_option maxRecDepth 100000

theorem cells_store (g : Nat) (l : List Value) (k : Nat) (w : World) (h1 : ∀ v ∈ l, v.oneCell' = true) (hs : l.length = k) (h : w.there g 0 k) : (storeCells ⟨g, 0, none⟩ l).run Tryd.prog w = .ok () (w.setCells g 0 l) := by
  have e := run_storeCells_cells (P := Tryd.prog) g 0 l 0 w (fun j hj => by simpa using (h j (by omega)).1) (fun j hj => by simpa using (h j (by omega)).2) (fun v hv => by
    have := h1 v (by simpa using hv)
    simpa using this)
  simpa using e
/-- A variable that is made, and laid. -/
theorem row_made {α : Type} {R : RowT α} (h : R.Ok) (x : α) (w : World) (Z : Array Value) (t : TypeId) (hZ : Z.size = R.k) : (storeCells ⟨w.heap.size, 0, none⟩ (R.c x)).run Tryd.prog (w.alloc (.cells Z t)) = .ok () ((w.alloc (.cells Z t)).setCells w.heap.size 0 (R.c x)) ∧ Bk ((w.alloc (.cells Z t)).setCells w.heap.size 0 (R.c x)) w.heap.size t (R.c x).toArray ∧ Below w.heap.size w ((w.alloc (.cells Z t)).setCells w.heap.size 0 (R.c x)) := by
  refine ⟨cells_store w.heap.size (R.c x) R.k _ (h.one x) (h.len x) (Bk.there (Bk.new w _ Z) R.k (by rw [hZ]; exact Nat.le_refl _)), ?_, Below.setCells (Nat.le_refl _) _ _ _ ((Below.refl _ _).alloc (Nat.le_refl _) _)⟩
  have h2 : (R.c x).toArray.size = Z.size := by rw [hZ]; exact h.len x
  exact Bk.setAll (xs := (R.c x).toArray) (Bk.new _ _ _) h2
theorem row_size {α : Type} {R : RowT α} (h : R.Ok) (x : α) : (Tryd.prog.info? R.e).map (·.size) = some (R.c x).length := by
  obtain ⟨i, v, h1, h2, h3, _⟩ := h.info
  rw [h1, h.len x]
  exact congrArg some h3
/-- What was written since. -/
structure Ws (w0 : World) (g lo : Nat) (v0 : Value) (W : World) (v : Value) (ys : List Nat) : Prop where
  G : Bk W g 66 #[v]
  M : Mine W lo v ys
  B : But (fun k => k = g ∨ slb v0 k) w0 W
  O : ∀ k, slb v k → slb v0 k ∨ w0.heap.size ≤ k
theorem Ws.refl {w0 : World} {g lo : Nat} {v0 : Value} {ys : List Nat} (G : Bk w0 g 66 #[v0]) (M : Mine w0 lo v0 ys) : Ws w0 g lo v0 w0 v0 ys := ⟨G, M, But.refl _ _, fun _ h => .inl h⟩
theorem Ws.later {w0 W W' : World} {g lo : Nat} {v0 v : Value} {ys : List Nat} (h : Ws w0 g lo v0 W v ys) (hb : Below W.heap.size W W') : Ws w0 g lo v0 W' v ys := ⟨h.G.keep hb, h.M.keep hb, h.B.step hb, h.O⟩
theorem Ws.call {w0 W W' : World} {g lo : Nat} {v0 v : Value} {ys zs : List Nat} {e : Ending} (h : Ws w0 g lo v0 W v ys) (k : Wrote g lo v zs W e W') : e = .returned (.tuple #[]) ∧ ∃ v', Ws w0 g lo v0 W' v' zs := by
  obtain ⟨he, v', h1, h2, h3, h4⟩ := k.behind h.B h.O
  exact ⟨he, v', h1, h2, h3, h4⟩
theorem Ws.trans {w0 w1 W : World} {g lo : Nat} {v0 v1 v : Value} {ys zs : List Nat} (h : Ws w0 g lo v0 w1 v1 ys) (k : Ws w1 g lo v1 W v zs) : Ws w0 g lo v0 W v zs := by
  have hw : Wrote g lo v1 zs w1 (.returned (.tuple #[])) W := ⟨rfl, v, k.G, k.M, k.B, k.O⟩
  obtain ⟨_, v', h1, h2, h3, h4⟩ := hw.behind h.B h.O
  have e : v' = v := by
    have := h1.cell 0
    rw [k.G.cell 0] at this
    simpa using this.symm
  subst e
  exact ⟨h1, h2, h3, h4⟩
theorem Ws.wrote {w0 W : World} {g lo : Nat} {v0 v : Value} {ys : List Nat} (h : Ws w0 g lo v0 W v ys) : Wrote g lo v0 ys w0 (.returned (.tuple #[])) W := ⟨rfl, v, h.G, h.M, h.B, h.O⟩
/-- A block of another kind that was there stays. -/
theorem Ws.bk {w0 W : World} {g lo b : Nat} {v0 v : Value} {ys y0 : List Nat} {t : TypeId} {cs : Array Value} (h : Ws w0 g lo v0 W v ys) (M0 : Mine w0 lo v0 y0) (K : Bk w0 b t cs) (hb : b ≠ g) (ht : t ≠ 5) : Bk W b t cs := h.B.keep K (fun hk => by
  rcases hk with e | e
  · exact hb e
  · exact M0.apart K ht e)
theorem Ws.below {w0 W : World} {g lo B : Nat} {v0 v : Value} {ys y0 : List Nat} (h : Ws w0 g lo v0 W v ys) (M0 : Mine w0 lo v0 y0) (hlo : B ≤ lo) (hg : B ≤ g) (hB : B ≤ w0.heap.size) : Below B w0 W := h.wrote.below M0 hlo hg hB
/-- Bytes below are none of the writer's. -/
theorem Ws.bsn {W : World} {g lo B : Nat} {v u : Value} {ys xs : List Nat} (M : Mine W lo v ys) (hlo : B ≤ lo) (hg : B ≤ g) (hB : B ≤ W.heap.size) (h : BsV W B u xs) : BsN W (fun k => k = g ∨ slb v k) u xs := BsN.of_bs h hB (fun k hk e => by
  rcases e with e | e
  · omega
  · have := (M.slb_lo e).1
    omega)
theorem not_s {W : World} {g lo b : Nat} {v : Value} {ys : List Nat} {t : TypeId} {cs : Array Value} (M : Mine W lo v ys) (K : Bk W b t cs) (hb : b ≠ g) (ht : t ≠ 5) : ¬ (fun k => k = g ∨ slb v k) b := fun hk => by
  rcases hk with e | e
  · exact hb e
  · exact M.apart K ht e
theorem new_s {W : World} {g lo : Nat} {v : Value} {ys : List Nat} (M : Mine W lo v ys) (hg : g < W.heap.size) : ¬ (fun k => k = g ∨ slb v k) W.heap.size := fun hk => by
  have hk : W.heap.size = g ∨ slb v W.heap.size := hk
  rcases hk with e | e
  · omega
  · have := (M.slb_lo e).2.1
    omega
theorem in_get (x : InM) (i : Nat) (hi : i < 32) : (inL x)[i]? = some (.int .u8 ((nth x.tx.1 i : Nat) : Int)) := by
  unfold inL
  rw [List.getElem?_append_left (by rw [List.length_map, x.tx.2.1]; exact hi), List.getElem?_map, List.getElem?_eq_getElem (by rw [x.tx.2.1]; exact hi)]
  unfold nth
  rw [List.getD, List.getElem?_eq_getElem (by rw [x.tx.2.1]; exact hi)]
  rfl
theorem in_32 (x : InM) : (inL x)[32]? = some (.int .u32 (x.ix : Int)) := by
  unfold inL
  rw [List.getElem?_append_right (by rw [List.length_map, x.tx.2.1]; exact Nat.le_refl _), List.length_map, x.tx.2.1]
  rfl
theorem in_33 (x : InM) : (inL x)[33]? = some x.kv := by
  unfold inL
  rw [List.getElem?_append_right (by rw [List.length_map, x.tx.2.1]; decide), List.length_map, x.tx.2.1]
  rfl
theorem out_get (x : OutM) (i : Nat) (hi : i < 32) : (ouL x)[1 + i]? = some (.int .u8 ((nth x.lock.1 i : Nat) : Int)) := by
  unfold ouL
  rw [show 1 + i = i + 1 by omega, List.getElem?_cons_succ, List.getElem?_map, List.getElem?_eq_getElem (by rw [x.lock.2.1]; exact hi)]
  unfold nth
  rw [List.getD, List.getElem?_eq_getElem (by rw [x.lock.2.1]; exact hi)]
  rfl
theorem in_bsn {W : World} {b : Nat} {S : Nat → Prop} {x : InM} (K : Bk W b 35 (inL x).toArray) (hS : ¬ S b) : BsN W S (.slice (some ⟨b, 0, none⟩) 32 32) x.tx.1 :=
  ⟨some ⟨b, 0, none⟩, 32, by rw [x.tx.2.1], by rw [x.tx.2.1]; exact Nat.le_refl _, by omega, x.tx.2.2, fun _ => ⟨b, 0, rfl, K.lt, hS, fun i hi => by
    rw [Nat.zero_add, K.cell, List.getElem?_toArray]
    exact in_get x i (by rw [← x.tx.2.1]; exact hi)⟩⟩
theorem out_bsn {W : World} {b : Nat} {S : Nat → Prop} {x : OutM} (K : Bk W b 37 (ouL x).toArray) (hS : ¬ S b) : BsN W S (.slice (some ⟨b, 1, none⟩) 32 32) x.lock.1 :=
  ⟨some ⟨b, 1, none⟩, 32, by rw [x.lock.2.1], by rw [x.lock.2.1]; exact Nat.le_refl _, by omega, x.lock.2.2, fun _ => ⟨b, 1, rfl, K.lt, hS, fun i hi => by
    rw [K.cell, List.getElem?_toArray]
    exact out_get x i (by rw [← x.lock.2.1]; exact hi)⟩⟩
theorem am_wrap (a : Int) : IntKind.u64.wrap a = ((am64 a : Nat) : Int) := by
  unfold am64
  simp [IntKind.wrap, IntKind.signed, IntKind.bits]
  omega
theorem am_lt (a : Int) : am64 a < 18446744073709551616 := by unfold am64; omega
theorem in_made (x : InM) (w : World) : (storeCells ⟨w.heap.size, 0, none⟩ (inL x)).run Tryd.prog (w.alloc (.cells #[.int .u8 0, .int .u8 0, .int .u8 0, .int .u8 0, .int .u8 0, .int .u8 0, .int .u8 0, .int .u8 0, .int .u8 0, .int .u8 0, .int .u8 0, .int .u8 0, .int .u8 0, .int .u8 0, .int .u8 0, .int .u8 0, .int .u8 0, .int .u8 0, .int .u8 0, .int .u8 0, .int .u8 0, .int .u8 0, .int .u8 0, .int .u8 0, .int .u8 0, .int .u8 0, .int .u8 0, .int .u8 0, .int .u8 0, .int .u8 0, .int .u8 0, .int .u8 0, .int .u32 0, .slice none 0 0] 35)) = .ok () ((w.alloc (.cells #[.int .u8 0, .int .u8 0, .int .u8 0, .int .u8 0, .int .u8 0, .int .u8 0, .int .u8 0, .int .u8 0, .int .u8 0, .int .u8 0, .int .u8 0, .int .u8 0, .int .u8 0, .int .u8 0, .int .u8 0, .int .u8 0, .int .u8 0, .int .u8 0, .int .u8 0, .int .u8 0, .int .u8 0, .int .u8 0, .int .u8 0, .int .u8 0, .int .u8 0, .int .u8 0, .int .u8 0, .int .u8 0, .int .u8 0, .int .u8 0, .int .u8 0, .int .u8 0, .int .u32 0, .slice none 0 0] 35)).setCells w.heap.size 0 (inL x)) ∧ Bk ((w.alloc (.cells #[.int .u8 0, .int .u8 0, .int .u8 0, .int .u8 0, .int .u8 0, .int .u8 0, .int .u8 0, .int .u8 0, .int .u8 0, .int .u8 0, .int .u8 0, .int .u8 0, .int .u8 0, .int .u8 0, .int .u8 0, .int .u8 0, .int .u8 0, .int .u8 0, .int .u8 0, .int .u8 0, .int .u8 0, .int .u8 0, .int .u8 0, .int .u8 0, .int .u8 0, .int .u8 0, .int .u8 0, .int .u8 0, .int .u8 0, .int .u8 0, .int .u8 0, .int .u8 0, .int .u32 0, .slice none 0 0] 35)).setCells w.heap.size 0 (inL x)) w.heap.size 35 (inL x).toArray ∧ Below w.heap.size w ((w.alloc (.cells #[.int .u8 0, .int .u8 0, .int .u8 0, .int .u8 0, .int .u8 0, .int .u8 0, .int .u8 0, .int .u8 0, .int .u8 0, .int .u8 0, .int .u8 0, .int .u8 0, .int .u8 0, .int .u8 0, .int .u8 0, .int .u8 0, .int .u8 0, .int .u8 0, .int .u8 0, .int .u8 0, .int .u8 0, .int .u8 0, .int .u8 0, .int .u8 0, .int .u8 0, .int .u8 0, .int .u8 0, .int .u8 0, .int .u8 0, .int .u8 0, .int .u8 0, .int .u8 0, .int .u32 0, .slice none 0 0] 35)).setCells w.heap.size 0 (inL x)) := row_made inR_ok x w _ _ rfl
theorem out_made (x : OutM) (w : World) : (storeCells ⟨w.heap.size, 0, none⟩ (ouL x)).run Tryd.prog (w.alloc (.cells #[.int .i64 0, .int .u8 0, .int .u8 0, .int .u8 0, .int .u8 0, .int .u8 0, .int .u8 0, .int .u8 0, .int .u8 0, .int .u8 0, .int .u8 0, .int .u8 0, .int .u8 0, .int .u8 0, .int .u8 0, .int .u8 0, .int .u8 0, .int .u8 0, .int .u8 0, .int .u8 0, .int .u8 0, .int .u8 0, .int .u8 0, .int .u8 0, .int .u8 0, .int .u8 0, .int .u8 0, .int .u8 0, .int .u8 0, .int .u8 0, .int .u8 0, .int .u8 0, .int .u8 0] 37)) = .ok () ((w.alloc (.cells #[.int .i64 0, .int .u8 0, .int .u8 0, .int .u8 0, .int .u8 0, .int .u8 0, .int .u8 0, .int .u8 0, .int .u8 0, .int .u8 0, .int .u8 0, .int .u8 0, .int .u8 0, .int .u8 0, .int .u8 0, .int .u8 0, .int .u8 0, .int .u8 0, .int .u8 0, .int .u8 0, .int .u8 0, .int .u8 0, .int .u8 0, .int .u8 0, .int .u8 0, .int .u8 0, .int .u8 0, .int .u8 0, .int .u8 0, .int .u8 0, .int .u8 0, .int .u8 0, .int .u8 0] 37)).setCells w.heap.size 0 (ouL x)) ∧ Bk ((w.alloc (.cells #[.int .i64 0, .int .u8 0, .int .u8 0, .int .u8 0, .int .u8 0, .int .u8 0, .int .u8 0, .int .u8 0, .int .u8 0, .int .u8 0, .int .u8 0, .int .u8 0, .int .u8 0, .int .u8 0, .int .u8 0, .int .u8 0, .int .u8 0, .int .u8 0, .int .u8 0, .int .u8 0, .int .u8 0, .int .u8 0, .int .u8 0, .int .u8 0, .int .u8 0, .int .u8 0, .int .u8 0, .int .u8 0, .int .u8 0, .int .u8 0, .int .u8 0, .int .u8 0, .int .u8 0] 37)).setCells w.heap.size 0 (ouL x)) w.heap.size 37 (ouL x).toArray ∧ Below w.heap.size w ((w.alloc (.cells #[.int .i64 0, .int .u8 0, .int .u8 0, .int .u8 0, .int .u8 0, .int .u8 0, .int .u8 0, .int .u8 0, .int .u8 0, .int .u8 0, .int .u8 0, .int .u8 0, .int .u8 0, .int .u8 0, .int .u8 0, .int .u8 0, .int .u8 0, .int .u8 0, .int .u8 0, .int .u8 0, .int .u8 0, .int .u8 0, .int .u8 0, .int .u8 0, .int .u8 0, .int .u8 0, .int .u8 0, .int .u8 0, .int .u8 0, .int .u8 0, .int .u8 0, .int .u8 0, .int .u8 0] 37)).setCells w.heap.size 0 (ouL x)) := row_made outR_ok x w _ _ rfl
theorem tx_made (a b : Value) (w : World) : Bk (w.alloc (.cells #[a, b] 25)) w.heap.size 25 #[a, b] ∧ Below w.heap.size w (w.alloc (.cells #[a, b] 25)) := ⟨Bk.new _ _ _, (Below.refl _ _).alloc (Nat.le_refl _) _⟩
theorem ht_tx : (25 : Nat) ≠ 5 := by decide
theorem ht_in : (35 : Nat) ≠ 5 := by decide
theorem ht_out : (37 : Nat) ≠ 5 := by decide
end Go.Proofs.YtccgfjkahdbboaaDoor
