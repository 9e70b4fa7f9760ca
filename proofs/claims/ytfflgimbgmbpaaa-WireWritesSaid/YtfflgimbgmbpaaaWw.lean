/-
  WireWrites: the walk.
-/
import Derived.Test.YtfflgimbgmbpaaaWfI
import Derived.Test.YtfflgimbgmbpaaaArr
import Derived.Test.YtfflgimbgmbpaaaWls
import Derived.Test.YtfflgimbgmbpaaaWma
import Derived.Deep.MidRow
import Derived.Lib.QuietBelow
namespace Go.Proofs.Ytfflgimbgmbpaaa.wireWrites
open Go.ChangeShapes Go.WideShapes Go.ChangeAt Go.RowKit
open Go.Sort (grow)
set_option linter.unusedVariables false
set_option linter.unusedSimpArgs false
set_option maxRecDepth 100000

/-- What was written since. -/
structure Ws (w0 : World) (g lo : Nat) (v0 : Value) (W : World) (v : Value) (ys : List Nat) : Prop where
  G : Bk W g 26 #[v]
  M : Mine W lo v ys
  B : But (fun k => k = g ∨ slb v0 k) w0 W
  O : ∀ k, slb v k → slb v0 k ∨ w0.heap.size ≤ k
theorem Ws.refl {w0 : World} {g lo : Nat} {v0 : Value} {ys : List Nat} (G : Bk w0 g 26 #[v0]) (M : Mine w0 lo v0 ys) : Ws w0 g lo v0 w0 v0 ys := ⟨G, M, But.refl _ _, fun _ h => .inl h⟩
theorem Ws.later {w0 W W' : World} {g lo : Nat} {v0 v : Value} {ys : List Nat} (h : Ws w0 g lo v0 W v ys) (hb : Below W.heap.size W W') : Ws w0 g lo v0 W' v ys := ⟨h.G.keep hb, h.M.keep hb, h.B.step hb, h.O⟩
theorem Ws.call {w0 W W' : World} {g lo : Nat} {v0 v : Value} {ys zs : List Nat} {e : Ending} (h : Ws w0 g lo v0 W v ys) (k : Wrote g lo v zs W e W') : e = .returned (.tuple #[]) ∧ ∃ v', Ws w0 g lo v0 W' v' zs := by
  obtain ⟨he, v', h1, h2, h3, h4⟩ := k.behind h.B h.O
  exact ⟨he, v', h1, h2, h3, h4⟩
theorem Ws.trans {w0 w1 W : World} {g lo : Nat} {v0 v1 v : Value} {ys zs : List Nat} (h : Ws w0 g lo v0 w1 v1 ys) (k : Ws w1 g lo v1 W v zs) : Ws w0 g lo v0 W v zs := by
  have hw : Wrote g lo v1 zs w1 (.returned (.tuple #[])) W := ⟨rfl, v, k.G, k.M, k.B, k.O⟩
  obtain ⟨_, v', h1, h2, h3, h4⟩ := hw.behind h.B h.O
  have e : v' = v := by
    have := h1.cell 0
    rw [k.G.cell 0] at this
    simpa using this.symm
  subst e
  exact ⟨h1, h2, h3, h4⟩
theorem Ws.wrote {w0 W : World} {g lo : Nat} {v0 v : Value} {ys : List Nat} (h : Ws w0 g lo v0 W v ys) : Wrote g lo v0 ys w0 (.returned (.tuple #[])) W := ⟨rfl, v, h.G, h.M, h.B, h.O⟩
/-- A block of another kind that was there stays. -/
theorem Ws.bk {w0 W : World} {g lo b : Nat} {v0 v : Value} {ys y0 : List Nat} {t : TypeId} {cs : Array Value} (h : Ws w0 g lo v0 W v ys) (M0 : Mine w0 lo v0 y0) (K : Bk w0 b t cs) (hb : b ≠ g) (ht : t ≠ 5) : Bk W b t cs := h.B.keep K (fun hk => by
  rcases hk with e | e
  · exact hb e
  · exact M0.apart K ht e)
theorem Ws.below {w0 W : World} {g lo B : Nat} {v0 v : Value} {ys y0 : List Nat} (h : Ws w0 g lo v0 W v ys) (M0 : Mine w0 lo v0 y0) (hlo : B ≤ lo) (hg : B ≤ g) (hB : B ≤ w0.heap.size) : Below B w0 W := h.wrote.below M0 hlo hg hB
/-- Bytes below are none of the writer's. -/
theorem Ws.bsn {W : World} {g lo B : Nat} {v u : Value} {ys xs : List Nat} (M : Mine W lo v ys) (hlo : B ≤ lo) (hg : B ≤ g) (hB : B ≤ W.heap.size) (h : BsV W B u xs) : BsN W (fun k => k = g ∨ slb v k) u xs := BsN.of_bs h hB (fun k hk e => by
  rcases e with e | e
  · omega
  · have := (M.slb_lo e).1
    omega)
theorem not_s {W : World} {g lo b : Nat} {v : Value} {ys : List Nat} {t : TypeId} {cs : Array Value} (M : Mine W lo v ys) (K : Bk W b t cs) (hb : b ≠ g) (ht : t ≠ 5) : ¬ (fun k => k = g ∨ slb v k) b := fun hk => by
  rcases hk with e | e
  · exact hb e
  · exact M.apart K ht e
theorem new_s {W : World} {g lo : Nat} {v : Value} {ys : List Nat} (M : Mine W lo v ys) (hg : g < W.heap.size) : ¬ (fun k => k = g ∨ slb v k) W.heap.size := fun hk => by
  have hk : W.heap.size = g ∨ slb v W.heap.size := hk
  rcases hk with e | e
  · omega
  · have := (M.slb_lo e).2.1
    omega
theorem bk_but {w w' : World} {S : Nat → Prop} {g : Nat} {t : TypeId} {cs : Array Value} (h : Bk w g t cs) (hb : But S w w') (hg : ¬ S g) : Bk w' g t cs := hb.keep h hg
/-- The cells of a part. -/
def ptA (x : Pt) : Array Value := (ptL x).toArray
theorem pt_size (x : Pt) (h : IsI x.id) : (ptL x).length = 37 := by
  show (idA x.id).toList.length + 1 + 1 + 1 + 1 + 1 = 37
  rw [Array.length_toList, idA_size, h.1]
theorem pt_info : (Try.prog.info? 31).map (·.size) = some 37 := by kernel_rfl
theorem pt_one (x : Pt) (hv : x.dv.oneCell' = true) : (ptA x).all (·.oneCell') = true := by
  rw [Array.all_eq_true_iff_forall_mem]
  intro u hu
  unfold ptA ptL at hu
  rw [List.mem_toArray] at hu
  simp only [List.mem_cons] at hu
  rcases hu with rfl | rfl | rfl | rfl | rfl | hu
  · rfl
  · rfl
  · rfl
  · rfl
  · exact hv
  · unfold idA at hu
    simp only [List.mem_map] at hu
    obtain ⟨b, _, rfl⟩ := hu
    rfl
theorem rowr_belowX {C : Nat} {w w' : World} {b o : Nat} {cs : List Value} (h : w.rangeAt b o cs) (hb : Below C w w') (hC : b < C) : w'.rangeAt b o cs := fun j v hv => (hb.cell (p := ⟨b, o + j, none⟩) hC).trans (h j v hv)
theorem cells_store (g : Nat) (l : List Value) (k : Nat) (w : World) (h1 : l.toArray.all (·.oneCell') = true) (hs : l.length = k) (h : w.there g 0 k) : (storeCells ⟨g, 0, none⟩ l).run Try.prog w = .ok () (w.setCells g 0 l) := by
  have e := run_storeCells_cells (P := Try.prog) g 0 l 0 w (fun j hj => by simpa using (h j (by omega)).1) (fun j hj => by simpa using (h j (by omega)).2) (fun v hv => by
    have := Array.all_eq_true_iff_forall_mem.1 h1 v (by simpa using hv)
    simpa using this)
  simpa using e
def pz : Array Value := #[.int .i64 0, .int .i64 0, .int .u64 0, .int .u64 0, .slice none 0 0, .int .u8 0, .int .u8 0, .int .u8 0, .int .u8 0, .int .u8 0, .int .u8 0, .int .u8 0, .int .u8 0, .int .u8 0, .int .u8 0, .int .u8 0, .int .u8 0, .int .u8 0, .int .u8 0, .int .u8 0, .int .u8 0, .int .u8 0, .int .u8 0, .int .u8 0, .int .u8 0, .int .u8 0, .int .u8 0, .int .u8 0, .int .u8 0, .int .u8 0, .int .u8 0, .int .u8 0, .int .u8 0, .int .u8 0, .int .u8 0, .int .u8 0, .int .u8 0]
theorem pz_size : pz.size = 37 := rfl
theorem pt_made (x : Pt) (hs : (ptL x).length = 37) (hone : (ptA x).all (·.oneCell') = true) (w : World) : (storeCells ⟨w.heap.size, 0, none⟩ (ptL x)).run Try.prog (w.alloc (.cells pz 31)) = .ok () ((w.alloc (.cells pz 31)).setCells w.heap.size 0 (ptL x)) ∧ Bk ((w.alloc (.cells pz 31)).setCells w.heap.size 0 (ptL x)) w.heap.size 31 (ptA x) ∧ Below w.heap.size w ((w.alloc (.cells pz 31)).setCells w.heap.size 0 (ptL x)) := by
  refine ⟨cells_store w.heap.size (ptL x) 37 _ hone hs (Bk.there (Bk.new w _ pz) 37 (by rw [pz_size]; exact Nat.le_refl _)), ?_, Below.setCells (Nat.le_refl _) _ _ _ ((Below.refl _ _).alloc (Nat.le_refl _) _)⟩
  have h : (ptA x).size = pz.size := by rw [pz_size]; exact hs
  exact Bk.setAll (xs := ptA x) (Bk.new _ _ _) h
theorem pt_made2 (x : Pt) (hs : (ptL x).length = 37) (hone : (ptA x).all (·.oneCell') = true) (w : World) : (storeCells ⟨w.heap.size, 0, none⟩ (ptL x)).run Try.prog (w.alloc (.cells #[.int .i64 0, .int .i64 0, .int .u64 0, .int .u64 0, .slice none 0 0, .int .u8 0, .int .u8 0, .int .u8 0, .int .u8 0, .int .u8 0, .int .u8 0, .int .u8 0, .int .u8 0, .int .u8 0, .int .u8 0, .int .u8 0, .int .u8 0, .int .u8 0, .int .u8 0, .int .u8 0, .int .u8 0, .int .u8 0, .int .u8 0, .int .u8 0, .int .u8 0, .int .u8 0, .int .u8 0, .int .u8 0, .int .u8 0, .int .u8 0, .int .u8 0, .int .u8 0, .int .u8 0, .int .u8 0, .int .u8 0, .int .u8 0, .int .u8 0] 31)) = .ok () ((w.alloc (.cells #[.int .i64 0, .int .i64 0, .int .u64 0, .int .u64 0, .slice none 0 0, .int .u8 0, .int .u8 0, .int .u8 0, .int .u8 0, .int .u8 0, .int .u8 0, .int .u8 0, .int .u8 0, .int .u8 0, .int .u8 0, .int .u8 0, .int .u8 0, .int .u8 0, .int .u8 0, .int .u8 0, .int .u8 0, .int .u8 0, .int .u8 0, .int .u8 0, .int .u8 0, .int .u8 0, .int .u8 0, .int .u8 0, .int .u8 0, .int .u8 0, .int .u8 0, .int .u8 0, .int .u8 0, .int .u8 0, .int .u8 0, .int .u8 0, .int .u8 0] 31)).setCells w.heap.size 0 (ptL x)) ∧ Bk ((w.alloc (.cells #[.int .i64 0, .int .i64 0, .int .u64 0, .int .u64 0, .slice none 0 0, .int .u8 0, .int .u8 0, .int .u8 0, .int .u8 0, .int .u8 0, .int .u8 0, .int .u8 0, .int .u8 0, .int .u8 0, .int .u8 0, .int .u8 0, .int .u8 0, .int .u8 0, .int .u8 0, .int .u8 0, .int .u8 0, .int .u8 0, .int .u8 0, .int .u8 0, .int .u8 0, .int .u8 0, .int .u8 0, .int .u8 0, .int .u8 0, .int .u8 0, .int .u8 0, .int .u8 0, .int .u8 0, .int .u8 0, .int .u8 0, .int .u8 0, .int .u8 0] 31)).setCells w.heap.size 0 (ptL x)) w.heap.size 31 (ptA x) ∧ Below w.heap.size w ((w.alloc (.cells #[.int .i64 0, .int .i64 0, .int .u64 0, .int .u64 0, .slice none 0 0, .int .u8 0, .int .u8 0, .int .u8 0, .int .u8 0, .int .u8 0, .int .u8 0, .int .u8 0, .int .u8 0, .int .u8 0, .int .u8 0, .int .u8 0, .int .u8 0, .int .u8 0, .int .u8 0, .int .u8 0, .int .u8 0, .int .u8 0, .int .u8 0, .int .u8 0, .int .u8 0, .int .u8 0, .int .u8 0, .int .u8 0, .int .u8 0, .int .u8 0, .int .u8 0, .int .u8 0, .int .u8 0, .int .u8 0, .int .u8 0, .int .u8 0, .int .u8 0] 31)).setCells w.heap.size 0 (ptL x)) := pt_made x hs hone w
theorem str_eql (u : ByteArray) : (u.toList == u.toList) = true := by simp
theorem id_ones' (Y : List Nat) : (idA Y).all (·.oneCell') = true := by
  rw [Array.all_eq_true_iff_forall_mem]
  intro u hu
  unfold idA at hu
  simp only [List.mem_toArray, List.mem_map] at hu
  obtain ⟨b, _, rfl⟩ := hu
  rfl
def idz : Array Value := #[.int .u8 0, .int .u8 0, .int .u8 0, .int .u8 0, .int .u8 0, .int .u8 0, .int .u8 0, .int .u8 0, .int .u8 0, .int .u8 0, .int .u8 0, .int .u8 0, .int .u8 0, .int .u8 0, .int .u8 0, .int .u8 0, .int .u8 0, .int .u8 0, .int .u8 0, .int .u8 0, .int .u8 0, .int .u8 0, .int .u8 0, .int .u8 0, .int .u8 0, .int .u8 0, .int .u8 0, .int .u8 0, .int .u8 0, .int .u8 0, .int .u8 0, .int .u8 0]
theorem id_made1 (w : World) (Y : List Nat) (hone : (idA Y).all (·.oneCell') = true) (hs : (idA Y).toList.length = 32) : (storeCells ⟨w.heap.size, 0, none⟩ (idA Y).toList).run Try.prog (w.alloc (.cells idz 29)) = .ok () ((w.alloc (.cells idz 29)).setCells w.heap.size 0 (idA Y).toList) ∧ Bk ((w.alloc (.cells idz 29)).setCells w.heap.size 0 (idA Y).toList) w.heap.size 29 (idA Y) ∧ Below w.heap.size w ((w.alloc (.cells idz 29)).setCells w.heap.size 0 (idA Y).toList) := by
  refine ⟨cells_store w.heap.size (idA Y).toList 32 _ (by simpa using hone) hs (Bk.there (Bk.new w _ idz) 32 (Nat.le_refl _)), ?_, Below.setCells (Nat.le_refl _) _ _ _ ((Below.refl _ _).alloc (Nat.le_refl _) _)⟩
  have h : (idA Y).size = idz.size := by rw [← Array.length_toList]; exact hs
  exact Bk.setAll (xs := idA Y) (Bk.new _ _ _) h
theorem id_made (w : World) (Y : List Nat) (hone : (idA Y).all (·.oneCell') = true) (hs : (idA Y).toList.length = 32) : (storeCells ⟨w.heap.size, 0, none⟩ (idA Y).toList).run Try.prog (w.alloc (.cells #[.int .u8 0, .int .u8 0, .int .u8 0, .int .u8 0, .int .u8 0, .int .u8 0, .int .u8 0, .int .u8 0, .int .u8 0, .int .u8 0, .int .u8 0, .int .u8 0, .int .u8 0, .int .u8 0, .int .u8 0, .int .u8 0, .int .u8 0, .int .u8 0, .int .u8 0, .int .u8 0, .int .u8 0, .int .u8 0, .int .u8 0, .int .u8 0, .int .u8 0, .int .u8 0, .int .u8 0, .int .u8 0, .int .u8 0, .int .u8 0, .int .u8 0, .int .u8 0] 29)) = .ok () ((w.alloc (.cells #[.int .u8 0, .int .u8 0, .int .u8 0, .int .u8 0, .int .u8 0, .int .u8 0, .int .u8 0, .int .u8 0, .int .u8 0, .int .u8 0, .int .u8 0, .int .u8 0, .int .u8 0, .int .u8 0, .int .u8 0, .int .u8 0, .int .u8 0, .int .u8 0, .int .u8 0, .int .u8 0, .int .u8 0, .int .u8 0, .int .u8 0, .int .u8 0, .int .u8 0, .int .u8 0, .int .u8 0, .int .u8 0, .int .u8 0, .int .u8 0, .int .u8 0, .int .u8 0] 29)).setCells w.heap.size 0 (idA Y).toList) ∧ Bk ((w.alloc (.cells #[.int .u8 0, .int .u8 0, .int .u8 0, .int .u8 0, .int .u8 0, .int .u8 0, .int .u8 0, .int .u8 0, .int .u8 0, .int .u8 0, .int .u8 0, .int .u8 0, .int .u8 0, .int .u8 0, .int .u8 0, .int .u8 0, .int .u8 0, .int .u8 0, .int .u8 0, .int .u8 0, .int .u8 0, .int .u8 0, .int .u8 0, .int .u8 0, .int .u8 0, .int .u8 0, .int .u8 0, .int .u8 0, .int .u8 0, .int .u8 0, .int .u8 0, .int .u8 0] 29)).setCells w.heap.size 0 (idA Y).toList) w.heap.size 29 (idA Y) ∧ Below w.heap.size w ((w.alloc (.cells #[.int .u8 0, .int .u8 0, .int .u8 0, .int .u8 0, .int .u8 0, .int .u8 0, .int .u8 0, .int .u8 0, .int .u8 0, .int .u8 0, .int .u8 0, .int .u8 0, .int .u8 0, .int .u8 0, .int .u8 0, .int .u8 0, .int .u8 0, .int .u8 0, .int .u8 0, .int .u8 0, .int .u8 0, .int .u8 0, .int .u8 0, .int .u8 0, .int .u8 0, .int .u8 0, .int .u8 0, .int .u8 0, .int .u8 0, .int .u8 0, .int .u8 0, .int .u8 0] 29)).setCells w.heap.size 0 (idA Y).toList) := id_made1 w Y hone hs
theorem id_agg' (w : World) : (isAgg 29).run Try.prog w = .ok true w := by kernel_rfl
theorem id_size' (w : World) : (sizeOf 29).run Try.prog w = .ok 32 w := by kernel_rfl
theorem id_load' (w : World) (g : Nat) (Y : List Nat) (hl : Y.length = 32) (h : Bk w g 29 (idA Y)) : (loadCellsFrom ⟨g, 0, none⟩ 0 32 #[]).run Try.prog w = .ok (idA Y) w := by
  have e := run_loadCells_list (P := Try.prog) w ⟨g, 0, none⟩ (idA Y).toList (fun j v hv => by rw [Addr.add_mid]; exact h.range0 j v hv)
  rw [Array.length_toList, idA_size, hl] at e
  exact e
theorem id_eq0 (w : World) : (Op.equalIn 10000 29 (.agg (idA (zeros 32))) (.agg #[.int .u8 0, .int .u8 0, .int .u8 0, .int .u8 0, .int .u8 0, .int .u8 0, .int .u8 0, .int .u8 0, .int .u8 0, .int .u8 0, .int .u8 0, .int .u8 0, .int .u8 0, .int .u8 0, .int .u8 0, .int .u8 0, .int .u8 0, .int .u8 0, .int .u8 0, .int .u8 0, .int .u8 0, .int .u8 0, .int .u8 0, .int .u8 0, .int .u8 0, .int .u8 0, .int .u8 0, .int .u8 0, .int .u8 0, .int .u8 0, .int .u8 0, .int .u8 0])).run Try.prog w = .ok true w := by kernel_rfl
theorem id_bs {w : World} {g : Nat} {Y : List Nat} (h : Bk w g 29 (idA Y)) (hl : Y.length = 32) (hb : ∀ x ∈ Y, x < 256) : BsV w w.heap.size (.slice (some ⟨g, 0, none⟩) 32 32) Y :=
  ⟨some ⟨g, 0, none⟩, 32, by rw [hl], by rw [hl]; exact Nat.le_refl _, by omega, hb, fun _ => ⟨g, 0, rfl, h.lt, fun i hi => by rw [Nat.zero_add, h.cell]; exact idA_get Y i hi⟩⟩
theorem str_ne (x : List Nat) (h : x ≠ []) : ((strN x).toList == ([] : List UInt8)) = false := by
  rw [strN_toList]
  cases x with
  | nil => exact absurd rfl h
  | cons a r => rfl
theorem kinds (k : Int) : k = 0 ∨ k = 1 ∨ k = 2 ∨ k = 3 ∨ k = 4 ∨ (k ≠ 0 ∧ k ≠ 1 ∧ k ≠ 2 ∧ k ≠ 3 ∧ k ≠ 4) := by omega

theorem row_at' {L : List Pt} {w : World} {n c : Nat} {s : Option Addr} (h : PtsV w (.slice s n c) L) : n = L.length ∧ ∀ k, k < n → ∃ x b o, L[k]? = some x ∧ s = some ⟨b, o, none⟩ ∧ b < w.heap.size ∧ IsPt w x ∧ w.rangeAt b (o + k * 37) (ptL x) := by
  obtain ⟨s', cap, e, _, _, h⟩ := h
  have e2 : n = L.length := by injection e
  have e1 : s = s' := by injection e
  refine ⟨e2, fun k hk => ?_⟩
  obtain ⟨b, o, e3, hlt, hc⟩ := h (fun h => by rw [h] at e2; simp at e2; omega)
  have hx : L[k]? = some (L[k]'(by omega)) := List.getElem?_eq_getElem (by omega)
  exact ⟨_, b, o, hx, by rw [e1, e3], hlt, (hc k _ hx).1, fun j v hv => (hc k _ hx).2 j v hv⟩
def wB (x : Pt) : List Nat := if x.kind = 0 then toL x.n (sz8 x.size) else if x.kind = 1 then countL x.n else if x.kind = 2 then x.data else if x.kind = 3 then countL x.data.length ++ x.data else if x.kind = 4 then x.id else []
def wsB (l : List Pt) : List Nat := (l.map wB).flatten
theorem wsB_take (l : List Pt) (k : Nat) (x : Pt) (h : l[k]? = some x) : wsB (l.take (k + 1)) = wsB (l.take k) ++ wB x := by
  unfold wsB
  rw [List.take_add_one, h, List.map_append, List.flatten_append]
  simp
theorem wsB_drop (l : List Pt) (k : Nat) (x : Pt) (h : l[k]? = some x) : wsB (l.drop k) = wB x ++ wsB (l.drop (k + 1)) := by
  unfold wsB
  obtain ⟨hk, hx⟩ := List.getElem?_eq_some_iff.1 h
  rw [List.drop_eq_getElem_cons hk, hx, List.map_cons, List.flatten_cons]
theorem sz8_le (n : Int) : sz8 n ≤ 8 := by unfold sz8; omega
theorem sz8_eq (n : Int) : sz8 n = min n.toNat 8 := by unfold sz8; omega
theorem wB_len (x : Pt) (h : x.data.length ≤ 1000) (hi : x.id.length = 32) : (wB x).length ≤ 1016 := by
  have h1 := sz8_le x.size
  have h2 := countL_len x.n
  have h3 := countL_len x.data.length
  unfold wB
  split
  · rw [toL_length]; omega
  · split
    · omega
    · split
      · omega
      · split
        · rw [List.length_append]; omega
        · split
          · omega
          · simp
theorem wsB_len (l : List Pt) (h : ∀ x ∈ l, x.data.length ≤ 1000 ∧ x.id.length = 32) : (wsB l).length ≤ 1016 * l.length := by
  induction l with
  | nil => exact Nat.le_refl _
  | cons x r ih =>
    show (wB x ++ wsB r).length ≤ _
    have h1 := wB_len x (h x List.mem_cons_self).1 (h x List.mem_cons_self).2
    have h2 := ih (fun y hy => h y (List.mem_cons_of_mem _ hy))
    rw [List.length_append, List.length_cons]
    omega
theorem wB_0 {x : Pt} (h : 0 = x.kind) : wB x = toL x.n (sz8 x.size) := by unfold wB; rw [← h]; rfl
theorem wB_1 {x : Pt} (h : 1 = x.kind) : wB x = countL x.n := by unfold wB; rw [← h]; rfl
theorem wB_2 {x : Pt} (h : 2 = x.kind) : wB x = x.data := by unfold wB; rw [← h]; rfl
theorem wB_3 {x : Pt} (h : 3 = x.kind) : wB x = countL x.data.length ++ x.data := by unfold wB; rw [← h]; rfl
theorem wB_4 {x : Pt} (h : 4 = x.kind) : wB x = x.id := by unfold wB; rw [← h]; rfl
theorem wB_x {x : Pt} {k : Int} (h : k = x.kind) (n : k ≠ 0 ∧ k ≠ 1 ∧ k ≠ 2 ∧ k ≠ 3 ∧ k ≠ 4) : wB x = [] := by
  unfold wB
  rw [← h, if_neg n.1, if_neg n.2.1, if_neg n.2.2.1, if_neg n.2.2.2.1, if_neg n.2.2.2.2]
theorem ht_pt : (31 : Nat) ≠ 5 := by decide
theorem pt_id {W : World} {b : Nat} {S : Nat → Prop} {x : Pt} (K : Bk W b 31 (ptA x)) (hI : IsI x.id) (hS : ¬ S b) : BsN W S (.slice (some ⟨b, 5, none⟩) 32 32) x.id :=
  ⟨some ⟨b, 5, none⟩, 32, by rw [hI.1], by rw [hI.1]; exact Nat.le_refl _, by omega, hI.2, fun _ => ⟨b, 5, rfl, K.lt, hS, fun i hi => by
    rw [K.cell]
    show (ptL x).toArray[5 + i]? = _
    rw [List.getElem?_toArray]
    unfold ptL
    rw [show 5 + i = i + 1 + 1 + 1 + 1 + 1 by omega]
    simp only [List.getElem?_cons_succ]
    have h := idA_get x.id i hi
    rw [← Array.getElem?_toList] at h
    exact h⟩⟩
theorem wsB_lt {w : World} (l : List Pt) (h : ∀ x ∈ l, IsPt w x) : ∀ b ∈ wsB l, b < 256 := by
  intro b hb
  unfold wsB at hb
  simp only [List.mem_flatten, List.mem_map] at hb
  obtain ⟨_, ⟨x, hx, rfl⟩, h2⟩ := hb
  have hp := h x hx
  unfold wB at h2
  split at h2
  · exact toL_lt _ _ b h2
  · split at h2
    · exact countL_lt _ b h2
    · have hd : ∀ y ∈ x.data, y < 256 := by obtain ⟨_, _, _, _, _, h, _⟩ := hp.2.2.2.2.1; exact h
      split at h2
      · exact hd b h2
      · split at h2
        · rcases List.mem_append.1 h2 with h3 | h3
          · exact countL_lt _ b h3
          · exact hd b h3
        · split at h2
          · exact hp.2.2.2.2.2.2 b h2
          · cases h2

theorem toL_mod (s : Nat) : ∀ n, toL n s = toL (n % 256 ^ s) s := by
  induction s with
  | zero => intro n; rfl
  | succ j ih =>
    intro n
    rw [toL_succ', toL_succ' (n % 256 ^ (j + 1)), ih n, ih (n % 256 ^ (j + 1)), Nat.mod_mod_of_dvd n (Nat.pow_dvd_pow 256 (Nat.le_succ j)), Nat.pow_succ, Nat.mod_mul_right_div_self, Nat.mod_mod]
theorem rdNum_mod (m n : Nat) (ys : List Nat) (hm : m ≤ 8) : rdNum (toL n m ++ ys, 0) (m : Int) = (n % 256 ^ m, (ys, 0)) := by
  rw [toL_mod m n]
  exact rdNum_toL m _ ys 0 _ rfl hm (Nat.mod_lt _ (Nat.pow_pos (by decide)))
theorem rdText_own (b ys : List Nat) (l : Nat) (hl : l = b.length) (h : b.length ≤ 1000) : rdText (countL b.length ++ b ++ ys, 0) (l : Int) = (b, (ys, 0)) := by
  subst hl
  unfold rdText
  rw [List.append_assoc, show (max (b.length : Int) 0).toNat = b.length by omega, rdCount_fits b.length b.length (b ++ ys) (by omega) (Nat.le_refl _)]
  exact rdTake_app b ys 0 _ rfl
theorem idOf_own (ys : List Nat) (h : ys.length = 32) : idOf ys = ys := by unfold idOf; rw [h]; simp [zeros]
theorem w8_eq (s : Nat) (h : s ≤ 8) : IntKind.u64.wrap (wrap64 (8 * (s : Int))) = ((8 * s : Nat) : Int) := by
  rcases (by omega : s = 0 ∨ s = 1 ∨ s = 2 ∨ s = 3 ∨ s = 4 ∨ s = 5 ∨ s = 6 ∨ s = 7 ∨ s = 8) with rfl | rfl | rfl | rfl | rfl | rfl | rfl | rfl | rfl <;> first | decide | (simp [wrap64, IntKind.wrap, IntKind.signed, IntKind.bits]; done) | (simp [wrap64, IntKind.wrap, IntKind.signed, IntKind.bits]; omega)
theorem m8_eq (s n : Nat) (h : s < 8) (hn : n < 18446744073709551616) : bits BinOp.and IntKind.u64 (n : Int) (IntKind.u64.wrap (IntKind.u64.wrap (2 ^ min (8 * s) 64) - 1)) = ((n % 256 ^ s : Nat) : Int) := by
  rcases (by omega : s = 0 ∨ s = 1 ∨ s = 2 ∨ s = 3 ∨ s = 4 ∨ s = 5 ∨ s = 6 ∨ s = 7) with rfl | rfl | rfl | rfl | rfl | rfl | rfl | rfl
  · have e := u64_and_nat n (2 ^ (8 * 0) - 1) hn (by decide)
    rw [Nat.and_two_pow_sub_one_eq_mod] at e
    rw [show IntKind.u64.wrap (IntKind.u64.wrap (2 ^ min (8 * 0) 64) - 1) = ((2 ^ (8 * 0) - 1 : Nat) : Int) from rfl]
    exact e
  · have e := u64_and_nat n (2 ^ (8 * 1) - 1) hn (by decide)
    rw [Nat.and_two_pow_sub_one_eq_mod] at e
    rw [show IntKind.u64.wrap (IntKind.u64.wrap (2 ^ min (8 * 1) 64) - 1) = ((2 ^ (8 * 1) - 1 : Nat) : Int) from rfl]
    exact e
  · have e := u64_and_nat n (2 ^ (8 * 2) - 1) hn (by decide)
    rw [Nat.and_two_pow_sub_one_eq_mod] at e
    rw [show IntKind.u64.wrap (IntKind.u64.wrap (2 ^ min (8 * 2) 64) - 1) = ((2 ^ (8 * 2) - 1 : Nat) : Int) from rfl]
    exact e
  · have e := u64_and_nat n (2 ^ (8 * 3) - 1) hn (by decide)
    rw [Nat.and_two_pow_sub_one_eq_mod] at e
    rw [show IntKind.u64.wrap (IntKind.u64.wrap (2 ^ min (8 * 3) 64) - 1) = ((2 ^ (8 * 3) - 1 : Nat) : Int) from rfl]
    exact e
  · have e := u64_and_nat n (2 ^ (8 * 4) - 1) hn (by decide)
    rw [Nat.and_two_pow_sub_one_eq_mod] at e
    rw [show IntKind.u64.wrap (IntKind.u64.wrap (2 ^ min (8 * 4) 64) - 1) = ((2 ^ (8 * 4) - 1 : Nat) : Int) from rfl]
    exact e
  · have e := u64_and_nat n (2 ^ (8 * 5) - 1) hn (by decide)
    rw [Nat.and_two_pow_sub_one_eq_mod] at e
    rw [show IntKind.u64.wrap (IntKind.u64.wrap (2 ^ min (8 * 5) 64) - 1) = ((2 ^ (8 * 5) - 1 : Nat) : Int) from rfl]
    exact e
  · have e := u64_and_nat n (2 ^ (8 * 6) - 1) hn (by decide)
    rw [Nat.and_two_pow_sub_one_eq_mod] at e
    rw [show IntKind.u64.wrap (IntKind.u64.wrap (2 ^ min (8 * 6) 64) - 1) = ((2 ^ (8 * 6) - 1 : Nat) : Int) from rfl]
    exact e
  · have e := u64_and_nat n (2 ^ (8 * 7) - 1) hn (by decide)
    rw [Nat.and_two_pow_sub_one_eq_mod] at e
    rw [show IntKind.u64.wrap (IntKind.u64.wrap (2 ^ min (8 * 7) 64) - 1) = ((2 ^ (8 * 7) - 1 : Nat) : Int) from rfl]
    exact e
theorem took_below {w W W' : World} {p : Nat} (h : Below w.heap.size w W) (hp : w.heap.size ≤ p) (k : But (fun k => k = p) W W') : Below w.heap.size w W' := h.trans (k.below h.size (fun j hj => by have e : j = p := hj; omega))
theorem id_eq' {x : List Nat} (hl : x.length = 32) (w : World) : (Op.equalIn 10000 29 (.agg (idA x)) (.agg (idA x))).run Try.prog w = .ok true w := by
  have h := run_equalIn_arr (P := Try.prog) w 9998 29 5 32 .u8 (idA x) (idA x) (fun i => ((x.getD i 0 : Nat) : Int)) (fun i => ((x.getD i 0 : Nat) : Int)) (by kernel_rfl) (by kernel_rfl) (by kernel_rfl)
    (fun i hi => ⟨idA_get x i (by omega), idA_get x i (by omega)⟩)
  rw [h]
  simp
theorem pt_idload (x : Pt) (w : World) (b : Nat) (hl : x.id.length = 32) (h : Bk w b 31 (ptA x)) : (loadCellsFrom ⟨b, 5, none⟩ 0 32 #[]).run Try.prog w = .ok (idA x.id) w := by
  have e := run_loadCells_list (P := Try.prog) w ⟨b, 5, none⟩ (idA x.id).toList (fun j v hv => by
    rw [Addr.add_mid]
    show w.cell? ⟨b, 5 + j, none⟩ = some v
    rw [h.cell]
    show (ptL x).toArray[5 + j]? = _
    rw [List.getElem?_toArray]
    unfold ptL
    rw [show 5 + j = j + 1 + 1 + 1 + 1 + 1 by omega]
    simp only [List.getElem?_cons_succ]
    exact hv)
  rw [Array.length_toList, idA_size, hl] at e
  exact e
set_option maxHeartbeats 40000000 in
theorem walk (lv : Value) (L : List Pt) (w : World) (hl : PtsV w lv L) :
    Calls Try.prog 3 #[lv] w fun e w' => e = .returned (.bool true) ∧ Below w.heap.size w w' := by
  obtain ⟨t0, n, c, rfl⟩ : ∃ s n c, lv = .slice s n c := by obtain ⟨s, cap, e, _⟩ := hl; exact ⟨s, _, cap, e⟩
  obtain ⟨hnl, hrow⟩ := row_at' hl
  have HN := Lib.hid hnl
  have HL := Lib.hid hrow
  have HPT : Hid (∀ x ∈ L, IsPt w x) := by
    intro x hx
    obtain ⟨i, hi, rfl⟩ := List.mem_iff_getElem.1 hx
    obtain ⟨y, b, o, e, _, _, h, _⟩ := hrow i (by omega)
    rw [List.getElem?_eq_getElem hi] at e
    obtain rfl := Option.some.inj e
    exact h
  clear hl hnl hrow
  go_enter Try.func3, Try.ntmps3
  go_wp2_with fail
  refine (writes_any _).mono ?_
  rintro e w1 ⟨rfl, hb1⟩
  have HW1 := Lib.hid hb1
  clear hb1
  by_cases h50 : 50 < n
  · have d5 : decide ((50 : Int) < (n : Int)) = true := decide_eq_true (by omega)
    clear h50
    go_wp2_with fail
    go_ret
    exact ⟨rfl, HW1.out⟩
  have d5 : decide ((50 : Int) < (n : Int)) = false := decide_eq_false (by omega)
  have hn : n ≤ 50 := by omega
  clear h50
  go_upto_region 6 with fail
  refine wp_any (fun W => Below w.heap.size w W ∧ Bk W w1.heap.size 26 #[.slice none 0 0]) ⟨HW1.out.alloc HW1.out.size _, Bk.new _ _ _⟩ ?_
  obtain ⟨g, hg⟩ : ∃ g, g = w1.heap.size := ⟨_, rfl⟩
  have HG : Hid (w.heap.size ≤ g) := by show _ ≤ _; rw [hg]; exact HW1.out.size
  rw [← hg]
  rintro W0 ⟨hW, KG⟩
  have HW0 := Lib.hid hW
  have M0 : Mine W0 g (.slice none 0 0) [] := .inl ⟨rfl, rfl⟩
  have HS := Lib.hid (Ws.refl KG M0)
  have HMV : Hid (∀ W' v X, Ws W0 g g (.slice none 0 0) W' v X → Below w.heap.size w W') := fun W' v X h => hW.trans (h.below M0 (B := w.heap.size) HG.out HG.out hW.size)
  have hu0 : strN (wsB (L.take 0)) = ⟨#[]⟩ := by rw [List.take_zero]; decide +kernel
  clear hW KG M0 hg d5
  go_wp2_with fail
  go_loopw [4, 19] (fun sv i wr => ∃ (k : Nat) (vr : Value) (u : ByteArray), k ≤ n ∧ i = .int .i64 k ∧ sv = .string u ∧ Hid (u = strN (wsB (L.take k))) ∧ Hid (Ws W0 g g (.slice none 0 0) wr vr (wsB (L.take k))) ∧ Hid (∀ y ∈ L.take k, y.data.length ≤ 1000)) (fun _ i _ => n - (intOf i).toNat)
  case atStart => exact ⟨0, .slice none 0 0, _, Nat.zero_le _, rfl, rfl, hu0.symm, HS.out, fun y hy => by simp at hy⟩
  case round =>
    obtain ⟨k, vr, u, hk, rfl, rfl, HU, HR, HD⟩ := hrel
    clear HS hu0
    by_cases hlt : k < n
    · obtain ⟨x, b, o, hkt, rfl, hbw, hI, hrg⟩ := HL.out k hlt
      have j1 : decide ((k : Int) < (n : Int)) = true := decide_eq_true (by omega)
      have hTB := HMV.out _ _ _ HR.out
      replace hrg := rowr_belowX hrg hTB hbw
      have hbr : b < wr.heap.size := Nat.lt_of_lt_of_le hbw hTB.size
      have HST := Lib.hid (wsB_take L k x hkt)
      have HDN : Hid (x.data.length ≤ 1000 → ∀ y ∈ L.take (k + 1), y.data.length ≤ 1000) := fun hf y hy => by
        rw [List.take_add_one, hkt] at hy
        rcases List.mem_append.1 hy with h | h
        · exact HD.out y h
        · simp at h
          subst h
          exact hf
      have hYL : (wsB (L.take k)).length ≤ 1016 * 50 := by
        have h1 := wsB_len (L.take k) (fun y hy => ⟨HD.out y hy, (HPT.out y (List.mem_of_mem_take hy)).2.2.2.2.2.1⟩)
        have h2 := List.length_take_le k L
        omega
      have hu1 : u.size ≤ 60000 := by rw [HU.out, strN_size]; omega
      have hs37 := pt_size x hI.2.2.2.2.2
      have hone := pt_one x (by obtain ⟨_, _, e, _⟩ := hI.2.2.2.2.1; rw [e]; rfl)
      obtain ⟨hstc, K6, B6⟩ := pt_made2 x hs37 hone wr
      have hps : (Try.prog.info? 31).map (·.size) = some (ptL x).length := by rw [hs37]; exact pt_info
      have HR6 := Lib.hid (HR.out.later B6)
      have HYL := Lib.hid hYL
      have HI := Lib.hid hI
      have HNG : Hid (wr.heap.size ≠ g) := by have := HR.out.G.lt; show wr.heap.size ≠ g; omega
      have H0 : Hid ((ptA x)[0]? = some (.int .i64 x.kind) ∧ (ptA x)[1]? = some (.int .i64 x.size) ∧ (ptA x)[2]? = some (.int .u64 (x.n : Int)) ∧ (ptA x)[4]? = some x.dv) := ⟨rfl, rfl, rfl, rfl⟩
      obtain ⟨Y, hY⟩ : ∃ Y, Y = wsB (L.take k) := ⟨_, rfl⟩
      rw [← hY] at HR6 HST HYL HU
      have HBS := Lib.hid hI.2.2.2.2.1
      obtain ⟨sd, cd, hdv⟩ : ∃ s c, x.dv = .slice s x.data.length c := by obtain ⟨s, c, e, _⟩ := hI.2.2.2.2.1; exact ⟨s, c, e⟩
      obtain ⟨ld, hld⟩ : ∃ l, l = x.data.length := ⟨_, rfl⟩
      have HLD := Lib.hid hld
      rw [hdv, ← hld] at HBS H0
      rw [← hld] at HDN
      have HPI : Hid (∀ (W : World) (S : Nat → Prop) (b : Nat), Bk W b 31 (ptA x) → ¬ S b → BsN W S (.slice (some ⟨b, 5, none⟩) 32 32) x.id) := fun W S b K h => pt_id K hI.2.2.2.2.2 h
      obtain ⟨PA, hPA⟩ : ∃ P, P = ptA x := ⟨_, rfl⟩
      rw [← hPA] at K6 H0 HPI
      obtain ⟨PL, hPL⟩ : ∃ P, P = ptL x := ⟨_, rfl⟩
      rw [← hPL] at hstc hrg hps hs37 K6 B6 HR6
      have HU1 := Lib.hid hu1
      clear hI hkt hTB hbw hone hYL hY hdv hld hPA hPL B6 hu1 HR HD
      go_upto_region 10 with (refine wpList_load_mid rfl 31 (.tmp 21) rfl b (o + k * 37) rfl PL _ hrg Try.underlying31 rfl hps ?_)
      refine wp_any (fun W => Ws W0 g g (.slice none 0 0) W vr Y ∧ Bk W wr.heap.size 31 PA) ⟨HR6.out, K6⟩ ?_
      clear HR6 K6 hstc hps hs37 hrg hbr
      generalize wr.heap.size = g6 at *
      rintro W6 ⟨hS6, K6⟩
      have HS6 := Lib.hid hS6
      have HK6 := Lib.hid K6
      have HB6 := Lib.hid (HMV.out _ _ _ hS6)
      have c0 := (K6.cell 0).trans H0.out.1
      have c4 := (K6.cell 4).trans H0.out.2.2.2
      have z6 := K6.lt
      clear hS6 K6
      by_cases h1000 : 1000 < ld
      · have d1 : decide ((1000 : Int) < (ld : Int)) = true := decide_eq_true (by omega)
        clear h1000
        go_wp2_with fail
        go_ret
        exact ⟨rfl, HB6.out⟩
      have d1 : decide ((1000 : Int) < (ld : Int)) = false := decide_eq_false (by omega)
      have HDN := Lib.hid (HDN.out (by omega))
      have HLL : Hid (ld ≤ 1000) := by show _ ≤ _; omega
      obtain ⟨kd, hkd⟩ : ∃ kd, kd = x.kind := ⟨_, rfl⟩
      rw [← hkd] at c0
      have HKD := Lib.hid hkd
      have HWL : Hid ((wB x).length ≤ 1016) := wB_len x (by rw [← HLD.out]; exact HLL.out) HI.out.2.2.2.2.2.1
      have M6 := HS6.out.M
      have HM6 := Lib.hid M6
      have HSR := Lib.hid (Ws.refl HS6.out.G M6)
      have HZG : Hid (g < W6.heap.size) := HS6.out.G.lt
      have hu1 := HU1.out
      clear h1000 hkd M6
      rcases kinds kd with rfl | rfl | rfl | rfl | rfl | hx
      · have c1 := (HK6.out.cell 1).trans H0.out.2.1
        have c2 := (HK6.out.cell 2).trans H0.out.2.2.1
        have HA : Below W6.heap.size W6 (W6.alloc (.cells #[.int .u64 (x.n : Int)] 27)) := (Below.refl _ _).alloc (Nat.le_refl _) _
        have HC := Lib.hid (put_any g g W6.heap.size x.size x.n Y vr (W6.alloc (.cells #[.int .u64 (x.n : Int)] 27)) (HS6.out.G.alloc _) (HM6.out.keep HA) (Nat.le_trans (Nat.le_of_lt HZG.out) HA.size) (Bk.new _ _ _) (by have := HYL.out; omega))
        have HSA := Lib.hid (HSR.out.later HA)
        have HKA := Lib.hid (HK6.out.keep HA)
        have HSZ : Hid (∀ W, Calls Try.prog 7 #[.int .i64 x.size] W fun r w' => r = .returned (.int .i64 ((sz8 x.size : Nat) : Int)) ∧ Below W.heap.size W w') := fun W => by rw [sz8_eq]; exact rsize_any x.size W HI.out.2.1
        have HNM : Hid (∀ W, Calls Try.prog 6 #[.int .i64 ((sz8 x.size : Nat) : Int), .int .u64 (x.n : Int)] W fun e w' => e = .returned (.string (strN (wB x))) ∧ Below W.heap.size W w') := fun W => by rw [wB_0 HKD.out]; exact rfnum_any (sz8 x.size) x.n W (sz8_le _) HI.out.2.2.1
        generalize sz8 x.size = s8 at HSZ HNM
        obtain ⟨sz, hsz⟩ : ∃ s, s = x.size := ⟨_, rfl⟩
        rw [← hsz] at c1 HSZ HC
        have HSE := Lib.hid hsz
        obtain ⟨nn, hnn⟩ : ∃ s, s = x.n := ⟨_, rfl⟩
        rw [← hnn] at c2 HNM HC HSA HKA
        have HNE := Lib.hid hnn
        clear HA hsz hnn
        go_wp2_with fail
        refine HC.out.mono ?_
        rintro e W7 h
        obtain ⟨rfl, v7, H7⟩ := HSA.out.call h
        have K7 := H7.bk HM6.out HK6.out HNG.out ht_pt
        rw [← show wB x = toL nn (sz8 sz) by rw [wB_0 HKD.out, HNE.out, HSE.out]] at H7
        have HS7 := Lib.hid (HS6.out.trans H7)
        have HK7 := Lib.hid K7
        have HB7 := Lib.hid (HMV.out _ _ _ HS7.out)
        have z7 := K7.lt
        clear h HC H7 HKA HSA
        obtain ⟨ux, hux⟩ : ∃ ux, ux = strN (wB x) := ⟨_, rfl⟩
        have HUX := Lib.hid hux
        have hsx : ux.size ≤ 1016 := by rw [hux, strN_size]; exact HWL.out
        have HU9 : Hid (u ++ ux = strN (wsB (L.take (k + 1)))) := by show _ = _; rw [HST.out, HU.out, hux, strN_append]
        have hs12 : ¬ (9223372036854775807 < u.size + ux.size) := by omega
        clear hux
        rw [← HUX.out] at HNM
        have r1 := cell_regrown ((HK7.out.cell 1).trans (H0.out.2.1.trans (by rw [← HSE.out])))
        have r2 := cell_regrown ((HK7.out.cell 2).trans (H0.out.2.2.1.trans (by rw [← HNE.out])))
        clear c0 c1 c2 c4 z6
        go_upto_region 15 with fail
        refine wp_region_quiet_below (by kernel_rfl) (by kernel_rfl) ?_
        quiet_step (fail)
        quiet_step (fail)
        quiet_step (fail)
        quiet_step (exact Calls.regrown_of (HSZ.out _))
        quiet_step (fail)
        quiet_step (fail)
        quiet_step (exact Calls.regrown_of (HNM.out _))
        quiet_step (fail)
        quiet_step (fail)
        refine wpQuiet_nil ?_
        intro _ hw'
        obtain ⟨⟨dq, osq⟩, hw''⟩ := hw'
        subst hw''
        have hG := below_regrown W7 dq osq
        have HS9 : Hid (Ws W0 g g (.slice none 0 0) (grow (redrawn W7 dq) osq) v7 (wsB (L.take (k + 1)))) := by
          show Ws _ _ _ _ _ _ _
          rw [HST.out]
          exact HS7.out.later hG
        clear hG r1 r2 z7
        generalize Go.Sort.grow (redrawn W7 dq) osq = W9 at *
        go_wp2_with fail
        go_roundw
        case rel => exact ⟨k + 1, v7, _, by omega, by go_num, rfl, HU9.out, HS9.out, HDN.out⟩
        case measure => simp [intOf]; omega
      · have c2 := (HK6.out.cell 2).trans H0.out.2.2.1
        have HC := Lib.hid (count_any g g x.n Y vr W6 HS6.out.G HM6.out (Nat.le_of_lt HZG.out) (by have := HYL.out; omega))
        have HSA := HSR
        have HKA := HK6
        have HNM : Hid (∀ W, Calls Try.prog 9 #[.int .u64 (x.n : Int)] W fun e w' => e = .returned (.string (strN (wB x))) ∧ Below W.heap.size W w') := fun W => by rw [wB_1 HKD.out]; exact rfcount_any x.n W HI.out.2.2.1
        obtain ⟨nn, hnn⟩ : ∃ s, s = x.n := ⟨_, rfl⟩
        rw [← hnn] at c2 HNM HC
        have HNE := Lib.hid hnn
        clear hnn
        go_wp2_with fail
        refine HC.out.mono ?_
        rintro e W7 h
        obtain ⟨rfl, v7, H7⟩ := HSA.out.call h
        have K7 := H7.bk HM6.out HK6.out HNG.out ht_pt
        rw [← show wB x = countL nn by rw [wB_1 HKD.out, HNE.out]] at H7
        have HS7 := Lib.hid (HS6.out.trans H7)
        have HK7 := Lib.hid K7
        have HB7 := Lib.hid (HMV.out _ _ _ HS7.out)
        have z7 := K7.lt
        clear h HC H7 HKA HSA
        obtain ⟨ux, hux⟩ : ∃ ux, ux = strN (wB x) := ⟨_, rfl⟩
        have HUX := Lib.hid hux
        have hsx : ux.size ≤ 1016 := by rw [hux, strN_size]; exact HWL.out
        have HU9 : Hid (u ++ ux = strN (wsB (L.take (k + 1)))) := by show _ = _; rw [HST.out, HU.out, hux, strN_append]
        have hs12 : ¬ (9223372036854775807 < u.size + ux.size) := by omega
        clear hux
        rw [← HUX.out] at HNM
        have c2 : W7.cell? ⟨g6, 2, none⟩ = some (.int .u64 (nn : Int)) := (HK7.out.cell 2).trans (H0.out.2.2.1.trans (by rw [← HNE.out]))
        clear c0 c4 z6
        go_wp2_with fail
        refine (HNM.out W7).mono ?_
        rintro e W9 ⟨rfl, hb9⟩
        have HS9 : Hid (Ws W0 g g (.slice none 0 0) W9 v7 (wsB (L.take (k + 1)))) := by
          show Ws _ _ _ _ _ _ _
          rw [HST.out]
          exact HS7.out.later hb9
        clear hb9 HNM c2 z7
        go_wp2_with fail
        go_roundw
        case rel => exact ⟨k + 1, v7, _, by omega, by go_num, rfl, HU9.out, HS9.out, HDN.out⟩
        case measure => simp [intOf]; omega
      · have HA : Below W6.heap.size W6 (W6.alloc (.cells #[.slice sd ld cd] 24)) := (Below.refl _ _).alloc (Nat.le_refl _) _
        have hbn := Ws.bsn (HM6.out.keep HA) HG.out HG.out (Nat.le_trans HB6.out.size HA.size) ((HBS.out.keep HB6.out (Nat.le_refl _)).keep HA HB6.out.size)
        have HC := raw_any g g (some ⟨W6.heap.size, 0, none⟩) 1 [x.data] Y vr (W6.alloc (.cells #[.slice sd ld cd] 24)) (HS6.out.G.alloc _) (HM6.out.keep HA) (Nat.le_trans (Nat.le_of_lt HZG.out) HA.size) (by have := HYL.out; have := HLL.out; have := HLD.out; simp; omega) (by simp) (partsN_one hbn (Bk.new _ _ _) (new_s HM6.out HZG.out))
        simp only [List.flatten_cons, List.flatten_nil, List.append_nil] at HC
        have HC := Lib.hid HC
        have HSA := Lib.hid (HSR.out.later HA)
        have HKA := Lib.hid (HK6.out.keep HA)
        clear HA hbn
        go_wp2_with fail
        refine HC.out.mono ?_
        rintro e W7 h
        obtain ⟨rfl, v7, H7⟩ := HSA.out.call h
        have K7 := H7.bk HM6.out HK6.out HNG.out ht_pt
        rw [← show wB x = x.data from wB_2 HKD.out] at H7
        have HS7 := Lib.hid (HS6.out.trans H7)
        have HK7 := Lib.hid K7
        have HB7 := Lib.hid (HMV.out _ _ _ HS7.out)
        have z7 := K7.lt
        clear h HC H7 HKA HSA
        obtain ⟨ux, hux⟩ : ∃ ux, ux = strN (wB x) := ⟨_, rfl⟩
        have HUX := Lib.hid hux
        have hsx : ux.size ≤ 1016 := by rw [hux, strN_size]; exact HWL.out
        have HU9 : Hid (u ++ ux = strN (wsB (L.take (k + 1)))) := by show _ = _; rw [HST.out, HU.out, hux, strN_append]
        have hs12 : ¬ (9223372036854775807 < u.size + ux.size) := by omega
        clear hux
        have c4 := (HK7.out.cell 4).trans H0.out.2.2.2
        have hcv := conv_bs (HBS.out.keep HB7.out (Nat.le_refl _))
        rw [← wB_2 HKD.out, ← HUX.out] at hcv
        have HS9 : Hid (Ws W0 g g (.slice none 0 0) W7 v7 (wsB (L.take (k + 1)))) := by
          show Ws _ _ _ _ _ _ _
          rw [HST.out]
          exact HS7.out
        clear c0 z6
        go_wp2_with fail
        go_roundw
        case rel => exact ⟨k + 1, v7, _, by omega, by go_num, rfl, HU9.out, HS9.out, HDN.out⟩
        case measure => simp [intOf]; omega
      · have HC := Lib.hid (text_any g g (.slice sd ld cd) x.data Y vr W6 HS6.out.G HM6.out (Nat.le_of_lt HZG.out) (by have := HYL.out; have := HLL.out; have := HLD.out; omega) (Ws.bsn HM6.out HG.out HG.out HB6.out.size (HBS.out.keep HB6.out (Nat.le_refl _))))
        have HSA := HSR
        have HKA := HK6
        have HNM : Hid (∀ W, Calls Try.prog 12 #[.string (strN x.data)] W fun e w' => e = .returned (.string (strN (wB x))) ∧ Below W.heap.size W w') := fun W => by rw [wB_3 HKD.out]; exact rftext_any x.data W (by have := HLL.out; have := HLD.out; omega)
        go_wp2_with fail
        refine HC.out.mono ?_
        rintro e W7 h
        obtain ⟨rfl, v7, H7⟩ := HSA.out.call h
        have K7 := H7.bk HM6.out HK6.out HNG.out ht_pt
        rw [← show wB x = countL x.data.length ++ x.data from wB_3 HKD.out] at H7
        have HS7 := Lib.hid (HS6.out.trans H7)
        have HK7 := Lib.hid K7
        have HB7 := Lib.hid (HMV.out _ _ _ HS7.out)
        have z7 := K7.lt
        clear h HC H7 HKA HSA
        obtain ⟨ux, hux⟩ : ∃ ux, ux = strN (wB x) := ⟨_, rfl⟩
        have HUX := Lib.hid hux
        have hsx : ux.size ≤ 1016 := by rw [hux, strN_size]; exact HWL.out
        have HU9 : Hid (u ++ ux = strN (wsB (L.take (k + 1)))) := by show _ = _; rw [HST.out, HU.out, hux, strN_append]
        have hs12 : ¬ (9223372036854775807 < u.size + ux.size) := by omega
        clear hux
        rw [← HUX.out] at HNM
        have c4 := (HK7.out.cell 4).trans H0.out.2.2.2
        have hcv := conv_bs (HBS.out.keep HB7.out (Nat.le_refl _))
        obtain ⟨ud, hud⟩ : ∃ u, u = strN x.data := ⟨_, rfl⟩
        rw [← hud] at HNM hcv
        clear c0 z6 hud
        go_wp2_with fail
        refine (HNM.out W7).mono ?_
        rintro e W9 ⟨rfl, hb9⟩
        have HS9 : Hid (Ws W0 g g (.slice none 0 0) W9 v7 (wsB (L.take (k + 1)))) := by
          show Ws _ _ _ _ _ _ _
          rw [HST.out]
          exact HS7.out.later hb9
        clear hb9 HNM c4 z7 hcv
        go_wp2_with fail
        go_roundw
        case rel => exact ⟨k + 1, v7, _, by omega, by go_num, rfl, HU9.out, HS9.out, HDN.out⟩
        case measure => simp [intOf]; omega
      · have HA : Below W6.heap.size W6 (W6.alloc (.cells #[.slice (some ⟨g6, 5, none⟩) 32 32] 24)) := (Below.refl _ _).alloc (Nat.le_refl _) _
        have K6a := HK6.out.keep HA
        have HC := raw_any g g (some ⟨W6.heap.size, 0, none⟩) 1 [x.id] Y vr (W6.alloc (.cells #[.slice (some ⟨g6, 5, none⟩) 32 32] 24)) (HS6.out.G.alloc _) (HM6.out.keep HA) (Nat.le_trans (Nat.le_of_lt HZG.out) HA.size) (by have := HYL.out; have := HI.out.2.2.2.2.2.1; simp; omega) (by simp) (partsN_one (HPI.out _ _ _ K6a (not_s (HM6.out.keep HA) K6a HNG.out ht_pt)) (Bk.new _ _ _) (new_s HM6.out HZG.out))
        simp only [List.flatten_cons, List.flatten_nil, List.append_nil] at HC
        have HC := Lib.hid HC
        have HSA := Lib.hid (HSR.out.later HA)
        have HKA := Lib.hid K6a
        clear HA K6a
        go_wp2_with fail
        refine HC.out.mono ?_
        rintro e W7 h
        obtain ⟨rfl, v7, H7⟩ := HSA.out.call h
        have K7 := H7.bk HM6.out HK6.out HNG.out ht_pt
        rw [← show wB x = x.id from wB_4 HKD.out] at H7
        have HS7 := Lib.hid (HS6.out.trans H7)
        have HK7 := Lib.hid K7
        have HB7 := Lib.hid (HMV.out _ _ _ HS7.out)
        have z7 := K7.lt
        clear h HC H7 HKA HSA
        obtain ⟨ux, hux⟩ : ∃ ux, ux = strN (wB x) := ⟨_, rfl⟩
        have HUX := Lib.hid hux
        have hsx : ux.size ≤ 1016 := by rw [hux, strN_size]; exact HWL.out
        have HU9 : Hid (u ++ ux = strN (wsB (L.take (k + 1)))) := by show _ = _; rw [HST.out, HU.out, hux, strN_append]
        have hs12 : ¬ (9223372036854775807 < u.size + ux.size) := by omega
        clear hux
        have hcv := conv_bs (HPI.out W7 (fun _ => False) g6 HK7.out (fun h => h)).bs
        rw [← wB_4 HKD.out, ← HUX.out] at hcv
        have HS9 : Hid (Ws W0 g g (.slice none 0 0) W7 v7 (wsB (L.take (k + 1)))) := by
          show Ws _ _ _ _ _ _ _
          rw [HST.out]
          exact HS7.out
        clear c0 c4 z6
        go_wp2_with fail
        go_roundw
        case rel => exact ⟨k + 1, v7, _, by omega, by go_num, rfl, HU9.out, HS9.out, HDN.out⟩
        case measure => simp [intOf]; omega
      · have hwx := wB_x HKD.out hx
        obtain ⟨x0, x1, x2, x3, x4⟩ := hx
        have d0_ : (kd == 0) = false := by simpa using x0
        have d1_ : (kd == 1) = false := by simpa using x1
        have d2_ : (kd == 2) = false := by simpa using x2
        have d3_ : (kd == 3) = false := by simpa using x3
        have d4_ : (kd == 4) = false := by simpa using x4
        have HU9 : Hid (u = strN (wsB (L.take (k + 1)))) := by show _ = _; rw [HST.out, HU.out, hwx, List.append_nil]
        have HS9 : Hid (Ws W0 g g (.slice none 0 0) W6 vr (wsB (L.take (k + 1)))) := by
          show Ws _ _ _ _ _ _ _
          rw [HST.out]
          rw [hwx, List.append_nil]
          exact HS6.out
        clear x0 x1 x2 x3 x4 hwx z6
        go_wp2_with fail
        go_roundw
        case rel => exact ⟨k + 1, vr, _, by omega, by go_num, rfl, HU9.out, HS9.out, HDN.out⟩
        case measure => simp [intOf]; omega
    · obtain rfl : k = n := by omega
      have j1 : decide ((k : Int) < (k : Int)) = false := decide_eq_false (by omega)
      have eTL : L.take k = L := by rw [HN.out]; exact List.take_length
      rw [eTL] at HU HR HD
      have hXL : (wsB L).length ≤ 60000 := by
        have h1 := wsB_len L (fun y hy => ⟨HD.out y hy, (HPT.out y hy).2.2.2.2.2.1⟩)
        have h2 := HN.out
        omega
      have hX2 : ∀ b ∈ wsB L, b < 256 := wsB_lt L HPT.out
      have HX := Lib.hid (show (wsB L).length ≤ 60000 ∧ ∀ b ∈ wsB L, b < 256 from ⟨hXL, hX2⟩)
      have HBW := Lib.hid (HMV.out _ _ _ HR.out)
      have HBY := bytes_any g g (wsB L) vr wr HR.out.G HR.out.M hX2 (by omega)
      obtain ⟨sv, cv, rfl⟩ := HR.out.M.slice
      have HR2 := Lib.hid (show Bk wr g 26 #[.slice sv (wsB L).length cv] ∧ Mine wr g (.slice sv (wsB L).length cv) (wsB L) from ⟨HR.out.G, HR.out.M⟩)
      have hul : u.size = (wsB L).length := by rw [HU.out, strN_size]
      have e0 : ((u.size : Int) != (u.size : Int)) = false := by simp
      obtain ⟨XS, hXS⟩ : ∃ X, X = wsB L := ⟨_, rfl⟩
      have HXS := Lib.hid hXS
      rw [← hXS] at HX HBY HR2 hul HU
      rw [← hul] at HR2
      have hu9 : u.size ≤ 60000 := by rw [hul]; exact HX.out.1
      have HUL := Lib.hid hul
      clear hXL hX2 HR hlt hul eTL hXS
      go_wp2_with fail
      refine HBY.mono ?_
      rintro e W1 ⟨v1, rfl, M1, B1⟩
      have cv1 := conv_bs (M1.bs HX.out.2)
      obtain ⟨s1, c1, rfl⟩ := M1.slice
      rw [← HU.out] at cv1
      rw [← HUL.out] at cv1
      have HB1 := Lib.hid B1
      have HLE : Hid (∀ W, Below wr.heap.size wr W → Calls Try.prog 14 #[.pointer (some ⟨g, 0, none⟩)] W fun e w' => e = .returned (.int .i64 (u.size : Int)) ∧ w' = W) := fun W h => wlen_any g u.size sv cv W (HR2.out.1.keep h)
      have HBZ : Hid (∀ W, Below wr.heap.size wr W → Calls Try.prog 13 #[.pointer (some ⟨g, 0, none⟩)] W fun e w' => ∃ v', e = .returned v' ∧ Mine w' W.heap.size v' XS ∧ Below W.heap.size W w') := fun W h => bytes_any g g XS _ W (HR2.out.1.keep h) (HR2.out.2.keep h) HX.out.2 (by have := HX.out.1; omega)
      rw [← HUL.out]
      clear B1 HBY M1
      go_wp2_with fail
      refine (HLE.out _ HB1.out).mono ?_
      rintro e W1 ⟨rfl, rfl⟩
      go_wp2_with fail
      refine (HBZ.out _ HB1.out).mono ?_
      rintro e W3 ⟨v3, rfl, M3, B3⟩
      have hB3 := below_step HB1.out HB1.out.size B3
      have HW3 := Lib.hid (below_step HBW.out HBW.out.size hB3)
      have HRE := read_any XS v3 W3 (M3.bs HX.out.2) (by have := HX.out.1; omega) HX.out.2
      obtain ⟨s3, c3, rfl⟩ := M3.slice
      clear cv1 B3 hB3 M3 HBZ HLE HB1 HR2
      go_wp2_with fail
      refine HRE.mono ?_
      rintro e W5 ⟨p, v5, rfl, R5, B5, hp, hv5⟩
      have HW5 := Lib.hid (below_step HW3.out HW3.out.size B5)
      have HP := Lib.hid (Nat.le_trans HW3.out.size hp)
      have HR5 : Hid (RdS W5 p v5 (wsB (L.drop 0), 0)) := by
        show RdS _ _ _ _
        rw [List.drop_zero, ← HXS.out]
        exact R5
      clear HRE B5 hp hv5 R5 HW3 e0
      go_wp2_with fail
      obtain ⟨w0, hw0⟩ : ∃ x, x = wr := ⟨_, rfl⟩
      rw [← hw0] at HBW
      clear HBW hw0
      go_loopw [103] (fun i wx => ∃ (k2 : Nat) (vx : Value), k2 ≤ k ∧ i = .int .i64 k2 ∧ Hid (Below w.heap.size w wx) ∧ Hid (RdS wx p vx (wsB (L.drop k2), 0))) (fun i _ => k - (intOf i).toNat)
      case atStart => exact ⟨0, v5, Nat.zero_le _, rfl, HW5, HR5⟩
      case round =>
        obtain ⟨k2, vx, hk2, rfl, HB, HQ⟩ := hrel
        clear HW5 HR5
        by_cases hlt2 : k2 < k
        · obtain ⟨x, b, o, hkt, rfl, hbw, hI, hrg⟩ := HL.out k2 hlt2
          have j2 : decide ((k2 : Int) < (k : Int)) = true := decide_eq_true (by omega)
          have hTB := HB.out
          replace hrg := rowr_belowX hrg hTB hbw
          have hDR := wsB_drop L k2 x hkt
          have hdl : x.data.length ≤ 1000 := HD.out x (List.mem_of_getElem? hkt)
          have hs37 := pt_size x hI.2.2.2.2.2
          have hone := pt_one x (by obtain ⟨_, _, e, _⟩ := hI.2.2.2.2.1; rw [e]; rfl)
          obtain ⟨hstc, K6, B6⟩ := pt_made2 x hs37 hone wr
          have hps : (Try.prog.info? 31).map (·.size) = some (ptL x).length := by rw [hs37]; exact pt_info
          have hRL : (wsB (L.drop (k2 + 1))).length ≤ 60000 := by
            have h1 := wsB_len (L.drop (k2 + 1)) (fun y hy => ⟨HD.out y (List.mem_of_mem_drop hy), (HPT.out y (List.mem_of_mem_drop hy)).2.2.2.2.2.1⟩)
            have h2 : (L.drop (k2 + 1)).length ≤ L.length := by rw [List.length_drop]; omega
            have h3 := HN.out
            omega
          have hQ := HQ.out
          rw [hDR] at hQ
          obtain ⟨R, hR⟩ : ∃ R, R = wsB (L.drop (k2 + 1)) := ⟨_, rfl⟩
          have HRR := Lib.hid hR
          rw [← hR] at hQ hRL
          have HQ6 := Lib.hid (show RdS _ p vx (wB x ++ R, 0) from Rd.keep hQ B6)
          have HB6 := Lib.hid (below_step hTB hTB.size B6)
          have HNP : Hid (wr.heap.size ≠ p) := by have := hQ.1.lt; show wr.heap.size ≠ p; omega
          have HI := Lib.hid hI
          have HRL := Lib.hid hRL
          have H0 : Hid ((ptA x)[0]? = some (.int .i64 x.kind) ∧ (ptA x)[1]? = some (.int .i64 x.size) ∧ (ptA x)[2]? = some (.int .u64 (x.n : Int)) ∧ (ptA x)[4]? = some x.dv) := ⟨rfl, rfl, rfl, rfl⟩
          have HBS := Lib.hid hI.2.2.2.2.1
          obtain ⟨sd, cd, hdv⟩ : ∃ s c, x.dv = .slice s x.data.length c := by obtain ⟨s, c, e, _⟩ := hI.2.2.2.2.1; exact ⟨s, c, e⟩
          obtain ⟨ld, hld⟩ : ∃ l, l = x.data.length := ⟨_, rfl⟩
          have HLD := Lib.hid hld
          have HDL : Hid (ld ≤ 1000) := by show ld ≤ 1000; rw [hld]; exact hdl
          rw [hdv, ← hld] at HBS H0
          have HIL : Hid (∀ W : World, Bk W wr.heap.size 31 (ptA x) → (loadCellsFrom ⟨wr.heap.size, 5, none⟩ 0 32 #[]).run Try.prog W = .ok (idA x.id) W) := fun W h => pt_idload x W _ HI.out.2.2.2.2.2.1 h
          obtain ⟨PA, hPA⟩ : ∃ P, P = ptA x := ⟨_, rfl⟩
          rw [← hPA] at K6 H0 HIL
          obtain ⟨PL, hPL⟩ : ∃ P, P = ptL x := ⟨_, rfl⟩
          rw [← hPL] at hstc hrg hps hs37 K6 B6 HQ6 HB6
          clear hI hkt hTB hbw hone hdv hld hPA hPL B6 HQ hQ HB hDR hdl hR hRL
          go_upto_region 35 with (refine wpList_load_mid rfl 31 (.tmp 105) rfl b (o + k2 * 37) rfl PL _ hrg Try.underlying31 rfl hps ?_)
          refine wp_any (fun W => Below w.heap.size w W ∧ RdS W p vx (wB x ++ R, 0) ∧ Bk W wr.heap.size 31 PA) ⟨HB6.out, HQ6.out, K6⟩ ?_
          clear HB6 HQ6 K6 hstc hps hs37 hrg
          generalize wr.heap.size = g9 at *
          rintro W6 ⟨hB6, hQ6, K6⟩
          have HB6 := Lib.hid hB6
          have HQ6 := Lib.hid hQ6
          have HK6 := Lib.hid K6
          have HFK : Hid (∀ W', But (fun k => k = p) W6 W' → Bk W' g9 31 PA) := fun W' h => h.keep HK6.out HNP.out
          have HFB : Hid (∀ W', But (fun k => k = p) W6 W' → Below w.heap.size w W') := fun W' h => took_below HB6.out HP.out h
          have c0 := (K6.cell 0).trans H0.out.1
          have z6 := K6.lt
          have hps9 : g9 ≠ p := HNP.out
          obtain ⟨kd, hkd⟩ : ∃ kd, kd = x.kind := ⟨_, rfl⟩
          rw [← hkd] at c0
          have HKD := Lib.hid hkd
          clear hkd hB6 hQ6 K6
          rcases kinds kd with rfl | rfl | rfl | rfl | rfl | hx
          · have c1 := (HK6.out.cell 1).trans H0.out.2.1
            have c2 := (HK6.out.cell 2).trans H0.out.2.2.1
            have HSZ : Hid (∀ W, Calls Try.prog 7 #[.int .i64 x.size] W fun r w' => r = .returned (.int .i64 ((sz8 x.size : Nat) : Int)) ∧ Below W.heap.size W w') := fun W => by rw [sz8_eq]; exact rsize_any x.size W HI.out.2.1
            have HWB := Lib.hid (wB_0 HKD.out)
            have HL8 : Hid (sz8 x.size ≤ 8) := sz8_le _
            obtain ⟨s8, hs8⟩ : ∃ s, s = sz8 x.size := ⟨_, rfl⟩
            rw [← hs8] at HSZ HWB HL8
            obtain ⟨sz, hsz⟩ : ∃ s, s = x.size := ⟨_, rfl⟩
            rw [← hsz] at c1 HSZ
            have HC1 : Hid (∀ W', Below W6.heap.size W6 W' → W'.cell? ⟨g9, 1, none⟩ = some (.int .i64 sz)) := fun W' h => ((HK6.out.keep h).cell 1).trans (H0.out.2.1.trans (by rw [hsz]))
            obtain ⟨nn, hnn⟩ : ∃ s, s = x.n := ⟨_, rfl⟩
            rw [← hnn] at c2
            have HC2 : Hid (∀ W', Below W6.heap.size W6 W' → W'.cell? ⟨g9, 2, none⟩ = some (.int .u64 (nn : Int))) := fun W' h => ((HK6.out.keep h).cell 2).trans (H0.out.2.2.1.trans (by rw [hnn]))
            have HN6 : Hid (∀ W', Below W6.heap.size W6 W' → Calls Try.prog 16 #[.pointer (some ⟨p, 0, none⟩), .int .i64 ((s8 : Nat) : Int)] W' fun r w' => r = .returned (.int .u64 ((nn % 256 ^ s8 : Nat) : Int)) ∧ ∃ v', Took p vx (R, 0) W' w' v') := fun W' hb => by
              have h := HQ6.out
              rw [HWB.out] at h
              have hn := num_any p (s8 : Int) vx (toL x.n s8 ++ R, 0) W' (Rd.keep h hb) ⟨by have := HRL.out; have := HL8.out; simp only [List.length_append, toL_length]; omega, by simp⟩
              rw [rdNum_mod s8 x.n R HL8.out, ← hnn] at hn
              exact hn
            have HNB : Hid (nn < 18446744073709551616) := by have := HI.out.2.2.1; show nn < _; rw [hnn]; exact this
            clear hs8 hsz hnn
            go_upto_region 37 with fail
            go_cut [10] (fun s10 wx => s10 = .int .u64 ((8 * s8 : Nat) : Int) ∧ Below W6.heap.size W6 wx)
            case first =>
              go_wp2_with fail
              refine (HSZ.out _).mono ?_
              rintro e W7 ⟨rfl, hb7⟩
              go_wp2_with fail
              go_meet
              exact ⟨by rw [w8_eq s8 HL8.out], hb7⟩
            case rest =>
              obtain ⟨rfl, hbc⟩ := hcut
              have d2 := HC2.out _ hbc
              clear c1 c2
              obtain ⟨q8, hq8⟩ : ∃ q : Int, q = ((8 * s8 : Nat) : Int) := ⟨_, rfl⟩
              rw [← hq8]
              by_cases h8 : s8 < 8
              · have f8 : decide (q8 < 64) = true := decide_eq_true (by omega)
                have hm8 := m8_eq s8 nn h8 HNB.out
                rw [show 8 * s8 = q8.toNat by omega] at hm8
                have hq0 : 0 ≤ q8 := by omega
                have hq1 : ¬ q8 < 0 := by omega
                obtain ⟨mm, hmm⟩ : ∃ m, m = nn % 256 ^ s8 := ⟨_, rfl⟩
                rw [← hmm] at HN6 hm8
                clear hmm h8 hq8
                have d1 := HC1.out _ hbc
                have e0 : ((mm : Int) != (mm : Int)) = false := by simp
                go_wp2_with fail
                refine (HSZ.out _).mono ?_
                rintro e W8 ⟨rfl, hb8⟩
                have hb9 := below_step hbc hbc.size hb8
                clear d1 d2 hb8 hbc
                go_wp2_with fail
                refine (HN6.out _ hb9).mono ?_
                rintro e w7 ⟨rfl, v7, T7⟩
                have HZ : Hid (RdS w7 p v7 (wsB (L.drop (k2 + 1)), 0)) := by show RdS _ _ _ _; rw [← HRR.out]; exact T7.1
                have HY := Lib.hid (took_below (HB6.out.trans (hb9.mono HB6.out.size)) HP.out T7.2.1)
                clear hb9 T7
                go_wp2_with fail
                go_roundw
                case rel => exact ⟨k2 + 1, v7, by omega, by go_num, HY, HZ⟩
                case measure => simp [intOf]; omega
              · have f8 : decide (q8 < 64) = false := decide_eq_false (by omega)
                have h9 : s8 = 8 := by have := HL8.out; omega
                have hq : nn % 256 ^ s8 = nn := by rw [h9]; exact Nat.mod_eq_of_lt (Nat.lt_of_lt_of_le HNB.out (by decide))
                rw [hq] at HN6
                clear hq h9 h8 hq8
                have d1 := HC1.out _ hbc
                have e0 : ((nn : Int) != (nn : Int)) = false := by simp
                go_wp2_with fail
                refine (HSZ.out _).mono ?_
                rintro e W8 ⟨rfl, hb8⟩
                have hb9 := below_step hbc hbc.size hb8
                clear d1 d2 hb8 hbc
                go_wp2_with fail
                refine (HN6.out _ hb9).mono ?_
                rintro e w7 ⟨rfl, v7, T7⟩
                have HZ : Hid (RdS w7 p v7 (wsB (L.drop (k2 + 1)), 0)) := by show RdS _ _ _ _; rw [← HRR.out]; exact T7.1
                have HY := Lib.hid (took_below (HB6.out.trans (hb9.mono HB6.out.size)) HP.out T7.2.1)
                clear hb9 T7
                go_wp2_with fail
                go_roundw
                case rel => exact ⟨k2 + 1, v7, by omega, by go_num, HY, HZ⟩
                case measure => simp [intOf]; omega
          · have HN := rcount_any p x.n vx (countL x.n ++ R, 0) W6.drew (by
              have h := HQ6.out
              rw [wB_1 HKD.out] at h
              exact Rd.keep h (Below.refl _ _).drew) ⟨by have := HRL.out; have := countL_len x.n; simp only [List.length_append]; omega, by simp⟩
            rw [rdCount_fits x.n x.n R (by have := HI.out.2.2.1; omega) (Nat.le_refl _)] at HN
            have c2 := (HK6.out.cell 2).trans H0.out.2.2.1
            have HC2 : Hid (∀ W', But (fun k => k = p) W6 W' → W'.cell? ⟨g9, 2, none⟩ = some (.int .u64 (x.n : Int))) := fun W' h => ((HFK.out W' h).cell 2).trans H0.out.2.2.1
            obtain ⟨nn, hnn⟩ : ∃ s, s = x.n := ⟨_, rfl⟩
            rw [← hnn] at HN c2 HC2
            have e0 : ((nn : Int) != (nn : Int)) = false := by simp
            clear hnn
            go_upto_region 44 with fail
            go_region_held (fun w' => w'.cell? ⟨g9, 2, none⟩ = some (.int .u64 (nn : Int)) ∧ But (fun k => k = p) W6 w')
              ((refine ⟨?_, ?_⟩; (focus (first | with_reducible assumption | exact c2 | simpa [World.drew] using c2)); (focus (first | with_reducible assumption | exact (But.refl _ _).drew))))
              (first
                | (go_at_call 17
                   with_reducible refine HN.mono ?_
                   rintro e w7 ⟨rfl, v7, T7⟩
                   have B7 : But (fun k => k = p) W6 w7 := ((But.refl _ _).drew).trans T7.2.1 (fun _ _ h => h)
                   have d7 := HC2.out w7 B7))
            have HZ : Hid (RdS w7 p v7 (wsB (L.drop (k2 + 1)), 0)) := by show RdS _ _ _ _; rw [← HRR.out]; exact T7.1
            have HY := Lib.hid (HFB.out _ B7)
            clear T7 B7 c2 d7 c0 z6 HC2 HN
            go_wp2_with fail
            go_roundw
            case rel => exact ⟨k2 + 1, v7, by omega, by go_num, HY, HZ⟩
            case measure => simp [intOf]; omega
          · have HN := rraw_any p (ld : Int) vx (x.data ++ R, 0) W6.drew (by
              have h := HQ6.out
              rw [wB_2 HKD.out] at h
              exact Rd.keep h (Below.refl _ _).drew) ⟨by have := HRL.out; have := HDL.out; have := HLD.out; simp only [List.length_append]; omega, by simp⟩
            rw [rdTake_app x.data R 0 ld (by rw [HLD.out])] at HN
            have hdlt : ∀ y ∈ x.data, y < 256 := by obtain ⟨_, _, _, _, _, h, _⟩ := HI.out.2.2.2.2.1; exact h
            have HDT := Lib.hid hdlt
            have c4 := (HK6.out.cell 4).trans H0.out.2.2.2
            have HC4 : Hid (∀ W', But (fun k => k = p) W6 W' → W'.cell? ⟨g9, 4, none⟩ = some (.slice sd ld cd)) := fun W' h => ((HFK.out W' h).cell 4).trans H0.out.2.2.2
            have HCV : Hid (∀ W', But (fun k => k = p) W6 W' → (convert 24 9 (.slice sd ld cd)).run Try.prog W' = .ok (.string (strN x.data)) W') := fun W' h => conv_bs (HBS.out.keep (HFB.out W' h) (Nat.le_refl _))
            obtain ⟨ud, hud⟩ : ∃ u, u = strN x.data := ⟨_, rfl⟩
            rw [← hud] at HCV
            have HUD := Lib.hid hud
            clear hud hdlt
            go_upto_region 47 with fail
            go_region_held (fun w' => w'.cell? ⟨g9, 4, none⟩ = some (.slice sd ld cd) ∧ (convert 24 9 (.slice sd ld cd)).run Try.prog w' = .ok (.string ud) w' ∧ But (fun k => k = p) W6 w')
              ((refine ⟨?_, ?_, ?_⟩; (focus (first | with_reducible assumption | exact c4 | simpa [World.drew] using c4)); (focus (first | with_reducible assumption | exact HCV.out _ (But.refl _ _).drew)); (focus (first | with_reducible assumption | exact (But.refl _ _).drew))))
              (first
                | (go_at_call 18
                   with_reducible refine HN.mono ?_
                   rintro e w7 ⟨u7, rfl, M7, v7, T7⟩
                   have B7 : But (fun k => k = p) W6 w7 := ((But.refl _ _).drew).trans T7.2.1 (fun _ _ h => h)
                   have d7 := HC4.out w7 B7
                   have q7 := HCV.out w7 B7
                   have m7 := conv_bs (M7.bs HDT.out)
                   rw [← HUD.out] at m7
                   obtain ⟨s7, c7, e7⟩ := M7.slice
                   subst e7
                   rw [← HLD.out] at m7 ⊢))
            have HZ : Hid (RdS w7 p v7 (wsB (L.drop (k2 + 1)), 0)) := by show RdS _ _ _ _; rw [← HRR.out]; exact T7.1
            have HY := Lib.hid (HFB.out _ B7)
            clear T7 B7 c4 d7 q7 m7 M7 c0 z6 HC4 HCV HN
            go_wp2_with fail
            go_roundw
            case rel => exact ⟨k2 + 1, v7, by omega, by go_num, HY, HZ⟩
            case measure => simp [intOf]; omega
          · have HN := rtext_any p (ld : Int) vx ((countL x.data.length ++ x.data) ++ R, 0) W6.drew (by
              have h := HQ6.out
              rw [wB_3 HKD.out] at h
              exact Rd.keep h (Below.refl _ _).drew) ⟨by have := HRL.out; have := HDL.out; have := HLD.out; have := countL_len x.data.length; simp only [List.length_append]; omega, by simp⟩ (by have := HDL.out; omega)
            rw [rdText_own x.data R ld HLD.out (by rw [← HLD.out]; exact HDL.out)] at HN
            have hdlt : ∀ y ∈ x.data, y < 256 := by obtain ⟨_, _, _, _, _, h, _⟩ := HI.out.2.2.2.2.1; exact h
            have HDT := Lib.hid hdlt
            have c4 := (HK6.out.cell 4).trans H0.out.2.2.2
            have HC4 : Hid (∀ W', But (fun k => k = p) W6 W' → W'.cell? ⟨g9, 4, none⟩ = some (.slice sd ld cd)) := fun W' h => ((HFK.out W' h).cell 4).trans H0.out.2.2.2
            have HCV : Hid (∀ W', But (fun k => k = p) W6 W' → (convert 24 9 (.slice sd ld cd)).run Try.prog W' = .ok (.string (strN x.data)) W') := fun W' h => conv_bs (HBS.out.keep (HFB.out W' h) (Nat.le_refl _))
            obtain ⟨ud, hud⟩ : ∃ u, u = strN x.data := ⟨_, rfl⟩
            rw [← hud] at HCV
            have HUD := Lib.hid hud
            clear hud hdlt
            go_upto_region 50 with fail
            go_region_held (fun w' => w'.cell? ⟨g9, 4, none⟩ = some (.slice sd ld cd) ∧ (convert 24 9 (.slice sd ld cd)).run Try.prog w' = .ok (.string ud) w' ∧ But (fun k => k = p) W6 w')
              ((refine ⟨?_, ?_, ?_⟩; (focus (first | with_reducible assumption | exact c4 | simpa [World.drew] using c4)); (focus (first | with_reducible assumption | exact HCV.out _ (But.refl _ _).drew)); (focus (first | with_reducible assumption | exact (But.refl _ _).drew))))
              (first
                | (go_at_call 19
                   with_reducible refine HN.mono ?_
                   rintro e w7 ⟨u7, rfl, M7, v7, T7⟩
                   have B7 : But (fun k => k = p) W6 w7 := ((But.refl _ _).drew).trans T7.2.1 (fun _ _ h => h)
                   have d7 := HC4.out w7 B7
                   have q7 := HCV.out w7 B7
                   have m7 := conv_bs (M7.bs HDT.out)
                   rw [← HUD.out] at m7
                   obtain ⟨s7, c7, e7⟩ := M7.slice
                   subst e7
                   rw [← HLD.out] at m7 ⊢))
            have HZ : Hid (RdS w7 p v7 (wsB (L.drop (k2 + 1)), 0)) := by show RdS _ _ _ _; rw [← HRR.out]; exact T7.1
            have HY := Lib.hid (HFB.out _ B7)
            clear T7 B7 c4 d7 q7 m7 M7 c0 z6 HC4 HCV HN
            go_wp2_with fail
            go_roundw
            case rel => exact ⟨k2 + 1, v7, by omega, by go_num, HY, HZ⟩
            case measure => simp [intOf]; omega
          · have HN := rid_any p vx (x.id ++ R, 0) W6.drew (by
              have h := HQ6.out
              rw [wB_4 HKD.out] at h
              exact Rd.keep h (Below.refl _ _).drew) ⟨by have := HRL.out; have := HI.out.2.2.2.2.2.1; simp only [List.length_append]; omega, by simp⟩
            rw [rdTake_app x.id R 0 32 (by have := HI.out.2.2.2.2.2.1; omega)] at HN
            simp only [idOf_own x.id HI.out.2.2.2.2.2.1] at HN
            change Calls _ _ _ _ (fun r w' => r = .returned (.agg (idA x.id)) ∧ ∃ v', Took p vx (R, 0) W6.drew w' v') at HN
            have heq := fun w => id_eq' (x := x.id) HI.out.2.2.2.2.2.1 w
            obtain ⟨Y, hY⟩ : ∃ Y, Y = idA x.id := ⟨_, rfl⟩
            rw [← hY] at HN HIL heq
            obtain ⟨tl, htl⟩ : ∃ tl : TypeId, tl = 29 := ⟨_, rfl⟩
            obtain ⟨szl, hszl⟩ : ∃ szl : Nat, szl = 32 := ⟨_, rfl⟩
            have hag : ∀ w, (isAgg tl).run Try.prog w = .ok true w := by rw [htl]; exact id_agg'
            have hsz : ∀ w, (sizeOf tl).run Try.prog w = .ok szl w := by rw [htl, hszl]; exact id_size'
            have hld : ∀ W', Bk W' g9 31 PA → (loadCellsFrom ⟨g9, 5, none⟩ 0 szl #[]).run Try.prog W' = .ok Y W' := by rw [hszl]; exact HIL.out
            have HTL := Lib.hid (show ∀ z, Op.load 29 z = Op.load tl z from fun z => by rw [htl])
            clear htl hszl hY
            go_upto_region 53 with fail
            have htl2 := HTL.out
            simp only [htl2]
            clear htl2
            go_region_held (fun w' => Bk w' g9 31 PA ∧ But (fun k => k = p) W6 w')
              ((refine ⟨?_, ?_⟩; (focus (first | with_reducible assumption | exact Bk.drew HK6.out)); (focus (first | with_reducible assumption | exact (But.refl _ _).drew))))
              (first
                | (go_at_call 20
                   with_reducible refine HN.mono ?_
                   rintro e w7 ⟨rfl, v7, T7⟩
                   have B7 : But (fun k => k = p) W6 w7 := ((But.refl _ _).drew).trans T7.2.1 (fun _ _ h => h)
                   have d7 := HFK.out w7 B7))
            have HZ : Hid (RdS w7 p v7 (wsB (L.drop (k2 + 1)), 0)) := by show RdS _ _ _ _; rw [← HRR.out]; exact T7.1
            have HY := Lib.hid (HFB.out _ B7)
            clear T7 B7 d7 c0 z6 HN hld heq hag hsz
            go_wp2_with fail
            go_roundw
            case rel => exact ⟨k2 + 1, v7, by omega, by go_num, HY, HZ⟩
            case measure => simp [intOf]; omega
          · have hwx := wB_x HKD.out hx
            have HZ : Hid (RdS W6 p vx (wsB (L.drop (k2 + 1)), 0)) := by
              have h := HQ6.out
              rw [hwx, List.nil_append, HRR.out] at h
              exact h
            obtain ⟨x0, x1, x2, x3, x4⟩ := hx
            have d0_ : (kd == 0) = false := by simpa using x0
            have d1_ : (kd == 1) = false := by simpa using x1
            have d2_ : (kd == 2) = false := by simpa using x2
            have d3_ : (kd == 3) = false := by simpa using x3
            have d4_ : (kd == 4) = false := by simpa using x4
            clear x0 x1 x2 x3 x4 hwx z6
            go_wp2_with fail
            go_roundw
            case rel => exact ⟨k2 + 1, vx, by omega, by go_num, HB6, HZ⟩
            case measure => simp [intOf]; omega
        · obtain rfl : k2 = k := by omega
          have j2 : decide ((k2 : Int) < (k2 : Int)) = false := decide_eq_false (by omega)
          have hQ := HQ.out
          rw [show L.drop k2 = [] by rw [HN.out]; exact List.drop_length] at hQ
          have HQ0 := Lib.hid (show RdS wr p vx ([], 0) from hQ)
          have EN := Lib.hid (end_any p vx ([], 0) wr HQ0.out)
          have LE := Lib.hid (left_any p vx ([], 0) wr HQ0.out)
          clear hQ hlt2
          go_wp2_with fail
          refine EN.out.mono ?_
          rintro e w8 ⟨rfl, rfl⟩
          go_wp2_with fail
          refine LE.out.mono ?_
          rintro e w9 ⟨rfl, rfl⟩
          go_wp2_with fail
          go_ret
          exact ⟨rfl, HB.out⟩
end Go.Proofs.Ytfflgimbgmbpaaa.wireWrites
