/-
  WireReads: the walk.
-/
import Derived.Test.YtccgfjkahdbboaaLawWrA
import Derived.Deep.MidRow
namespace Go.Proofs.Ytccgfjkahdbboaa.wireReads
open Go.ChangeShapes Go.WideShapes Go.ChangeAt Go.RowKit
set_option linter.unusedVariables false
set_option linter.unusedSimpArgs false

theorem take_shr (s : St) (n : Int) : (rdTake s n).2.1.length ≤ s.1.length := by
  unfold rdTake
  split
  · simp only [List.length_drop]; omega
  · simp [rdFail]
theorem cnt_shr (s : St) : (rdCnt s).2.1.length ≤ s.1.length := by
  unfold rdCnt
  have h := take_shr s 1
  have e : (rdNum s 1).2 = (rdTake s 1).2 := rfl
  rw [← e] at h
  split
  · exact Nat.le_trans (take_shr _ 2) h
  · split
    · exact Nat.le_trans (take_shr _ 4) h
    · split
      · exact Nat.le_trans (take_shr _ 8) h
      · exact h
theorem fail_shr (s : St) (c : Nat) : (rdFail s c).1.length ≤ s.1.length := by simp [rdFail]
theorem count_shr (s : St) (m : Nat) : (rdCount s m).2.1.length ≤ s.1.length := by
  have h := cnt_shr s
  unfold rdCount
  split
  · exact h
  · split
    · exact Nat.zero_le _
    · split
      · exact Nat.zero_le _
      · exact h
theorem text_shr (s : St) (m : Int) : (rdText s m).2.1.length ≤ s.1.length := Nat.le_trans (take_shr _ _) (count_shr _ _)
theorem bk_but {w w' : World} {S : Nat → Prop} {g : Nat} {t : TypeId} {cs : Array Value} (h : Bk w g t cs) (hb : But S w w') (hg : ¬ S g) : Bk w' g t cs := hb.keep h hg
/-- The cells of a part. -/
def ptA (x : Pt) : Array Value := (ptL x).toArray
theorem pt_size (x : Pt) (h : IsI x.id) : (ptL x).length = 37 := by
  show (idA x.id).toList.length + 1 + 1 + 1 + 1 + 1 = 37
  rw [Array.length_toList, idA_size, h.1]
theorem pt_info : (Try.prog.info? 33).map (·.size) = some 37 := by kernel_rfl
theorem pt_one (x : Pt) (hv : x.dv.oneCell' = true) : (ptA x).all (·.oneCell') = true := by
  rw [Array.all_eq_true_iff_forall_mem]
  intro u hu
  unfold ptA ptL at hu
  rw [List.mem_toArray] at hu
  simp only [List.mem_cons] at hu
  rcases hu with rfl | rfl | rfl | rfl | rfl | hu
  · rfl
  · rfl
  · rfl
  · rfl
  · exact hv
  · unfold idA at hu
    simp only [List.mem_map] at hu
    obtain ⟨b, _, rfl⟩ := hu
    rfl
theorem rowr_belowX {C : Nat} {w w' : World} {b o : Nat} {cs : List Value} (h : w.rangeAt b o cs) (hb : Below C w w') (hC : b < C) : w'.rangeAt b o cs := fun j v hv => (hb.cell (p := ⟨b, o + j, none⟩) hC).trans (h j v hv)
theorem cells_store (g : Nat) (l : List Value) (k : Nat) (w : World) (h1 : l.toArray.all (·.oneCell') = true) (hs : l.length = k) (h : w.there g 0 k) : (storeCells ⟨g, 0, none⟩ l).run Try.prog w = .ok () (w.setCells g 0 l) := by
  have e := run_storeCells_cells (P := Try.prog) g 0 l 0 w (fun j hj => by simpa using (h j (by omega)).1) (fun j hj => by simpa using (h j (by omega)).2) (fun v hv => by
    have := Array.all_eq_true_iff_forall_mem.1 h1 v (by simpa using hv)
    simpa using this)
  simpa using e
def pz : Array Value := #[.int .i64 0, .int .i64 0, .int .u64 0, .int .u64 0, .slice none 0 0, .int .u8 0, .int .u8 0, .int .u8 0, .int .u8 0, .int .u8 0, .int .u8 0, .int .u8 0, .int .u8 0, .int .u8 0, .int .u8 0, .int .u8 0, .int .u8 0, .int .u8 0, .int .u8 0, .int .u8 0, .int .u8 0, .int .u8 0, .int .u8 0, .int .u8 0, .int .u8 0, .int .u8 0, .int .u8 0, .int .u8 0, .int .u8 0, .int .u8 0, .int .u8 0, .int .u8 0, .int .u8 0, .int .u8 0, .int .u8 0, .int .u8 0, .int .u8 0]
theorem pz_size : pz.size = 37 := rfl
theorem pt_made (x : Pt) (hs : (ptL x).length = 37) (hone : (ptA x).all (·.oneCell') = true) (w : World) : (storeCells ⟨w.heap.size, 0, none⟩ (ptL x)).run Try.prog (w.alloc (.cells pz 33)) = .ok () ((w.alloc (.cells pz 33)).setCells w.heap.size 0 (ptL x)) ∧ Bk ((w.alloc (.cells pz 33)).setCells w.heap.size 0 (ptL x)) w.heap.size 33 (ptA x) ∧ Below w.heap.size w ((w.alloc (.cells pz 33)).setCells w.heap.size 0 (ptL x)) := by
  refine ⟨cells_store w.heap.size (ptL x) 37 _ hone hs (Bk.there (Bk.new w _ pz) 37 (by rw [pz_size]; exact Nat.le_refl _)), ?_, Below.setCells (Nat.le_refl _) _ _ _ ((Below.refl _ _).alloc (Nat.le_refl _) _)⟩
  have h : (ptA x).size = pz.size := by rw [pz_size]; exact hs
  exact Bk.setAll (xs := ptA x) (Bk.new _ _ _) h
theorem pt_made2 (x : Pt) (hs : (ptL x).length = 37) (hone : (ptA x).all (·.oneCell') = true) (w : World) : (storeCells ⟨w.heap.size, 0, none⟩ (ptL x)).run Try.prog (w.alloc (.cells #[.int .i64 0, .int .i64 0, .int .u64 0, .int .u64 0, .slice none 0 0, .int .u8 0, .int .u8 0, .int .u8 0, .int .u8 0, .int .u8 0, .int .u8 0, .int .u8 0, .int .u8 0, .int .u8 0, .int .u8 0, .int .u8 0, .int .u8 0, .int .u8 0, .int .u8 0, .int .u8 0, .int .u8 0, .int .u8 0, .int .u8 0, .int .u8 0, .int .u8 0, .int .u8 0, .int .u8 0, .int .u8 0, .int .u8 0, .int .u8 0, .int .u8 0, .int .u8 0, .int .u8 0, .int .u8 0, .int .u8 0, .int .u8 0, .int .u8 0] 33)) = .ok () ((w.alloc (.cells #[.int .i64 0, .int .i64 0, .int .u64 0, .int .u64 0, .slice none 0 0, .int .u8 0, .int .u8 0, .int .u8 0, .int .u8 0, .int .u8 0, .int .u8 0, .int .u8 0, .int .u8 0, .int .u8 0, .int .u8 0, .int .u8 0, .int .u8 0, .int .u8 0, .int .u8 0, .int .u8 0, .int .u8 0, .int .u8 0, .int .u8 0, .int .u8 0, .int .u8 0, .int .u8 0, .int .u8 0, .int .u8 0, .int .u8 0, .int .u8 0, .int .u8 0, .int .u8 0, .int .u8 0, .int .u8 0, .int .u8 0, .int .u8 0, .int .u8 0] 33)).setCells w.heap.size 0 (ptL x)) ∧ Bk ((w.alloc (.cells #[.int .i64 0, .int .i64 0, .int .u64 0, .int .u64 0, .slice none 0 0, .int .u8 0, .int .u8 0, .int .u8 0, .int .u8 0, .int .u8 0, .int .u8 0, .int .u8 0, .int .u8 0, .int .u8 0, .int .u8 0, .int .u8 0, .int .u8 0, .int .u8 0, .int .u8 0, .int .u8 0, .int .u8 0, .int .u8 0, .int .u8 0, .int .u8 0, .int .u8 0, .int .u8 0, .int .u8 0, .int .u8 0, .int .u8 0, .int .u8 0, .int .u8 0, .int .u8 0, .int .u8 0, .int .u8 0, .int .u8 0, .int .u8 0, .int .u8 0] 33)).setCells w.heap.size 0 (ptL x)) w.heap.size 33 (ptA x) ∧ Below w.heap.size w ((w.alloc (.cells #[.int .i64 0, .int .i64 0, .int .u64 0, .int .u64 0, .slice none 0 0, .int .u8 0, .int .u8 0, .int .u8 0, .int .u8 0, .int .u8 0, .int .u8 0, .int .u8 0, .int .u8 0, .int .u8 0, .int .u8 0, .int .u8 0, .int .u8 0, .int .u8 0, .int .u8 0, .int .u8 0, .int .u8 0, .int .u8 0, .int .u8 0, .int .u8 0, .int .u8 0, .int .u8 0, .int .u8 0, .int .u8 0, .int .u8 0, .int .u8 0, .int .u8 0, .int .u8 0, .int .u8 0, .int .u8 0, .int .u8 0, .int .u8 0, .int .u8 0] 33)).setCells w.heap.size 0 (ptL x)) := pt_made x hs hone w
theorem str_eql (u : ByteArray) : (u.toList == u.toList) = true := by simp
/-- What stands at a round's head, and at its end. -/
structure At (w W : World) (p g : Nat) (v : Value) (t : St) : Prop where
  below : Below w.heap.size w W
  rd : RdS W p v t
  inv : StI t
  len : t.1.length ≤ 2000
  st : Bk W g 28 (stA t)
  far : t.1 ≠ [] → ∀ j, slb v j → j ≠ g
/-- Behind a call that reads. -/
theorem At.took {w W W' : World} {p g : Nat} {v v' : Value} {t t' : St} (h : At w W p g v t) (hp : w.heap.size ≤ p) (hg : p ≠ g) (k : Took p v t' W W' v') : Below w.heap.size w W' ∧ RdS W' p v' t' ∧ Bk W' g 28 (stA t) ∧ (t'.1.length ≤ t.1.length → t'.1 ≠ [] → ∀ j, slb v' j → j ≠ g) := by
  obtain ⟨k1, k2, k3⟩ := k
  refine ⟨h.below.trans (k2.below h.below.size (fun j hj => by have e : j = p := hj; omega)), k1, k2.keep h.st (fun e => hg e.symm), fun hl hne j hj => h.far (fun e => hne (List.eq_nil_of_length_eq_zero (by rw [e] at hl; exact Nat.le_zero.1 hl))) j (k3 j hj)⟩
theorem At.stored {w W : World} {p g : Nat} {v : Value} {t t' : St} (hb : Below w.heap.size w W) (hr : RdS W p v t') (hi : StI t') (hl : t'.1.length ≤ 2000) (hs : Bk W g 28 (stA t)) (hf : t'.1 ≠ [] → ∀ j, slb v j → j ≠ g) (hgw : w.heap.size ≤ g) (hp : p ≠ g) :
    At w ((W.setCell ⟨g, 0, none⟩ (.string (strN t'.1))).setCell ⟨g, 1, none⟩ (.int .i64 ((t'.2 : Nat) : Int))) p g v t' := by
  have hB : But (fun k => k = g) W ((W.setCell ⟨g, 0, none⟩ (.string (strN t'.1))).setCell ⟨g, 1, none⟩ (.int .i64 ((t'.2 : Nat) : Int))) := But.set_ (S := fun k => k = g) (But.set_ (S := fun k => k = g) (But.refl _ W) (.inl rfl) 0 none _) (.inl rfl) 1 none _
  refine ⟨(hb.setCell (by exact hgw) _).setCell (by exact hgw) _, ?_, hi, hl, st_set2 hs _ _, hf⟩
  obtain ⟨h1, ⟨a, cap, e, g1, g2, g3, g4⟩, h3⟩ := hr
  refine ⟨hB.keep h1 hp, ⟨a, cap, e, g1, g2, g3, fun hne => ?_⟩, h3⟩
  obtain ⟨b, o, e2, hlt, hn, hc⟩ := g4 hne
  subst e2
  subst e
  have hbg := hf hne b ⟨_, _, _, rfl, rfl⟩
  exact ⟨b, o, rfl, Nat.lt_of_lt_of_le hlt hB.size, hn, fun i hi => (hB.cell (p := ⟨b, o + i, none⟩) hlt hbg).trans (hc i hi)⟩
/-- Between a call that reads and the document's own step: the reader is at t, the document's state at tc. -/
def Md (w W : World) (p g : Nat) (v : Value) (t tc : St) : Prop := Below w.heap.size w W ∧ RdS W p v t ∧ Bk W g 28 (stA tc) ∧ (t.1 ≠ [] → ∀ j, slb v j → j ≠ g)
theorem Md.keep {w W W' : World} {p g : Nat} {v : Value} {t tc : St} (h : Md w W p g v t tc) (hB : Below W.heap.size W W') : Md w W' p g v t tc := ⟨below_step h.1 h.1.size hB, Rd.keep h.2.1 hB, h.2.2.1.keep hB, h.2.2.2⟩
theorem but_two (W : World) (g : Nat) (a b : Value) : But (fun k => k = g) W ((W.setCell ⟨g, 0, none⟩ a).setCell ⟨g, 1, none⟩ b) := But.set_ (S := fun k => k = g) (But.set_ (S := fun k => k = g) (But.refl _ W) (.inl rfl) 0 none _) (.inl rfl) 1 none _
theorem Md.stored {w W : World} {p g : Nat} {v : Value} {t tc : St} (h : Md w W p g v t tc) (hgw : w.heap.size ≤ g) (hp : p ≠ g) (t' : St) :
    Md w ((W.setCell ⟨g, 0, none⟩ (.string (strN t'.1))).setCell ⟨g, 1, none⟩ (.int .i64 ((t'.2 : Nat) : Int))) p g v t t' := by
  obtain ⟨hb, hr, hs, hf⟩ := h
  have hB := but_two W g (.string (strN t'.1)) (.int .i64 ((t'.2 : Nat) : Int))
  refine ⟨(hb.setCell (by exact hgw) _).setCell (by exact hgw) _, ?_, st_set2 hs _ _, hf⟩
  obtain ⟨h1, ⟨a, cap, e, g1, g2, g3, g4⟩, h3⟩ := hr
  refine ⟨hB.keep h1 hp, ⟨a, cap, e, g1, g2, g3, fun hne => ?_⟩, h3⟩
  obtain ⟨b, o, e2, hlt, hn, hc⟩ := g4 hne
  subst e2
  subst e
  have hbg := hf hne b ⟨_, _, _, rfl, rfl⟩
  exact ⟨b, o, rfl, Nat.lt_of_lt_of_le hlt hB.size, hn, fun i hi => (hB.cell (p := ⟨b, o + i, none⟩) hlt hbg).trans (hc i hi)⟩
theorem Md.at_ {w W : World} {p g : Nat} {v : Value} {t : St} (h : Md w W p g v t t) (hi : StI t) (hl : t.1.length ≤ 2000) : At w W p g v t := ⟨h.1, h.2.1, hi, hl, h.2.2.1, h.2.2.2⟩
theorem At.md {w W W' : World} {p g : Nat} {v v' : Value} {t t' : St} (h : At w W p g v t) (hp : w.heap.size ≤ p) (hg : p ≠ g) (k : Took p v t' W W' v') (hs : t'.1.length ≤ t.1.length) : Md w W' p g v' t' t := by
  obtain ⟨hb1, hr1, hs1, hf1⟩ := h.took hp hg k
  exact ⟨hb1, hr1, hs1, hf1 hs⟩
theorem mine_st {W : World} {lo g : Nat} {u : Value} {x : List Nat} (h : Mine W lo u x) (hg : g < lo) (a b : Value) : Mine ((W.setCell ⟨g, 0, none⟩ a).setCell ⟨g, 1, none⟩ b) lo u x := h.but (but_two W g a b) (fun k hk e => by
  have := (h.slb_lo hk).1
  omega)
theorem id_ones' (Y : List Nat) : (idA Y).all (·.oneCell') = true := by
  rw [Array.all_eq_true_iff_forall_mem]
  intro u hu
  unfold idA at hu
  simp only [List.mem_toArray, List.mem_map] at hu
  obtain ⟨b, _, rfl⟩ := hu
  rfl
def idz : Array Value := #[.int .u8 0, .int .u8 0, .int .u8 0, .int .u8 0, .int .u8 0, .int .u8 0, .int .u8 0, .int .u8 0, .int .u8 0, .int .u8 0, .int .u8 0, .int .u8 0, .int .u8 0, .int .u8 0, .int .u8 0, .int .u8 0, .int .u8 0, .int .u8 0, .int .u8 0, .int .u8 0, .int .u8 0, .int .u8 0, .int .u8 0, .int .u8 0, .int .u8 0, .int .u8 0, .int .u8 0, .int .u8 0, .int .u8 0, .int .u8 0, .int .u8 0, .int .u8 0]
theorem id_made1 (w : World) (Y : List Nat) (hone : (idA Y).all (·.oneCell') = true) (hs : (idA Y).toList.length = 32) : (storeCells ⟨w.heap.size, 0, none⟩ (idA Y).toList).run Try.prog (w.alloc (.cells idz 31)) = .ok () ((w.alloc (.cells idz 31)).setCells w.heap.size 0 (idA Y).toList) ∧ Bk ((w.alloc (.cells idz 31)).setCells w.heap.size 0 (idA Y).toList) w.heap.size 31 (idA Y) ∧ Below w.heap.size w ((w.alloc (.cells idz 31)).setCells w.heap.size 0 (idA Y).toList) := by
  refine ⟨cells_store w.heap.size (idA Y).toList 32 _ (by simpa using hone) hs (Bk.there (Bk.new w _ idz) 32 (Nat.le_refl _)), ?_, Below.setCells (Nat.le_refl _) _ _ _ ((Below.refl _ _).alloc (Nat.le_refl _) _)⟩
  have h : (idA Y).size = idz.size := by rw [← Array.length_toList]; exact hs
  exact Bk.setAll (xs := idA Y) (Bk.new _ _ _) h
theorem id_made (w : World) (Y : List Nat) (hone : (idA Y).all (·.oneCell') = true) (hs : (idA Y).toList.length = 32) : (storeCells ⟨w.heap.size, 0, none⟩ (idA Y).toList).run Try.prog (w.alloc (.cells #[.int .u8 0, .int .u8 0, .int .u8 0, .int .u8 0, .int .u8 0, .int .u8 0, .int .u8 0, .int .u8 0, .int .u8 0, .int .u8 0, .int .u8 0, .int .u8 0, .int .u8 0, .int .u8 0, .int .u8 0, .int .u8 0, .int .u8 0, .int .u8 0, .int .u8 0, .int .u8 0, .int .u8 0, .int .u8 0, .int .u8 0, .int .u8 0, .int .u8 0, .int .u8 0, .int .u8 0, .int .u8 0, .int .u8 0, .int .u8 0, .int .u8 0, .int .u8 0] 31)) = .ok () ((w.alloc (.cells #[.int .u8 0, .int .u8 0, .int .u8 0, .int .u8 0, .int .u8 0, .int .u8 0, .int .u8 0, .int .u8 0, .int .u8 0, .int .u8 0, .int .u8 0, .int .u8 0, .int .u8 0, .int .u8 0, .int .u8 0, .int .u8 0, .int .u8 0, .int .u8 0, .int .u8 0, .int .u8 0, .int .u8 0, .int .u8 0, .int .u8 0, .int .u8 0, .int .u8 0, .int .u8 0, .int .u8 0, .int .u8 0, .int .u8 0, .int .u8 0, .int .u8 0, .int .u8 0] 31)).setCells w.heap.size 0 (idA Y).toList) ∧ Bk ((w.alloc (.cells #[.int .u8 0, .int .u8 0, .int .u8 0, .int .u8 0, .int .u8 0, .int .u8 0, .int .u8 0, .int .u8 0, .int .u8 0, .int .u8 0, .int .u8 0, .int .u8 0, .int .u8 0, .int .u8 0, .int .u8 0, .int .u8 0, .int .u8 0, .int .u8 0, .int .u8 0, .int .u8 0, .int .u8 0, .int .u8 0, .int .u8 0, .int .u8 0, .int .u8 0, .int .u8 0, .int .u8 0, .int .u8 0, .int .u8 0, .int .u8 0, .int .u8 0, .int .u8 0] 31)).setCells w.heap.size 0 (idA Y).toList) w.heap.size 31 (idA Y) ∧ Below w.heap.size w ((w.alloc (.cells #[.int .u8 0, .int .u8 0, .int .u8 0, .int .u8 0, .int .u8 0, .int .u8 0, .int .u8 0, .int .u8 0, .int .u8 0, .int .u8 0, .int .u8 0, .int .u8 0, .int .u8 0, .int .u8 0, .int .u8 0, .int .u8 0, .int .u8 0, .int .u8 0, .int .u8 0, .int .u8 0, .int .u8 0, .int .u8 0, .int .u8 0, .int .u8 0, .int .u8 0, .int .u8 0, .int .u8 0, .int .u8 0, .int .u8 0, .int .u8 0, .int .u8 0, .int .u8 0] 31)).setCells w.heap.size 0 (idA Y).toList) := id_made1 w Y hone hs
theorem id_agg' (w : World) : (isAgg 31).run Try.prog w = .ok true w := by kernel_rfl
theorem id_size' (w : World) : (sizeOf 31).run Try.prog w = .ok 32 w := by kernel_rfl
theorem id_load' (w : World) (g : Nat) (Y : List Nat) (hl : Y.length = 32) (h : Bk w g 31 (idA Y)) : (loadCellsFrom ⟨g, 0, none⟩ 0 32 #[]).run Try.prog w = .ok (idA Y) w := by
  have e := run_loadCells_list (P := Try.prog) w ⟨g, 0, none⟩ (idA Y).toList (fun j v hv => by rw [Addr.add_mid]; exact h.range0 j v hv)
  rw [Array.length_toList, idA_size, hl] at e
  exact e
theorem id_eq0 (w : World) : (Op.equalIn 10000 31 (.agg (idA (zeros 32))) (.agg #[.int .u8 0, .int .u8 0, .int .u8 0, .int .u8 0, .int .u8 0, .int .u8 0, .int .u8 0, .int .u8 0, .int .u8 0, .int .u8 0, .int .u8 0, .int .u8 0, .int .u8 0, .int .u8 0, .int .u8 0, .int .u8 0, .int .u8 0, .int .u8 0, .int .u8 0, .int .u8 0, .int .u8 0, .int .u8 0, .int .u8 0, .int .u8 0, .int .u8 0, .int .u8 0, .int .u8 0, .int .u8 0, .int .u8 0, .int .u8 0, .int .u8 0, .int .u8 0])).run Try.prog w = .ok true w := by kernel_rfl
theorem id_bs {w : World} {g : Nat} {Y : List Nat} (h : Bk w g 31 (idA Y)) (hl : Y.length = 32) (hb : ∀ x ∈ Y, x < 256) : BsV w w.heap.size (.slice (some ⟨g, 0, none⟩) 32 32) Y :=
  ⟨some ⟨g, 0, none⟩, 32, by rw [hl], by rw [hl]; exact Nat.le_refl _, by omega, hb, fun _ => ⟨g, 0, rfl, h.lt, fun i hi => by rw [Nat.zero_add, h.cell]; exact idA_get Y i hi⟩⟩
theorem str_ne (x : List Nat) (h : x ≠ []) : ((strN x).toList == ([] : List UInt8)) = false := by
  rw [strN_toList]
  cases x with
  | nil => exact absurd rfl h
  | cons a r => rfl
theorem At.keepB {w W W' : World} {p g : Nat} {v : Value} {t : St} (h : At w W p g v t) (hB : Below W.heap.size W W') : At w W' p g v t := ⟨below_step h.below h.below.size hB, Rd.keep h.rd hB, h.inv, h.len, h.st.keep hB, h.far⟩
theorem kinds (k : Int) : k = 0 ∨ k = 1 ∨ k = 2 ∨ k = 3 ∨ k = 4 ∨ (k ≠ 0 ∧ k ≠ 1 ∧ k ≠ 2 ∧ k ≠ 3 ∧ k ≠ 4) := by omega
theorem st_load (w : World) (g : Nat) (s : St) (h : Bk w g 28 (stA s)) : (loadVar 28 ⟨g, 0, none⟩).run Try.prog w = .ok (stv s) w :=
  run_loadVar_row (P := Try.prog) w g 28 28 (stA s) (0, 0) _ h Try.underlying28 rfl st_info
set_option maxRecDepth 100000 in
set_option maxHeartbeats 40000000 in
theorem walk_inn (xs : List Nat) (s0 t0 : Option Addr) (cap n c : Nat) (L : List Pt) (w : World) (hb : BsV w w.heap.size (.slice s0 xs.length cap) xs) (hl : PtsV w (.slice t0 n c) L) (h1 : xs.length ≤ 2000) (h2 : n ≤ 50) :
    Calls Try.prog 3 #[.slice s0 xs.length cap, .slice t0 n c] w fun e w' => e = .returned (.bool true) ∧ Below w.heap.size w w' := by
  have HX := Lib.hid (show ∀ x ∈ xs, x < 256 by obtain ⟨_, _, _, _, _, h, _⟩ := hb; exact h)
  have HL : Hid (∀ k, k < n → ∃ x b o, t0 = some ⟨b, o, none⟩ ∧ b < w.heap.size ∧ IsPt w x ∧ w.rangeAt b (o + k * 37) (ptL x)) := by
    show ∀ k, k < n → _
    intro k hk
    obtain ⟨s, cap, e, _, _, h⟩ := hl
    have e2 : n = L.length := by injection e
    have e1 : t0 = s := by injection e
    obtain ⟨b, o, e3, hlt, hc⟩ := h (fun h => by rw [h] at e2; simp at e2; omega)
    have hx : L[k]? = some (L[k]'(by omega)) := List.getElem?_eq_getElem (by omega)
    exact ⟨_, b, o, by rw [e1, e3], hlt, (hc k _ hx).1, fun j v hv => (hc k _ hx).2 j v hv⟩
  obtain ⟨m, hmm⟩ : ∃ m, m = xs.length := ⟨_, rfl⟩
  rw [← hmm] at h1 hb ⊢
  have HB := Lib.hid hb
  have HMM := Lib.hid hmm
  have hz : decide ((2000 : Int) < (m : Int)) = false := decide_eq_false (by omega)
  have hz1 : ¬ (2000 : Int) < (m : Int) := by omega
  have hy : decide ((50 : Int) < (n : Int)) = false := decide_eq_false (by omega)
  have hy1 : ¬ (50 : Int) < (n : Int) := by omega
  clear hb hmm hl
  go_enter Try.func3, Try.ntmps3
  go_wp2_with fail
  refine (writes_any _).mono ?_
  rintro e w1 ⟨rfl, hW⟩
  have HW1 := Lib.hid hW
  clear hW
  go_wp2_with fail
  have hB1 : BsV w1 w.heap.size (.slice s0 m cap) xs := HB.out.keep HW1.out (Nat.le_refl _)
  refine (read_any xs _ w1 (hB1.mono HW1.out.size) (by have := HMM.out; omega) HX.out).mono ?_
  rintro e w5 ⟨p, v5, rfl, R5, B5, hp, hv5⟩
  have hW5 := below_step HW1.out HW1.out.size B5
  have hcv := conv_bs (HB.out.keep hW5 (Nat.le_refl _))
  have hpl : p < w5.heap.size := R5.1.lt
  have HA0 : Hid (At w (w5.alloc (.cells (stA (xs, 0)) 28)) p w5.heap.size v5 (xs, 0)) := by
    show At _ _ _ _ _ _
    refine ⟨hW5.alloc hW5.size _, Rd.keep R5 ((Below.refl _ _).alloc (Nat.le_refl _) _), ⟨by have := HMM.out; simp only; omega, by simp only; omega, HX.out, fun h => absurd rfl h⟩, by have := HMM.out; simp only; omega, Bk.new _ _ _, fun hne j hj => ?_⟩
    have := slb_lt (s := (xs, 0)) R5 hne j hj
    omega
  have HP := Lib.hid (show w.heap.size ≤ p ∧ p < w5.heap.size from ⟨Nat.le_trans HW1.out.size hp, hpl⟩)
  have HG := Lib.hid hW5.size
  have HPG := Lib.hid (show p ≠ w5.heap.size by omega)
  change Hid (At w (w5.alloc (.cells #[.string (strN xs), .int .i64 0] 28)) p w5.heap.size v5 (xs, 0)) at HA0
  generalize strN xs = u0 at *
  clear HB HMM HX R5 B5 hp hv5 hW5 hpl hB1 HW1
  go_upto_region 7 with fail
  refine wp_any (fun W => At w W p w5.heap.size v5 (xs, 0)) HA0.out ?_
  clear HA0 hcv
  generalize w5.heap.size = g at *
  clear w5 w1
  rintro W HA
  have HA := Lib.hid HA
  go_wp2_with fail
  go_loopw [35] (fun i wr => ∃ (k : Nat) (vr : Value) (t : St), k ≤ n ∧ i = .int .i64 k ∧ Hid (At w wr p g vr t)) (fun i _ => n - (intOf i).toNat)
  case atStart => exact ⟨0, v5, (xs, 0), Nat.zero_le _, rfl, HA⟩
  case round =>
    obtain ⟨k, vr, t, hk, rfl, HR⟩ := hrel
    clear HA
    by_cases hlt : k < n
    · obtain ⟨x, b, o, rfl, hbw, HI, hrg⟩ := HL.out k hlt
      have j1 : decide ((k : Int) < (n : Int)) = true := decide_eq_true (by omega)
      have hrg := rowr_belowX hrg HR.out.below hbw
      have HS := Lib.hid (pt_size x HI.2.2.2.2.2)
      have HI := Lib.hid HI
      have hps : (Try.prog.info? 33).map (·.size) = some (ptL x).length := by rw [HS.out]; exact pt_info
      have hone := pt_one x (by obtain ⟨_, _, e, _⟩ := HI.out.2.2.2.2.1; rw [e]; rfl)
      obtain ⟨hstc, K8, hB8⟩ := pt_made2 x HS.out hone wr
      have A8 := HR.out.keepB hB8
      have hg8 : wr.heap.size ≠ p := by have := HR.out.rd.1.lt; omega
      have hg9 : wr.heap.size ≠ g := by have := HR.out.st.lt; omega
      have c8 : Hid ((ptA x)[0]? = some (.int .i64 x.kind) ∧ (ptA x)[1]? = some (.int .i64 x.size) ∧ (ptA x)[3]? = some (.int .u64 (x.most : Int))) := ⟨rfl, rfl, rfl⟩
      have HSZ := Lib.hid HI.out.2.1
      have HMO := Lib.hid HI.out.2.2.2.1
      have HKI := Lib.hid HI.out.1
      generalize ptA x = PA at *
      obtain ⟨kd, sz, nn, most, dv, data, id⟩ := x
      generalize hpl : ptL ⟨kd, sz, nn, most, dv, data, id⟩ = PL at *
      simp only at c8 HSZ HMO HKI
      have hs37 := HS.out
      clear hpl HI HS hone HR HL
      go_upto_region 10 with (refine wpList_load_mid rfl 33 (.tmp 37) rfl b (o + k * 37) rfl PL _ hrg Try.underlying33 rfl hps ?_)
      refine wp_any (fun W => At w W p g vr t ∧ Bk W wr.heap.size 33 PA) ⟨A8, K8⟩ ?_
      clear A8 K8 hrg hps hstc hB8 hs37
      generalize wr.heap.size = g8 at *
      clear wr
      rintro W ⟨A, K8⟩
      have HA := Lib.hid A
      clear A
      have c0 := (K8.cell 0).trans c8.out.1
      have z8 := K8.lt
      rcases kinds kd with rfl | rfl | rfl | rfl | rfl | ⟨n0, n1, n2, n3, n4⟩
      · have c1 := (K8.cell 1).trans c8.out.2.1
        by_cases hbig : 1048576 < sz
        · have d1 : decide (1048576 < sz) = true := decide_eq_true hbig
          go_wp2_with fail
          go_ret
          exact ⟨rfl, HA.out.below⟩
        · have d1 : decide (1048576 < sz) = false := decide_eq_false hbig
          obtain ⟨q, hq⟩ : ∃ q, q = rdTake t sz := ⟨_, rfl⟩
          have HQ := Lib.hid hq
          have HTI := Lib.hid (show StI t ∧ t.1.length ≤ 2000 from ⟨HA.out.inv, HA.out.len⟩)
          have HT2 : Hid (StI q.2 ∧ q.2.1.length ≤ 2000) := by
            rw [hq]
            exact ⟨(take_inv t sz HTI.out.1).1, Nat.le_trans (take_shr t sz) HTI.out.2⟩
          have HSH : Hid (q.2.1.length ≤ t.1.length) := by rw [hq]; exact take_shr t sz
          have HB2 : Hid ((∀ x ∈ q.1, x < 256) ∧ q.1.length ≤ 2000) := by rw [hq]; exact ⟨(take_inv t sz HTI.out.1).2.1, Nat.le_trans (rdTake_len t sz) HTI.out.2⟩
          have HN := num_any p sz vr t W HA.out.rd HA.out.inv.ok
          rw [show rdNum t sz = (ofL ((rdTake t sz).1.take 8), (rdTake t sz).2) from rfl, ← hq] at HN
          obtain ⟨x2, t2⟩ := q
          simp only at HT2 HSH HB2
          change Calls _ _ _ _ (fun r w' => r = .returned (.int .u64 ((ofL (x2.take 8) : Nat) : Int)) ∧ ∃ v', Took p vr t2 W w' v') at HN
          obtain ⟨N, hN⟩ : ∃ N, N = ofL (x2.take 8) := ⟨_, rfl⟩
          have HNN := Lib.hid hN
          rw [← hN] at HN
          clear hN hq
          go_wp2_with fail
          refine HN.mono ?_
          rintro e W1 ⟨rfl, v1, T1⟩
          clear HN
          have K8b := bk_but K8 T1.2.1 hg8
          have c1b := (K8b.cell 1).trans c8.out.2.1
          have c3b := (K8b.cell 3).trans c8.out.2.2
          have z8b := K8b.lt
          have HM := Lib.hid (HA.out.md HP.out.1 HPG.out T1 HSH.out)
          have hs1 := HM.out.2.2.1
          change Bk W1 g _ #[.string (strN t.1), .int .i64 ((t.2 : Nat) : Int)] at hs1
          have s0_ := hs1.cell 0
          have s1_ := hs1.cell 1
          have sl_ := hs1.lt
          clear hs1
          clear T1 K8 c0 c1 z8 HA
          go_wp2_with fail
          have H := rftake_any t sz W1 HSZ.out (by have := HTI.out.2; omega) HTI.out.1.2.1
          rw [← HQ.out] at H
          change Calls _ _ _ _ (fun e w' => e = .returned (.tuple #[.string (strN x2), .agg #[.string (strN t2.1), .int .i64 ((t2.2 : Nat) : Int)]]) ∧ Below W1.heap.size W1 w') at H
          refine H.mono ?_
          rintro e W2 ⟨rfl, B2⟩
          clear H
          have HM2 := Lib.hid (HM.out.keep B2)
          have hsb := HM2.out.2.2.1
          change Bk W2 g _ #[.string (strN t.1), .int .i64 ((t.2 : Nat) : Int)] at hsb
          have y0 := hsb.cell 0
          have y1 := hsb.cell 1
          have y2 := hsb.lt
          have y3 := hsb.frozen 0
          have y4 := hsb.frozen 1
          have HM3 := Lib.hid (HM2.out.stored HG.out HPG.out t2)
          clear B2 hsb HM2 K8b c1b c3b z8b s0_ s1_ sl_ HM
          go_upto_region 17 with fail
          refine wp_any (fun W => Md w W p g v1 t2 t2) HM3.out ?_
          clear HM3 y0 y1 y2 y3 y4 
          rintro W3 HM
          have HM := Lib.hid HM
          have HLW := rflow_any x2 W3 HB2.out.1 (by have := HB2.out.2; omega)
          rw [← HNN.out] at HLW
          have eN : ((N : Int) != (N : Int)) = false := by simp
          go_wp2_with fail
          refine HLW.mono ?_
          rintro e w' ⟨rfl, rfl⟩
          clear HLW
          have HA9 := Lib.hid (HM.out.at_ HT2.out.1 HT2.out.2)
          clear HM
          have RDR : RdS w'.drew p v1 t2 := Rd.keep HA9.out.rd ((Below.refl _ _).drew)
          have ER := Lib.hid (err_any p v1 t2 w'.drew RDR)
          have LE := Lib.hid (left_any p v1 t2 w'.drew RDR)
          clear RDR
          have HA9 := Lib.hid (HA9.out.keepB ((Below.refl _ _).drew))
          have KS := HA9.out.st
          change Bk w'.drew g _ #[.string (strN t2.1), .int .i64 ((t2.2 : Nat) : Int)] at KS
          have sz9 := strN_size t2.1
          obtain ⟨c9, hc9⟩ : ∃ c9, c9 = t2.2 := ⟨_, rfl⟩
          obtain ⟨l9, hl9⟩ : ∃ l9, l9 = t2.1.length := ⟨_, rfl⟩
          rw [← hc9] at ER KS
          rw [← hl9] at LE sz9
          generalize strN t2.1 = u9s at *
          have s0 := KS.cell 0
          have s1 := KS.cell 1
          have e1 : ((c9 : Int) != (c9 : Int)) = false := by simp
          have e2 : ((l9 : Int) != (l9 : Int)) = false := by simp
          clear hc9 hl9
          go_upto_region 42 with fail
          refine wp_region_still_lit (by kernel_rfl) (by kernel_rfl) ?_
          still_step
          still_call (ER.out)
          repeat still_step
          still_call (LE.out)
          repeat still_step
          refine wpStill_nil ?_
          go_wp2_with fail
          go_roundw
          case rel => exact ⟨k + 1, v1, t2, by omega, by go_num, HA9⟩
          case measure => simp [intOf]; omega
      · obtain ⟨q, hq⟩ : ∃ q, q = rdCount t most := ⟨_, rfl⟩
        have HQ := Lib.hid hq
        have HTI := Lib.hid (show StI t ∧ t.1.length ≤ 2000 from ⟨HA.out.inv, HA.out.len⟩)
        have HT2 : Hid (StI q.2 ∧ q.2.1.length ≤ 2000) := by
          rw [hq]
          exact ⟨count_inv t most HTI.out.1, Nat.le_trans (count_shr t most) HTI.out.2⟩
        have HSH : Hid (q.2.1.length ≤ t.1.length) := by rw [hq]; exact count_shr t most
        have HN := rcount_any p most vr t W HA.out.rd HA.out.inv.ok
        rw [← hq] at HN
        have c3 := (K8.cell 3).trans c8.out.2.2
        obtain ⟨N, t2⟩ := q
        simp only at HT2 HSH HN
        clear hq
        go_wp2_with fail
        refine HN.mono ?_
        rintro e W1 ⟨rfl, v1, T1⟩
        clear HN
        have K8b := bk_but K8 T1.2.1 hg8
        have c1b := (K8b.cell 1).trans c8.out.2.1
        have c3b := (K8b.cell 3).trans c8.out.2.2
        have z8b := K8b.lt
        have HM := Lib.hid (HA.out.md HP.out.1 HPG.out T1 HSH.out)
        have hs1 := HM.out.2.2.1
        change Bk W1 g _ #[.string (strN t.1), .int .i64 ((t.2 : Nat) : Int)] at hs1
        have s0_ := hs1.cell 0
        have s1_ := hs1.cell 1
        have sl_ := hs1.lt
        clear hs1
        clear T1 K8 c0 c3 z8 HA
        go_wp2_with fail
        have H := rfnumber_any t most W1 HTI.out.1 HMO.out
        rw [← HQ.out] at H
        change Calls _ _ _ _ (fun e w' => e = .returned (.tuple #[.int .u64 (N : Int), .agg #[.string (strN t2.1), .int .i64 ((t2.2 : Nat) : Int)]]) ∧ Below W1.heap.size W1 w') at H
        refine H.mono ?_
        rintro e W2 ⟨rfl, B2⟩
        clear H
        have HM2 := Lib.hid (HM.out.keep B2)
        have hsb := HM2.out.2.2.1
        change Bk W2 g _ #[.string (strN t.1), .int .i64 ((t.2 : Nat) : Int)] at hsb
        have y0 := hsb.cell 0
        have y1 := hsb.cell 1
        have y2 := hsb.lt
        have y3 := hsb.frozen 0
        have y4 := hsb.frozen 1
        have HM3 := Lib.hid (HM2.out.stored HG.out HPG.out t2)
        clear B2 hsb HM2 K8b c1b c3b z8b s0_ s1_ sl_ HM
        go_upto_region 23 with fail
        refine wp_any (fun W => Md w W p g v1 t2 t2) HM3.out ?_
        clear HM3 y0 y1 y2 y3 y4 
        rintro W3 HM
        have HM := Lib.hid HM
        have eN : ((N : Int) != (N : Int)) = false := by simp
        go_wp2_with fail
        have HA9 := Lib.hid (HM.out.at_ HT2.out.1 HT2.out.2)
        clear HM
        have RDR : RdS W3.drew p v1 t2 := Rd.keep HA9.out.rd ((Below.refl _ _).drew)
        have ER := Lib.hid (err_any p v1 t2 W3.drew RDR)
        have LE := Lib.hid (left_any p v1 t2 W3.drew RDR)
        clear RDR
        have HA9 := Lib.hid (HA9.out.keepB ((Below.refl _ _).drew))
        have KS := HA9.out.st
        change Bk W3.drew g _ #[.string (strN t2.1), .int .i64 ((t2.2 : Nat) : Int)] at KS
        have sz9 := strN_size t2.1
        obtain ⟨c9, hc9⟩ : ∃ c9, c9 = t2.2 := ⟨_, rfl⟩
        obtain ⟨l9, hl9⟩ : ∃ l9, l9 = t2.1.length := ⟨_, rfl⟩
        rw [← hc9] at ER KS
        rw [← hl9] at LE sz9
        generalize strN t2.1 = u9s at *
        have s0 := KS.cell 0
        have s1 := KS.cell 1
        have e1 : ((c9 : Int) != (c9 : Int)) = false := by simp
        have e2 : ((l9 : Int) != (l9 : Int)) = false := by simp
        clear hc9 hl9
        go_upto_region 42 with fail
        refine wp_region_still_lit (by kernel_rfl) (by kernel_rfl) ?_
        still_step
        still_call (ER.out)
        repeat still_step
        still_call (LE.out)
        repeat still_step
        refine wpStill_nil ?_
        go_wp2_with fail
        go_roundw
        case rel => exact ⟨k + 1, v1, t2, by omega, by go_num, HA9⟩
        case measure => simp [intOf]; omega
      · obtain ⟨q, hq⟩ : ∃ q, q = rdTake t sz := ⟨_, rfl⟩
        have HQ := Lib.hid hq
        have HTI := Lib.hid (show StI t ∧ t.1.length ≤ 2000 from ⟨HA.out.inv, HA.out.len⟩)
        have HT2 : Hid (StI q.2 ∧ q.2.1.length ≤ 2000) := by
          rw [hq]
          exact ⟨(take_inv t sz HTI.out.1).1, Nat.le_trans (take_shr t sz) HTI.out.2⟩
        have HSH : Hid (q.2.1.length ≤ t.1.length) := by rw [hq]; exact take_shr t sz
        have HB2 : Hid ((∀ x ∈ q.1, x < 256) ∧ q.1.length ≤ 2000) := by rw [hq]; exact ⟨(take_inv t sz HTI.out.1).2.1, Nat.le_trans (rdTake_len t sz) HTI.out.2⟩
        have HN := rraw_any p sz vr t W HA.out.rd HA.out.inv.ok
        rw [← hq] at HN
        have c1 := (K8.cell 1).trans c8.out.2.1
        have hgW := HA.out.st.lt
        obtain ⟨lo, hlo⟩ : ∃ lo, lo = W.heap.size := ⟨_, rfl⟩
        rw [← hlo] at hgW HN
        clear hlo
        obtain ⟨x2, t2⟩ := q
        simp only at HT2 HSH HB2 HN
        clear hq
        go_wp2_with fail
        refine HN.mono ?_
        rintro e W1 ⟨u1, rfl, U1, v1, T1⟩
        clear HN
        have K8b := bk_but K8 T1.2.1 hg8
        have c1b := (K8b.cell 1).trans c8.out.2.1
        have c3b := (K8b.cell 3).trans c8.out.2.2
        have z8b := K8b.lt
        have HM := Lib.hid (HA.out.md HP.out.1 HPG.out T1 HSH.out)
        have hs1 := HM.out.2.2.1
        change Bk W1 g _ #[.string (strN t.1), .int .i64 ((t.2 : Nat) : Int)] at hs1
        have s0_ := hs1.cell 0
        have s1_ := hs1.cell 1
        have sl_ := hs1.lt
        clear hs1
        have HU := Lib.hid U1
        have HGW := Lib.hid hgW
        clear T1 K8 c0 c1 z8 HA U1 hgW
        go_wp2_with fail
        have H := rftake_any t sz W1 HSZ.out (by have := HTI.out.2; omega) HTI.out.1.2.1
        rw [← HQ.out] at H
        change Calls _ _ _ _ (fun e w' => e = .returned (.tuple #[.string (strN x2), .agg #[.string (strN t2.1), .int .i64 ((t2.2 : Nat) : Int)]]) ∧ Below W1.heap.size W1 w') at H
        refine H.mono ?_
        rintro e W2 ⟨rfl, B2⟩
        clear H
        have HM2 := Lib.hid (HM.out.keep B2)
        have hsb := HM2.out.2.2.1
        change Bk W2 g _ #[.string (strN t.1), .int .i64 ((t.2 : Nat) : Int)] at hsb
        have y0 := hsb.cell 0
        have y1 := hsb.cell 1
        have y2 := hsb.lt
        have y3 := hsb.frozen 0
        have y4 := hsb.frozen 1
        have HM3 := Lib.hid (HM2.out.stored HG.out HPG.out t2)
        have HU3 := mine_st (HU.out.keep B2) HGW.out (.string (strN t2.1)) (.int .i64 ((t2.2 : Nat) : Int))
        clear B2 hsb HM2 K8b c1b c3b z8b s0_ s1_ sl_ HM HU
        go_upto_region 28 with fail
        refine wp_any (fun W => Md w W p g v1 t2 t2 ∧ Mine W lo u1 x2) ⟨HM3.out, HU3⟩ ?_
        clear HM3 y0 y1 y2 y3 y4 HU3
        rintro W3 ⟨HM, HU⟩
        have HM := Lib.hid HM
        have HU := Lib.hid HU
        have hcv := conv_bs (HU.out.bs HB2.out.1)
        generalize strN x2 = sx at *
        have eN := str_eql sx
        obtain ⟨su, cu, e⟩ := HU.out.slice
        clear HU
        subst e
        go_wp2_with fail
        have HA9 := Lib.hid (HM.out.at_ HT2.out.1 HT2.out.2)
        clear HM
        have RDR : RdS W3.drew p v1 t2 := Rd.keep HA9.out.rd ((Below.refl _ _).drew)
        have ER := Lib.hid (err_any p v1 t2 W3.drew RDR)
        have LE := Lib.hid (left_any p v1 t2 W3.drew RDR)
        clear RDR
        have HA9 := Lib.hid (HA9.out.keepB ((Below.refl _ _).drew))
        have KS := HA9.out.st
        change Bk W3.drew g _ #[.string (strN t2.1), .int .i64 ((t2.2 : Nat) : Int)] at KS
        have sz9 := strN_size t2.1
        obtain ⟨c9, hc9⟩ : ∃ c9, c9 = t2.2 := ⟨_, rfl⟩
        obtain ⟨l9, hl9⟩ : ∃ l9, l9 = t2.1.length := ⟨_, rfl⟩
        rw [← hc9] at ER KS
        rw [← hl9] at LE sz9
        generalize strN t2.1 = u9s at *
        have s0 := KS.cell 0
        have s1 := KS.cell 1
        have e1 : ((c9 : Int) != (c9 : Int)) = false := by simp
        have e2 : ((l9 : Int) != (l9 : Int)) = false := by simp
        clear hc9 hl9
        go_upto_region 42 with fail
        refine wp_region_still_lit (by kernel_rfl) (by kernel_rfl) ?_
        still_step
        still_call (ER.out)
        repeat still_step
        still_call (LE.out)
        repeat still_step
        refine wpStill_nil ?_
        go_wp2_with fail
        go_roundw
        case rel => exact ⟨k + 1, v1, t2, by omega, by go_num, HA9⟩
        case measure => simp [intOf]; omega
      · rcases (show sz ≤ 0 ∨ 0 < sz by omega) with hsz0 | hsz0
        · have hM : (0 : Nat) = (max sz 0).toNat := by omega
          obtain ⟨M, hM0⟩ : ∃ M : Nat, M = 0 := ⟨_, rfl⟩
          rw [← hM0] at hM
          have HMM2 := Lib.hid (show M < 9223372036854775808 by omega)
          obtain ⟨q, hq⟩ : ∃ q, q = rdText t sz := ⟨_, rfl⟩
          have HQ := Lib.hid hq
          have HTI := Lib.hid (show StI t ∧ t.1.length ≤ 2000 from ⟨HA.out.inv, HA.out.len⟩)
          have HT2 : Hid (StI q.2 ∧ q.2.1.length ≤ 2000) := by
            rw [hq]
            exact ⟨rtext_inv t sz HTI.out.1, Nat.le_trans (text_shr t sz) HTI.out.2⟩
          have HSH : Hid (q.2.1.length ≤ t.1.length) := by rw [hq]; exact text_shr t sz
          obtain ⟨q1, hq1⟩ : ∃ q1, q1 = rdCount t M := ⟨_, rfl⟩
          have HQ1 := Lib.hid hq1
          have hq2 : q = rdTake q1.2 (q1.1 : Int) := by have e := text_route t sz; rw [← hM] at e; rw [hq, hq1, e]
          have HQ2 := Lib.hid hq2
          have H1 : Hid (StI q1.2 ∧ q1.2.1.length ≤ 2000 ∧ q1.1 ≤ M) := by
            rw [hq1]
            exact ⟨count_inv t M HTI.out.1, Nat.le_trans (count_shr t M) HTI.out.2, rdCount_le t M⟩
          have HB2 : Hid ((∀ x ∈ q.1, x < 256) ∧ q.1.length ≤ 2000) := by rw [hq2]; exact ⟨(take_inv q1.2 _ H1.out.1).2.1, Nat.le_trans (rdTake_len _ _) H1.out.2.1⟩
          have HN := rtext_any p sz vr t W HA.out.rd HA.out.inv.ok (by have := HSZ.out; omega)
          rw [← hq] at HN
          have c1 := (K8.cell 1).trans c8.out.2.1
          have hgW := HA.out.st.lt
          obtain ⟨lo, hlo⟩ : ∃ lo, lo = W.heap.size := ⟨_, rfl⟩
          rw [← hlo] at hgW HN
          clear hlo
          obtain ⟨x2, t2⟩ := q
          obtain ⟨N1, t1⟩ := q1
          simp only at HT2 HSH HB2 HN HQ HQ1 HQ2 H1
          have hN1 : N1 < 9223372036854775808 := by have := H1.out.2.2; have := HMM2.out; omega
          subst hM0
          clear hq hq1 hq2 hM
          go_wp2_with fail
          refine HN.mono ?_
          rintro e W1 ⟨u1, rfl, U1, v1, T1⟩
          clear HN
          have K8b := bk_but K8 T1.2.1 hg8
          have c1b := (K8b.cell 1).trans c8.out.2.1
          have c3b := (K8b.cell 3).trans c8.out.2.2
          have z8b := K8b.lt
          have HM := Lib.hid (HA.out.md HP.out.1 HPG.out T1 HSH.out)
          have hs1 := HM.out.2.2.1
          change Bk W1 g _ #[.string (strN t.1), .int .i64 ((t.2 : Nat) : Int)] at hs1
          have s0_ := hs1.cell 0
          have s1_ := hs1.cell 1
          have sl_ := hs1.lt
          clear hs1
          have HU := Lib.hid U1
          have HGW := Lib.hid hgW
          clear T1 K8 c0 c1 z8 HA U1 hgW
          go_wp2_with fail
          have H := rfnumber_any t 0 W1 HTI.out.1 (by have := HMM2.out; omega)
          rw [← HQ1.out] at H
          change Calls _ _ _ _ (fun e w' => e = .returned (.tuple #[.int .u64 (N1 : Int), .agg #[.string (strN t1.1), .int .i64 ((t1.2 : Nat) : Int)]]) ∧ Below W1.heap.size W1 w') at H
          refine H.mono ?_
          rintro e W2 ⟨rfl, B2⟩
          clear H
          have HM2 := Lib.hid (HM.out.keep B2)
          have hsb := HM2.out.2.2.1
          change Bk W2 g _ #[.string (strN t.1), .int .i64 ((t.2 : Nat) : Int)] at hsb
          have y0 := hsb.cell 0
          have y1 := hsb.cell 1
          have y2 := hsb.lt
          have y3 := hsb.frozen 0
          have y4 := hsb.frozen 1
          have HM3 := Lib.hid (HM2.out.stored HG.out HPG.out t1)
          have HU3 := mine_st (HU.out.keep B2) HGW.out (.string (strN t1.1)) (.int .i64 ((t1.2 : Nat) : Int))
          clear B2 hsb HM2 K8b c1b c3b z8b s0_ s1_ sl_ HM HU
          go_upto_region 34 with fail
          refine wp_any (fun W => Md w W p g v1 t2 t1 ∧ Mine W lo u1 x2) ⟨HM3.out, HU3⟩ ?_
          clear HM3 y0 y1 y2 y3 y4 HU3
          rintro W3 ⟨HM, HU⟩
          have HM := Lib.hid HM
          have HU := Lib.hid HU
          have hs1 := HM.out.2.2.1
          change Bk W3 g _ #[.string (strN t1.1), .int .i64 ((t1.2 : Nat) : Int)] at hs1
          have s0_ := hs1.cell 0
          have s1_ := hs1.cell 1
          have sl_ := hs1.lt
          clear hs1
          go_wp2_with fail
          have H := rftake_any t1 (N1 : Int) W3 (by omega) (by have := H1.out.2.1; omega) H1.out.1.2.1
          rw [← HQ2.out] at H
          change Calls _ _ _ _ (fun e w' => e = .returned (.tuple #[.string (strN x2), .agg #[.string (strN t2.1), .int .i64 ((t2.2 : Nat) : Int)]]) ∧ Below W3.heap.size W3 w') at H
          refine H.mono ?_
          rintro e W2 ⟨rfl, B2⟩
          clear H
          have HM2 := Lib.hid (HM.out.keep B2)
          have hsb := HM2.out.2.2.1
          change Bk W2 g _ #[.string (strN t1.1), .int .i64 ((t1.2 : Nat) : Int)] at hsb
          have y0 := hsb.cell 0
          have y1 := hsb.cell 1
          have y2 := hsb.lt
          have y3 := hsb.frozen 0
          have y4 := hsb.frozen 1
          have HM3 := Lib.hid (HM2.out.stored HG.out HPG.out t2)
          have HU3 := mine_st (HU.out.keep B2) HGW.out (.string (strN t2.1)) (.int .i64 ((t2.2 : Nat) : Int))
          clear B2 hsb HM2 s0_ s1_ sl_ HM HU
          go_upto_region 35 with fail
          refine wp_any (fun W => Md w W p g v1 t2 t2 ∧ Mine W lo u1 x2) ⟨HM3.out, HU3⟩ ?_
          clear HM3 y0 y1 y2 y3 y4 HU3
          rintro W4 ⟨HM, HU⟩
          have HM := Lib.hid HM
          have HU := Lib.hid HU
          have hcv := conv_bs (HU.out.bs HB2.out.1)
          generalize strN x2 = sx at *
          have eN := str_eql sx
          obtain ⟨su, cu, e⟩ := HU.out.slice
          clear HU
          subst e
          go_wp2_with fail
          have HA9 := Lib.hid (HM.out.at_ HT2.out.1 HT2.out.2)
          clear HM
          have RDR : RdS W4.drew p v1 t2 := Rd.keep HA9.out.rd ((Below.refl _ _).drew)
          have ER := Lib.hid (err_any p v1 t2 W4.drew RDR)
          have LE := Lib.hid (left_any p v1 t2 W4.drew RDR)
          clear RDR
          have HA9 := Lib.hid (HA9.out.keepB ((Below.refl _ _).drew))
          have KS := HA9.out.st
          change Bk W4.drew g _ #[.string (strN t2.1), .int .i64 ((t2.2 : Nat) : Int)] at KS
          have sz9 := strN_size t2.1
          obtain ⟨c9, hc9⟩ : ∃ c9, c9 = t2.2 := ⟨_, rfl⟩
          obtain ⟨l9, hl9⟩ : ∃ l9, l9 = t2.1.length := ⟨_, rfl⟩
          rw [← hc9] at ER KS
          rw [← hl9] at LE sz9
          generalize strN t2.1 = u9s at *
          have s0 := KS.cell 0
          have s1 := KS.cell 1
          have e1 : ((c9 : Int) != (c9 : Int)) = false := by simp
          have e2 : ((l9 : Int) != (l9 : Int)) = false := by simp
          clear hc9 hl9
          go_upto_region 42 with fail
          refine wp_region_still_lit (by kernel_rfl) (by kernel_rfl) ?_
          still_step
          still_call (ER.out)
          repeat still_step
          still_call (LE.out)
          repeat still_step
          refine wpStill_nil ?_
          go_wp2_with fail
          go_roundw
          case rel => exact ⟨k + 1, v1, t2, by omega, by go_num, HA9⟩
          case measure => simp [intOf]; omega
        · obtain ⟨M, rfl⟩ : ∃ M : Nat, sz = (M : Int) := ⟨sz.toNat, by omega⟩
          have hM : M = (max (M : Int) 0).toNat := by omega
          have HMM2 : Hid (M < 9223372036854775808) := by show M < 9223372036854775808; have := HSZ.out; omega
          have hwr : IntKind.u64.wrap (M : Int) = (M : Int) := by have := HMM2.out; simp [IntKind.wrap, IntKind.signed, IntKind.bits]; omega
          obtain ⟨q, hq⟩ : ∃ q, q = rdText t (M : Int) := ⟨_, rfl⟩
          have HQ := Lib.hid hq
          have HTI := Lib.hid (show StI t ∧ t.1.length ≤ 2000 from ⟨HA.out.inv, HA.out.len⟩)
          have HT2 : Hid (StI q.2 ∧ q.2.1.length ≤ 2000) := by
            rw [hq]
            exact ⟨rtext_inv t (M : Int) HTI.out.1, Nat.le_trans (text_shr t (M : Int)) HTI.out.2⟩
          have HSH : Hid (q.2.1.length ≤ t.1.length) := by rw [hq]; exact text_shr t (M : Int)
          obtain ⟨q1, hq1⟩ : ∃ q1, q1 = rdCount t M := ⟨_, rfl⟩
          have HQ1 := Lib.hid hq1
          have hq2 : q = rdTake q1.2 (q1.1 : Int) := by have e := text_route t (M : Int); rw [← hM] at e; rw [hq, hq1, e]
          have HQ2 := Lib.hid hq2
          have H1 : Hid (StI q1.2 ∧ q1.2.1.length ≤ 2000 ∧ q1.1 ≤ M) := by
            rw [hq1]
            exact ⟨count_inv t M HTI.out.1, Nat.le_trans (count_shr t M) HTI.out.2, rdCount_le t M⟩
          have HB2 : Hid ((∀ x ∈ q.1, x < 256) ∧ q.1.length ≤ 2000) := by rw [hq2]; exact ⟨(take_inv q1.2 _ H1.out.1).2.1, Nat.le_trans (rdTake_len _ _) H1.out.2.1⟩
          have HN := rtext_any p (M : Int) vr t W HA.out.rd HA.out.inv.ok (by have := HSZ.out; omega)
          rw [← hq] at HN
          have c1 := (K8.cell 1).trans c8.out.2.1
          have hgW := HA.out.st.lt
          obtain ⟨lo, hlo⟩ : ∃ lo, lo = W.heap.size := ⟨_, rfl⟩
          rw [← hlo] at hgW HN
          clear hlo
          obtain ⟨x2, t2⟩ := q
          obtain ⟨N1, t1⟩ := q1
          simp only at HT2 HSH HB2 HN HQ HQ1 HQ2 H1
          have hN1 : N1 < 9223372036854775808 := by have := H1.out.2.2; have := HMM2.out; omega
          clear hq hq1 hq2 hM
          go_wp2_with fail
          refine HN.mono ?_
          rintro e W1 ⟨u1, rfl, U1, v1, T1⟩
          clear HN
          have K8b := bk_but K8 T1.2.1 hg8
          have c1b := (K8b.cell 1).trans c8.out.2.1
          have c3b := (K8b.cell 3).trans c8.out.2.2
          have z8b := K8b.lt
          have HM := Lib.hid (HA.out.md HP.out.1 HPG.out T1 HSH.out)
          have hs1 := HM.out.2.2.1
          change Bk W1 g _ #[.string (strN t.1), .int .i64 ((t.2 : Nat) : Int)] at hs1
          have s0_ := hs1.cell 0
          have s1_ := hs1.cell 1
          have sl_ := hs1.lt
          clear hs1
          have HU := Lib.hid U1
          have HGW := Lib.hid hgW
          clear T1 K8 c0 c1 z8 HA U1 hgW
          go_wp2_with fail
          have H := rfnumber_any t M W1 HTI.out.1 (by have := HMM2.out; omega)
          rw [← HQ1.out] at H
          change Calls _ _ _ _ (fun e w' => e = .returned (.tuple #[.int .u64 (N1 : Int), .agg #[.string (strN t1.1), .int .i64 ((t1.2 : Nat) : Int)]]) ∧ Below W1.heap.size W1 w') at H
          refine H.mono ?_
          rintro e W2 ⟨rfl, B2⟩
          clear H
          have HM2 := Lib.hid (HM.out.keep B2)
          have hsb := HM2.out.2.2.1
          change Bk W2 g _ #[.string (strN t.1), .int .i64 ((t.2 : Nat) : Int)] at hsb
          have y0 := hsb.cell 0
          have y1 := hsb.cell 1
          have y2 := hsb.lt
          have y3 := hsb.frozen 0
          have y4 := hsb.frozen 1
          have HM3 := Lib.hid (HM2.out.stored HG.out HPG.out t1)
          have HU3 := mine_st (HU.out.keep B2) HGW.out (.string (strN t1.1)) (.int .i64 ((t1.2 : Nat) : Int))
          clear B2 hsb HM2 K8b c1b c3b z8b s0_ s1_ sl_ HM HU
          go_upto_region 34 with fail
          refine wp_any (fun W => Md w W p g v1 t2 t1 ∧ Mine W lo u1 x2) ⟨HM3.out, HU3⟩ ?_
          clear HM3 y0 y1 y2 y3 y4 HU3
          rintro W3 ⟨HM, HU⟩
          have HM := Lib.hid HM
          have HU := Lib.hid HU
          have hs1 := HM.out.2.2.1
          change Bk W3 g _ #[.string (strN t1.1), .int .i64 ((t1.2 : Nat) : Int)] at hs1
          have s0_ := hs1.cell 0
          have s1_ := hs1.cell 1
          have sl_ := hs1.lt
          clear hs1
          go_wp2_with fail
          have H := rftake_any t1 (N1 : Int) W3 (by omega) (by have := H1.out.2.1; omega) H1.out.1.2.1
          rw [← HQ2.out] at H
          change Calls _ _ _ _ (fun e w' => e = .returned (.tuple #[.string (strN x2), .agg #[.string (strN t2.1), .int .i64 ((t2.2 : Nat) : Int)]]) ∧ Below W3.heap.size W3 w') at H
          refine H.mono ?_
          rintro e W2 ⟨rfl, B2⟩
          clear H
          have HM2 := Lib.hid (HM.out.keep B2)
          have hsb := HM2.out.2.2.1
          change Bk W2 g _ #[.string (strN t1.1), .int .i64 ((t1.2 : Nat) : Int)] at hsb
          have y0 := hsb.cell 0
          have y1 := hsb.cell 1
          have y2 := hsb.lt
          have y3 := hsb.frozen 0
          have y4 := hsb.frozen 1
          have HM3 := Lib.hid (HM2.out.stored HG.out HPG.out t2)
          have HU3 := mine_st (HU.out.keep B2) HGW.out (.string (strN t2.1)) (.int .i64 ((t2.2 : Nat) : Int))
          clear B2 hsb HM2 s0_ s1_ sl_ HM HU
          go_upto_region 35 with fail
          refine wp_any (fun W => Md w W p g v1 t2 t2 ∧ Mine W lo u1 x2) ⟨HM3.out, HU3⟩ ?_
          clear HM3 y0 y1 y2 y3 y4 HU3
          rintro W4 ⟨HM, HU⟩
          have HM := Lib.hid HM
          have HU := Lib.hid HU
          have hcv := conv_bs (HU.out.bs HB2.out.1)
          generalize strN x2 = sx at *
          have eN := str_eql sx
          obtain ⟨su, cu, e⟩ := HU.out.slice
          clear HU
          subst e
          go_wp2_with fail
          have HA9 := Lib.hid (HM.out.at_ HT2.out.1 HT2.out.2)
          clear HM
          have RDR : RdS W4.drew p v1 t2 := Rd.keep HA9.out.rd ((Below.refl _ _).drew)
          have ER := Lib.hid (err_any p v1 t2 W4.drew RDR)
          have LE := Lib.hid (left_any p v1 t2 W4.drew RDR)
          clear RDR
          have HA9 := Lib.hid (HA9.out.keepB ((Below.refl _ _).drew))
          have KS := HA9.out.st
          change Bk W4.drew g _ #[.string (strN t2.1), .int .i64 ((t2.2 : Nat) : Int)] at KS
          have sz9 := strN_size t2.1
          obtain ⟨c9, hc9⟩ : ∃ c9, c9 = t2.2 := ⟨_, rfl⟩
          obtain ⟨l9, hl9⟩ : ∃ l9, l9 = t2.1.length := ⟨_, rfl⟩
          rw [← hc9] at ER KS
          rw [← hl9] at LE sz9
          generalize strN t2.1 = u9s at *
          have s0 := KS.cell 0
          have s1 := KS.cell 1
          have e1 : ((c9 : Int) != (c9 : Int)) = false := by simp
          have e2 : ((l9 : Int) != (l9 : Int)) = false := by simp
          clear hc9 hl9
          go_upto_region 42 with fail
          refine wp_region_still_lit (by kernel_rfl) (by kernel_rfl) ?_
          still_step
          still_call (ER.out)
          repeat still_step
          still_call (LE.out)
          repeat still_step
          refine wpStill_nil ?_
          go_wp2_with fail
          go_roundw
          case rel => exact ⟨k + 1, v1, t2, by omega, by go_num, HA9⟩
          case measure => simp [intOf]; omega
      · obtain ⟨q, hq⟩ : ∃ q, q = rdTake t 32 := ⟨_, rfl⟩
        have HQ := Lib.hid hq
        have HTI := Lib.hid (show StI t ∧ t.1.length ≤ 2000 from ⟨HA.out.inv, HA.out.len⟩)
        have HT2 : Hid (StI q.2 ∧ q.2.1.length ≤ 2000) := by
          rw [hq]
          exact ⟨(take_inv t 32 HTI.out.1).1, Nat.le_trans (take_shr t 32) HTI.out.2⟩
        have HSH : Hid (q.2.1.length ≤ t.1.length) := by rw [hq]; exact take_shr t 32
        have HB2 : Hid ((∀ x ∈ q.1, x < 256) ∧ q.1.length ≤ 2000) := by rw [hq]; exact ⟨(take_inv t 32 HTI.out.1).2.1, Nat.le_trans (rdTake_len t 32) HTI.out.2⟩
        have h32 : q.1 = [] ∨ q.1.length = 32 := by rw [hq]; exact take_some t 32
        have HN := rid_any p vr t W HA.out.rd HA.out.inv.ok
        rw [← hq] at HN
        obtain ⟨x2, t2⟩ := q
        simp only at HT2 HSH HB2 HN h32
        have hyl : (idOf x2).length = 32 := idOf_length _ (by rcases h32 with h | h <;> simp [h])
        have HYB := Lib.hid (idOf_lt x2 HB2.out.1)
        have H32 := Lib.hid h32
        obtain ⟨Y, hY⟩ : ∃ Y, Y = idOf x2 := ⟨_, rfl⟩
        rw [← hY] at HN HYB hyl
        change Calls _ _ _ _ (fun r w' => r = .returned (.agg (idA Y)) ∧ ∃ v', Took p vr t2 W w' v') at HN
        have HY := Lib.hid hY
        have HYL := Lib.hid hyl
        have hys : (idA Y).toList.length = 32 := by rw [Array.length_toList, idA_size]; exact hyl
        have hys2 : (idA Y).size = 32 := by rw [idA_size]; exact hyl
        have hyo := id_ones' Y
        clear hq hY hyl h32
        go_wp2_with fail
        refine HN.mono ?_
        rintro e W1 ⟨rfl, v1, T1⟩
        clear HN
        have HM := Lib.hid (HA.out.md HP.out.1 HPG.out T1 HSH.out)
        have hg16 : W1.heap.size ≠ g := by have := HM.out.2.2.1.lt; omega
        obtain ⟨hst, K16, B16⟩ := id_made W1 Y hyo hys
        obtain ⟨YA, hYA⟩ : ∃ YA, YA = idA Y := ⟨_, rfl⟩
        have HYA := Lib.hid hYA
        rw [← hYA] at hst K16 B16 hys hys2 hyo ⊢
        have HM := Lib.hid (HM.out.keep B16)
        clear T1 K8 c0 z8 HA hYA
        go_upto_region 39 with fail
        refine wp_any (fun W => Md w W p g v1 t2 t ∧ Bk W W1.heap.size 31 YA) ⟨HM.out, K16⟩ ?_
        clear hst K16 B16 hys hys2 hyo
        generalize W1.heap.size = g16 at *
        clear HM
        rintro W1 ⟨HM, K16⟩
        have HM := Lib.hid HM
        have hs1 := HM.out.2.2.1
        change Bk W1 g _ #[.string (strN t.1), .int .i64 ((t.2 : Nat) : Int)] at hs1
        have s0_ := hs1.cell 0
        have s1_ := hs1.cell 1
        have sl_ := hs1.lt
        clear hs1
        go_wp2_with fail
        have H := rftake_any t 32 W1 (by omega) (by have := HTI.out.2; omega) HTI.out.1.2.1
        rw [← HQ.out] at H
        change Calls _ _ _ _ (fun e w' => e = .returned (.tuple #[.string (strN x2), .agg #[.string (strN t2.1), .int .i64 ((t2.2 : Nat) : Int)]]) ∧ Below W1.heap.size W1 w') at H
        refine H.mono ?_
        rintro e W2 ⟨rfl, B2⟩
        clear H
        have HM2 := Lib.hid (HM.out.keep B2)
        have hsb := HM2.out.2.2.1
        change Bk W2 g _ #[.string (strN t.1), .int .i64 ((t.2 : Nat) : Int)] at hsb
        have y0 := hsb.cell 0
        have y1 := hsb.cell 1
        have y2 := hsb.lt
        have y3 := hsb.frozen 0
        have y4 := hsb.frozen 1
        have HM3 := Lib.hid (HM2.out.stored HG.out HPG.out t2)
        have HU3 := ((K16.keep B2).far (p := ⟨g, 0, none⟩) hg16 (.string (strN t2.1))).far (p := ⟨g, 1, none⟩) hg16 (.int .i64 ((t2.2 : Nat) : Int))
        clear B2 hsb HM2 s0_ s1_ sl_ HM K16
        go_upto_region 40 with fail
        refine wp_any (fun W => Md w W p g v1 t2 t2 ∧ Bk W g16 31 YA) ⟨HM3.out, HU3⟩ ?_
        clear HM3 y0 y1 y2 y3 y4 HU3
        rintro W3 ⟨HM, HU⟩
        have HM := Lib.hid HM
        rw [HYA.out] at HU
        rcases H32.out with h32 | h32
        · subst h32
          have hYz : Y = zeros 32 := by rw [HY.out]; exact idOf_none
          rw [hYz] at HU
          obtain ⟨tl, htl⟩ : ∃ tl : TypeId, tl = 31 := ⟨_, rfl⟩
          obtain ⟨szl, hszl⟩ : ∃ szl : Nat, szl = 32 := ⟨_, rfl⟩
          have hag : ∀ w, (isAgg tl).run Try.prog w = .ok true w := by rw [htl]; exact id_agg'
          have hsz : ∀ w, (sizeOf tl).run Try.prog w = .ok szl w := by rw [htl, hszl]; exact id_size'
          have hld : (loadCellsFrom ⟨g16, 0, none⟩ 0 szl #[]).run Try.prog W3 = .ok (idA (zeros 32)) W3 := by rw [hszl]; exact id_load' W3 g16 (zeros 32) rfl HU
          have HTL := Lib.hid (show ∀ z, Op.load 31 z = Op.load tl z from fun z => by rw [htl])
          clear htl hszl
          have heq := id_eq0
          have he0 : (strN [] : ByteArray) = ⟨#[]⟩ := by decide +kernel
          rw [he0]
          have htl2 := HTL.out
          simp only [htl2]
          clear htl2
          go_wp2_with fail
          have HA9 := Lib.hid (HM.out.at_ HT2.out.1 HT2.out.2)
          clear HM
          have RDR : RdS W3.drew p v1 t2 := Rd.keep HA9.out.rd ((Below.refl _ _).drew)
          have ER := Lib.hid (err_any p v1 t2 W3.drew RDR)
          have LE := Lib.hid (left_any p v1 t2 W3.drew RDR)
          clear RDR
          have HA9 := Lib.hid (HA9.out.keepB ((Below.refl _ _).drew))
          have KS := HA9.out.st
          change Bk W3.drew g _ #[.string (strN t2.1), .int .i64 ((t2.2 : Nat) : Int)] at KS
          have sz9 := strN_size t2.1
          obtain ⟨c9, hc9⟩ : ∃ c9, c9 = t2.2 := ⟨_, rfl⟩
          obtain ⟨l9, hl9⟩ : ∃ l9, l9 = t2.1.length := ⟨_, rfl⟩
          rw [← hc9] at ER KS
          rw [← hl9] at LE sz9
          generalize strN t2.1 = u9s at *
          have s0 := KS.cell 0
          have s1 := KS.cell 1
          have e1 : ((c9 : Int) != (c9 : Int)) = false := by simp
          have e2 : ((l9 : Int) != (l9 : Int)) = false := by simp
          clear hc9 hl9
          go_upto_region 42 with fail
          refine wp_region_still_lit (by kernel_rfl) (by kernel_rfl) ?_
          still_step
          still_call (ER.out)
          repeat still_step
          still_call (LE.out)
          repeat still_step
          refine wpStill_nil ?_
          go_wp2_with fail
          go_roundw
          case rel => exact ⟨k + 1, v1, t2, by omega, by go_num, HA9⟩
          case measure => simp [intOf]; omega
        · have hYx : Y = x2 := by rw [HY.out]; exact idOf_whole x2 h32
          have hcv := conv_bs (id_bs HU HYL.out HYB.out)
          rw [hYx] at hcv
          have hne1 := str_ne x2 (by intro h; rw [h] at h32; simp at h32)
          generalize strN x2 = sx at *
          have eN := str_eql sx
          go_wp2_with fail
          have HA9 := Lib.hid (HM.out.at_ HT2.out.1 HT2.out.2)
          clear HM
          have RDR : RdS W3.drew p v1 t2 := Rd.keep HA9.out.rd ((Below.refl _ _).drew)
          have ER := Lib.hid (err_any p v1 t2 W3.drew RDR)
          have LE := Lib.hid (left_any p v1 t2 W3.drew RDR)
          clear RDR
          have HA9 := Lib.hid (HA9.out.keepB ((Below.refl _ _).drew))
          have KS := HA9.out.st
          change Bk W3.drew g _ #[.string (strN t2.1), .int .i64 ((t2.2 : Nat) : Int)] at KS
          have sz9 := strN_size t2.1
          obtain ⟨c9, hc9⟩ : ∃ c9, c9 = t2.2 := ⟨_, rfl⟩
          obtain ⟨l9, hl9⟩ : ∃ l9, l9 = t2.1.length := ⟨_, rfl⟩
          rw [← hc9] at ER KS
          rw [← hl9] at LE sz9
          generalize strN t2.1 = u9s at *
          have s0 := KS.cell 0
          have s1 := KS.cell 1
          have e1 : ((c9 : Int) != (c9 : Int)) = false := by simp
          have e2 : ((l9 : Int) != (l9 : Int)) = false := by simp
          clear hc9 hl9
          go_upto_region 42 with fail
          refine wp_region_still_lit (by kernel_rfl) (by kernel_rfl) ?_
          still_step
          still_call (ER.out)
          repeat still_step
          still_call (LE.out)
          repeat still_step
          refine wpStill_nil ?_
          go_wp2_with fail
          go_roundw
          case rel => exact ⟨k + 1, v1, t2, by omega, by go_num, HA9⟩
          case measure => simp [intOf]; omega
      · have d0 : (kd == 0) = false := by simpa using n0
        have d1 : (kd == 1) = false := by simpa using n1
        have d2 : (kd == 2) = false := by simpa using n2
        have d3 : (kd == 3) = false := by simpa using n3
        have d4 : (kd == 4) = false := by simpa using n4
        have RDR : RdS W.drew p vr t := Rd.keep HA.out.rd ((Below.refl _ _).drew)
        have ER := Lib.hid (err_any p vr t W.drew RDR)
        have LE := Lib.hid (left_any p vr t W.drew RDR)
        clear RDR
        have HA := Lib.hid (HA.out.keepB ((Below.refl _ _).drew))
        have KS := HA.out.st
        change Bk W.drew g _ #[.string (strN t.1), .int .i64 ((t.2 : Nat) : Int)] at KS
        have sz9 := strN_size t.1
        obtain ⟨c9, hc9⟩ : ∃ c9, c9 = t.2 := ⟨_, rfl⟩
        obtain ⟨l9, hl9⟩ : ∃ l9, l9 = t.1.length := ⟨_, rfl⟩
        rw [← hc9] at ER KS
        rw [← hl9] at LE sz9
        generalize strN t.1 = u9s at *
        have s0 := KS.cell 0
        have s1 := KS.cell 1
        have e1 : ((c9 : Int) != (c9 : Int)) = false := by simp
        have e2 : ((l9 : Int) != (l9 : Int)) = false := by simp
        clear hc9 hl9
        go_upto_region 42 with fail
        refine wp_region_still_lit (by kernel_rfl) (by kernel_rfl) ?_
        still_step
        still_call (ER.out)
        repeat still_step
        still_call (LE.out)
        repeat still_step
        refine wpStill_nil ?_
        go_wp2_with fail
        go_roundw
        case rel => exact ⟨k + 1, vr, t, by omega, by go_num, HA⟩
        case measure => simp [intOf]; omega
    · obtain rfl : k = n := by omega
      have j1 : decide ((k : Int) < (k : Int)) = false := decide_eq_false (by omega)
      clear hlt
      have EN : Hid (∀ W', RdS W' p vr t → Calls Try.prog 17 #[.pointer (some ⟨p, 0, none⟩)] W' fun r w' => r = .returned (.int .i64 (rdEnd t : Nat)) ∧ w' = W') := fun W' h => end_any p vr t W' h
      have hre := rdEnd_route t HR.out.inv
      have KS := HR.out.st
      change Bk wr g _ #[.string (strN t.1), .int .i64 ((t.2 : Nat) : Int)] at KS
      have hne1 : t.1 ≠ [] → ((strN t.1).toList == ([] : List UInt8)) = false := str_ne t.1
      have hne0 : t.1 = [] → strN t.1 = ⟨#[]⟩ := fun e => by rw [e]; decide +kernel
      have s0_ := KS.cell 0
      have s1_ := KS.cell 1
      have sl_ := KS.lt
      have hWr := Lib.hid HR.out.below
      have RR := Lib.hid HR.out.rd
      clear HR KS
      obtain ⟨q, hq⟩ : ∃ q, q = rdEnd t := ⟨_, rfl⟩
      rw [← hq] at EN hre
      by_cases ht : t.2 = 0
      · rw [ht] at s1_
        have hb0 : (((0 : Nat) : Int) == 0) = true := rfl
        by_cases hl : t.1 = []
        · rw [if_neg (fun h => h.2 hl)] at hre
          rw [hne0 hl] at s0_
          have hq0 : q = 0 := by rw [hre, ht]
          subst hq0
          clear hre hq ht hl hne1 hne0
          go_wp2_with fail
          refine (EN.out _ RR.out).mono ?_
          rintro e w' ⟨rfl, rfl⟩
          go_wp2_with fail
          go_ret
          exact ⟨rfl, hWr.out⟩
        · rw [if_pos ⟨ht, hl⟩] at hre
          have hn1 := hne1 hl
          generalize strN t.1 = ut at *
          subst hre
          clear hq ht hl hne1 hne0
          go_wp2_with fail
          refine (EN.out _ RR.out).mono ?_
          rintro e w' ⟨rfl, rfl⟩
          go_wp2_with fail
          go_ret
          exact ⟨rfl, hWr.out⟩
      · rw [if_neg (fun h => ht h.1)] at hre
        have hb0 : (((t.2 : Nat) : Int) == 0) = false := by simp; omega
        have hb1 : decide (((t.2 : Nat) : Int) = 0) = false := decide_eq_false (by omega)
        generalize t.2 = tc at *
        obtain rfl : q = tc := hre
        have he : ((q : Int) == (q : Int)) = true := by simp
        clear hq ht hne1 hne0
        go_wp2_with fail
        refine (EN.out _ RR.out).mono ?_
        rintro e w' ⟨rfl, rfl⟩
        go_wp2_with fail
        go_ret
        exact ⟨rfl, hWr.out⟩
end Go.Proofs.Ytccgfjkahdbboaa.wireReads
