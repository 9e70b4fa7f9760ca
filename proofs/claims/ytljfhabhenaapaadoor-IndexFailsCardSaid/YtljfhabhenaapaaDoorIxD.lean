/-
  Contracts of package index: Find, and what its map of names answers.
-/
import Derived.Test.YtljfhabhenaapaaDoorIxC
namespace Go.Proofs.YtljfhabhenaapaaDoor
open Go.RowKit
set_option linter.unusedVariables false
set_option linter.unusedSimpArgs false
set_option maxRecDepth 100000

theorem id_load (w : World) (q : Nat) (t : TypeId) (x : I32) (K : Bk w q t (idL x).toArray) : (loadCellsFrom ⟨q, 0, none⟩ 0 32 #[]).run Tryd.prog w = .ok (idL x).toArray w := by
  have h := run_loadCells_list (P := Tryd.prog) w ⟨q, 0, none⟩ (idL x) (fun j v hv => by rw [Addr.add_mid, Nat.zero_add, K.cell, List.getElem?_toArray]; exact hv)
  rw [idL_len] at h
  exact h
theorem id_agg (w : World) : (isAgg 30).run Tryd.prog w = .ok true w := by kernel_rfl
theorem id_sz (w : World) : (sizeOf 30).run Tryd.prog w = .ok 32 w := by kernel_rfl
theorem Tre.look2 {w : World} {p lo : Nat} {F : Nat → Prop} {r : Ru} {L : List Nd} (h : Tre w p lo F r L) : ∃ m, w.cell? ⟨p, 75, none⟩ = some (.map (some m)) ∧ MapG akE w m L.length (fnd L) := by
  obtain ⟨v, m, h, _⟩ := h
  exact ⟨m, h.c75, h.mp⟩
def findV (L : List Nd) (x : I32) : Value := .tuple #[.int .i64 ((findI L x.1).elim 0 fun i => (i : Int)), .bool (findI L x.1).isSome]
theorem find_val (L : List Nd) (x : I32) : (Value.tuple #[valO akE (fnd L x), .bool (fnd L x).isSome]) = findV L x := by
  unfold fnd findV
  cases findI L x.1 <;> rfl
set_option maxHeartbeats 4000000 in
theorem find_any {w : World} {p lo : Nat} {F : Nat → Prop} {r : Ru} {L : List Nd} (h : Tre w p lo F r L) (x : I32) :
    Calls Tryd.prog 22 #[pv p, idV x] w fun e w' => e = .returned (findV L x) ∧ Below w.heap.size w w' := by
  obtain ⟨w1, hw1⟩ : ∃ w1, w1 = w.alloc (.cells (idL x).toArray 30) := ⟨_, rfl⟩
  have hB : Below w.heap.size w w1 := by rw [hw1]; exact (Below.refl _ _).alloc (Nat.le_refl _) _
  have h2 := h.keep hB
  have hp : p < w1.heap.size := by obtain ⟨b, c, k⟩ := h2.look; exact k.p1
  obtain ⟨m, hcm, hm⟩ := h2.look2
  have hc : ∀ W, Below w1.heap.size w1 W → W.cell? ⟨p, 75, none⟩ = some (.map (some m)) := fun W hb => (hb.cell (p := ⟨p, 75, none⟩) hp).trans hcm
  have hl : ∀ W, Below w1.heap.size w1 W → (Instr.lookup 73 (.map (some m)) (.agg (idL x).toArray) true).run Tryd.prog W = .ok (findV L x) W := fun W hb => by
    have := (hm.keep hb).look akE_ok (x := x) trivial
    rw [find_val] at this
    exact this
  have hK : Bk w1 w.heap.size 30 (idL x).toArray := by rw [hw1]; exact Bk.new _ _ _
  obtain ⟨tl, htl⟩ : ∃ tl : TypeId, tl = 30 := ⟨_, rfl⟩
  obtain ⟨s32, hs32⟩ : ∃ sz : Nat, sz = 32 := ⟨_, rfl⟩
  have hag : ∀ w, (isAgg tl).run Tryd.prog w = .ok true w := by rw [htl]; exact id_agg
  have hsz : ∀ w, (sizeOf tl).run Tryd.prog w = .ok s32 w := by rw [htl, hs32]; exact id_sz
  have hla : ∀ W, Below w1.heap.size w1 W → (loadCellsFrom ⟨w.heap.size, 0, none⟩ 0 s32 #[]).run Tryd.prog W = .ok (idL x).toArray W := by rw [hs32]; exact fun W hb => id_load _ _ _ _ (hK.keep hb)
  have HTL := Lib.hid (show ∀ z, Op.load 30 z = Op.load tl z from fun z => by rw [htl])
  have hdw : Below w.heap.size w w1.drew := hB.trans ((Below.refl _ w1).drew.mono hB.size)
  have HDW := Lib.hid hdw
  unfold pv idV
  unfold findV at hl ⊢
  generalize (findI L x.1).isSome = fb at *
  generalize (findI L x.1).elim (0 : Int) (fun i => (i : Int)) = fi at *
  obtain ⟨XA, hXA⟩ : ∃ XA, XA = (idL x).toArray := ⟨_, rfl⟩
  rw [← hXA] at hw1 hl hK hla ⊢
  clear hXA h2 htl hs32 hcm hm h
  go_enter Tryd.func22, Tryd.ntmps22
  go_upto_region 1 with fail
  have htl2 := HTL.out
  simp only [htl2]
  clear htl2
  rw [← hw1]
  obtain ⟨k0, hk0⟩ : ∃ k0, k0 = w.heap.size := ⟨_, rfl⟩
  have hk1 : k0 < w1.heap.size := by rw [hk0]; exact hK.lt
  rw [← hk0] at hla ⊢
  clear hw1 hK hk0 hB
  go_region_held (fun w' => Below w1.heap.size w1 w') (first | with_reducible assumption | exact (Below.refl _ _).drew | exact Below.refl _ _) (fail)
  go_wp2_with fail
  go_ret2
  exact ⟨rfl, HDW.out⟩
end Go.Proofs.YtljfhabhenaapaaDoor
