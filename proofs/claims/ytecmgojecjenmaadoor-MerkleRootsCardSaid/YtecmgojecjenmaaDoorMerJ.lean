/-
  The contract of the law's own: two sums are one.
-/
import Derived.Test.YtecmgojecjenmaaDoorMerE
import Derived.Deep.RegionHeld3
import Derived.Deep.DeepCutAuto
namespace Go.Proofs.YtecmgojecjenmaaDoor
open Go.RowKit
set_option linter.unusedVariables false

def oneI : List Nat := 1 :: zeros 31
def twoI : List Nat := 2 :: zeros 31
theorem oneI_id : IsId oneI := ⟨rfl, by decide +kernel⟩
theorem twoI_id : IsId twoI := ⟨rfl, by decide +kernel⟩
theorem above_two (a b : List Nat) : aboveV [a, b] = [H2 a b] := by
  unfold aboveV aboveP
  simp [List.range_succ, nthI, besideN]
theorem root_two (a b : List Nat) (h : a ≠ b) : rootV [a, b] = (H2 a b, false) := by
  unfold rootV
  rw [if_neg (by simp), rootW_more _ _ (by simp), rootW_one _ _ (by rw [aboveV_length]; simp)]
  have e : doubV [a, b] = false := doubV_false _ (fun t ht => by
    have : t = 0 := by simp at ht; exact ht
    subst this
    exact h)
  rw [e, above_two]
  rfl
theorem root_one (a : List Nat) : rootV [a] = (a, false) := by
  unfold rootV
  rw [if_neg (by simp), rootW_one _ _ (by simp)]
  rfl
theorem root_same (a : List Nat) : rootV [a, a] = (H2 a a, true) := by
  unfold rootV
  rw [if_neg (by simp), rootW_more _ _ (by simp), rootW_one _ _ (by rw [aboveV_length]; simp)]
  have e : doubV [a, a] = true := doubV_true _ 0 (by simp) rfl
  rw [e, above_two]
  rfl
theorem leads_one (a b : List Nat) : leadsW a 0 [b] = H2 a b := rfl
theorem join_some : H2 oneI twoI ≠ zeros 32 := by decide +kernel
set_option maxRecDepth 100000 in
set_option maxHeartbeats 4000000 in
theorem joins_walk (a b q q2 : List Nat) (w : World) (HL : Hid (Laid w)) (Ha : Hid (IsId a)) (Hb : Hid (IsId b)) (Hq : Hid (IsId q)) (Hq2 : Hid (IsId q2)) (hca : Hid (idA a = #[.int .u8 1, .int .u8 0, .int .u8 0, .int .u8 0, .int .u8 0, .int .u8 0, .int .u8 0, .int .u8 0, .int .u8 0, .int .u8 0, .int .u8 0, .int .u8 0, .int .u8 0, .int .u8 0, .int .u8 0, .int .u8 0, .int .u8 0, .int .u8 0, .int .u8 0, .int .u8 0, .int .u8 0, .int .u8 0, .int .u8 0, .int .u8 0, .int .u8 0, .int .u8 0, .int .u8 0, .int .u8 0, .int .u8 0, .int .u8 0, .int .u8 0, .int .u8 0])) (hcb : Hid (idA b = #[.int .u8 2, .int .u8 0, .int .u8 0, .int .u8 0, .int .u8 0, .int .u8 0, .int .u8 0, .int .u8 0, .int .u8 0, .int .u8 0, .int .u8 0, .int .u8 0, .int .u8 0, .int .u8 0, .int .u8 0, .int .u8 0, .int .u8 0, .int .u8 0, .int .u8 0, .int .u8 0, .int .u8 0, .int .u8 0, .int .u8 0, .int .u8 0, .int .u8 0, .int .u8 0, .int .u8 0, .int .u8 0, .int .u8 0, .int .u8 0, .int .u8 0, .int .u8 0])) (hne : Hid (q ≠ zeros 32))
    (HR1 : Hid (∀ v W, Laid W → IdsV W W.heap.size v [a, b] → Calls Tryd.prog 14 #[v] W fun e w' => e = .returned (.tuple #[idv q, .bool false]) ∧ Below W.heap.size W w'))
    (HR2 : Hid (∀ v W, Laid W → IdsV W W.heap.size v [a] → Calls Tryd.prog 14 #[v] W fun e w' => e = .returned (.tuple #[idv a, .bool false]) ∧ Below W.heap.size W w'))
    (HR3 : Hid (∀ v W, Laid W → IdsV W W.heap.size v [a, a] → Calls Tryd.prog 14 #[v] W fun e w' => e = .returned (.tuple #[idv q2, .bool true]) ∧ Below W.heap.size W w'))
    (HLE : Hid (∀ v W, Laid W → IdsV W W.heap.size v [b] → Calls Tryd.prog 15 #[idv a, .int .i64 0, v] W fun e w' => e = .returned (idv q) ∧ Below W.heap.size W w'))
    (HTW : Hid (∀ sp W, Laid W → PartsV W sp [a, b] → Calls Tryd.prog 19 #[.slice sp 2 2] W fun e w' => e = .returned (idv q) ∧ Below W.heap.size W w')) :
    Calls Tryd.prog 12 #[] w fun e w' => e = .returned (.bool true) ∧ Below w.heap.size w w' := by
  go_enter Tryd.func12, Tryd.ntmps12
  have hal := Ha.out.1
  have hbl := Hb.out.1
  have hql := Hq.out.1
  have hq2l := Hq2.out.1
  have A0 := (Bk.new w 27 (idA (zeros 32))).alloc (.cells (idA (zeros 32)) 27)
  have B0 : Bk ((w.alloc (.cells (idA (zeros 32)) 27)).alloc (.cells (idA (zeros 32)) 27)) (w.heap.size + 1) 27 (idA (zeros 32)) := Bk.new' _ _ _ (by simp)
  have B1 := B0.farCells (b := w.heap.size) (by omega) (idA a).toList 0
  have hW0 : Below w.heap.size w ((w.alloc (.cells (idA (zeros 32)) 27)).alloc (.cells (idA (zeros 32)) 27)) := ((Below.refl _ _).alloc (Nat.le_refl _) _).alloc (by simp) _
  have A1 := A0.setAll (xs := idA a) (by rw [idA_size, idA_size, hal]; rfl)
  go_upto_region 2 with (first | (refine wpList_store_mid rfl 27 (.tmp 1) (.tmp 9) rfl w.heap.size 0 (idA a) rfl (congrArg Value.agg hca.out.symm) (by rw [idA_size, hal]; exact A0.there 32 (by rw [idA_size]; decide)) (by rw [idA_size, hal]; exact id_info') (id_ones _) ?_) | (refine wpList_store_mid rfl 27 (.tmp 2) (.tmp 10) rfl (w.heap.size + 1) 0 (idA b) rfl (congrArg Value.agg hcb.out.symm) (by rw [idA_size, hbl]; exact B1.there 32 (by rw [idA_size]; decide)) (by rw [idA_size, hbl]; exact id_info') (id_ones _) ?_))
  refine wp_any (fun W => Below w.heap.size w W ∧ Bk W w.heap.size 27 (idA a) ∧ Bk W (w.heap.size + 1) 27 (idA b)) ⟨Below.setCells (by omega) _ _ _ (Below.setCells (Nat.le_refl _) _ _ _ hW0), A1.farCells (by omega) _ _, B1.setAll (by rw [idA_size, idA_size, hbl]; rfl)⟩ ?_
  clear A0 B0 B1 A1 hW0
  generalize hg1 : w.heap.size = g1 at *
  generalize hg2 : g1 + 1 = g2 at *
  rintro W ⟨hW, A, B⟩
  have hszW : g1 ≤ W.heap.size := by rw [← hg1]; exact hW.size
  have hn : Bk (W.alloc (.cells (idA (a ++ b)) 27)) W.heap.size 27 (idA (a ++ b)) := Bk.new _ _ _
  have hWa : Below g1 w (W.alloc (.cells (idA (a ++ b)) 27)) := hW.alloc hszW _
  have HC := Lib.hid (HR1.out (.slice (some ⟨W.heap.size, 0, none⟩) 2 2) _ (HL.out.below hWa (by rw [← hg1]; exact HL.out.size)) (two_row hn Ha.out Hb.out))
  go_wp2_with (first | (refine wpList_load_mid rfl 27 (.tmp 1) rfl g1 0 rfl (idA a).toList _ A.range0 Tryd.underlying27 rfl (by rw [Array.length_toList, idA_size, hal]; exact id_info') ?_) | (refine wpList_load_mid rfl 27 (.tmp 2) rfl g2 0 rfl (idA b).toList _ B.range0 Tryd.underlying27 rfl (by rw [Array.length_toList, idA_size, hbl]; exact id_info') ?_) | (refine wpList_bsI2 rfl (.tmp 12) (.tmp 13) rfl a b Ha.out Hb.out rfl rfl ?_))
  refine HC.out.mono ?_
  rintro e w5 ⟨rfl, hb⟩
  have A := (A.alloc (.cells (idA (a ++ b)) 27)).keep hb
  have B := (B.alloc (.cells (idA (a ++ b)) 27)).keep hb
  have hW := hWa.trans (hb.mono (by rw [← hg1]; exact hWa.size))
  clear hb HC hn hWa hszW
  have N0 := Bk.new w5 27 (idA (zeros 32))
  go_upto_region 3 with (refine wpList_store_mid rfl 27 (.tmp 3) (.tmp 16) rfl w5.heap.size 0 (idA q) rfl rfl (by rw [idA_size, hql]; exact N0.there 32 (by rw [idA_size]; decide)) (by rw [idA_size, hql]; exact id_info') (id_ones _) ?_)
  refine wp_any (fun W => Below g1 w W ∧ Bk W g1 27 (idA a) ∧ Bk W g2 27 (idA b) ∧ Bk W w5.heap.size 27 (idA q)) ⟨Below.setCells (by have := hW.size; omega) _ _ _ (hW.alloc (by have := hW.size; omega) _), (A.alloc _).farCells (by have := A.lt; omega) _ _, (B.alloc _).farCells (by have := B.lt; omega) _ _, N0.setAll (by rw [idA_size, idA_size, hql]; rfl)⟩ ?_
  generalize w5.heap.size = g3 at *
  clear hW A B N0
  rintro W ⟨hW, A, B, R⟩
  have hszW : g1 ≤ W.heap.size := by rw [← hg1]; exact hW.size
  have hn : Bk (W.alloc (.cells (idA (a)) 27)) W.heap.size 27 (idA (a)) := Bk.new _ _ _
  have hWa : Below g1 w (W.alloc (.cells (idA (a)) 27)) := hW.alloc hszW _
  have HC := Lib.hid (HR2.out (.slice (some ⟨W.heap.size, 0, none⟩) 1 1) _ (HL.out.below hWa (by rw [← hg1]; exact HL.out.size)) (one_row hn Ha.out))
  go_wp2_with (first | (refine wpList_load_mid rfl 27 (.tmp 1) rfl g1 0 rfl (idA a).toList _ A.range0 Tryd.underlying27 rfl (by rw [Array.length_toList, idA_size, hal]; exact id_info') ?_) | (refine wpList_bsI1 rfl (.tmp 19) rfl a Ha.out rfl ?_))
  refine HC.out.mono ?_
  rintro e w5 ⟨rfl, hb⟩
  have A := (A.alloc (.cells (idA (a)) 27)).keep hb
  have B := (B.alloc (.cells (idA (a)) 27)).keep hb
  have R := (R.alloc (.cells (idA (a)) 27)).keep hb
  have hW := hWa.trans (hb.mono (by rw [← hg1]; exact hWa.size))
  clear hb HC hn hWa hszW
  have N0 := Bk.new w5 27 (idA (zeros 32))
  go_upto_region 4 with (refine wpList_store_mid rfl 27 (.tmp 5) (.tmp 22) rfl w5.heap.size 0 (idA a) rfl rfl (by rw [idA_size, hal]; exact N0.there 32 (by rw [idA_size]; decide)) (by rw [idA_size, hal]; exact id_info') (id_ones _) ?_)
  refine wp_any (fun W => Below g1 w W ∧ Bk W g1 27 (idA a) ∧ Bk W g2 27 (idA b) ∧ Bk W g3 27 (idA q) ∧ Bk W w5.heap.size 27 (idA a)) ⟨Below.setCells (by have := hW.size; omega) _ _ _ (hW.alloc (by have := hW.size; omega) _), (A.alloc _).farCells (by have := A.lt; omega) _ _, (B.alloc _).farCells (by have := B.lt; omega) _ _, (R.alloc _).farCells (by have := R.lt; omega) _ _, N0.setAll (by rw [idA_size, idA_size, hal]; rfl)⟩ ?_
  generalize w5.heap.size = g5 at *
  clear hW A B R N0
  rintro W ⟨hW, A, B, R, O⟩
  have hszW : g1 ≤ W.heap.size := by rw [← hg1]; exact hW.size
  have hn : Bk (W.alloc (.cells (idA (a ++ a)) 27)) W.heap.size 27 (idA (a ++ a)) := Bk.new _ _ _
  have hWa : Below g1 w (W.alloc (.cells (idA (a ++ a)) 27)) := hW.alloc hszW _
  have HC := Lib.hid (HR3.out (.slice (some ⟨W.heap.size, 0, none⟩) 2 2) _ (HL.out.below hWa (by rw [← hg1]; exact HL.out.size)) (two_row hn Ha.out Ha.out))
  go_wp2_with (first | (refine wpList_load_mid rfl 27 (.tmp 1) rfl g1 0 rfl (idA a).toList _ A.range0 Tryd.underlying27 rfl (by rw [Array.length_toList, idA_size, hal]; exact id_info') ?_) | (refine wpList_bsI2 rfl (.tmp 25) (.tmp 26) rfl a a Ha.out Ha.out rfl rfl ?_))
  refine HC.out.mono ?_
  rintro e w5 ⟨rfl, hb⟩
  have A := (A.alloc (.cells (idA (a ++ a)) 27)).keep hb
  have B := (B.alloc (.cells (idA (a ++ a)) 27)).keep hb
  have R := (R.alloc (.cells (idA (a ++ a)) 27)).keep hb
  have O := (O.alloc (.cells (idA (a ++ a)) 27)).keep hb
  have hW := hWa.trans (hb.mono (by rw [← hg1]; exact hWa.size))
  clear hb HC hn hWa hszW
  have N0 := Bk.new w5 27 (idA (zeros 32))
  go_upto_region 5 with (refine wpList_store_mid rfl 27 (.tmp 7) (.tmp 29) rfl w5.heap.size 0 (idA q2) rfl rfl (by rw [idA_size, hq2l]; exact N0.there 32 (by rw [idA_size]; decide)) (by rw [idA_size, hq2l]; exact id_info') (id_ones _) ?_)
  refine wp_any (fun W => Below g1 w W ∧ Bk W g1 27 (idA a) ∧ Bk W g2 27 (idA b) ∧ Bk W g3 27 (idA q) ∧ Bk W g5 27 (idA a) ∧ Bk W w5.heap.size 27 (idA q2)) ⟨Below.setCells (by have := hW.size; omega) _ _ _ (hW.alloc (by have := hW.size; omega) _), (A.alloc _).farCells (by have := A.lt; omega) _ _, (B.alloc _).farCells (by have := B.lt; omega) _ _, (R.alloc _).farCells (by have := R.lt; omega) _ _, (O.alloc _).farCells (by have := O.lt; omega) _ _, N0.setAll (by rw [idA_size, idA_size, hq2l]; rfl)⟩ ?_
  generalize w5.heap.size = g7 at *
  clear hW A B R O N0
  rintro W ⟨hW, A, B, R, O, S⟩
  go_upto_region 5 with fail
  have hLW := HL.out.below hW (by rw [← hg1]; exact HL.out.size)
  have HLW := Lib.hid hLW
  clear hLW
  obtain ⟨tl, htl⟩ : ∃ tl : TypeId, tl = 27 := ⟨_, rfl⟩
  obtain ⟨sz, hsz0⟩ : ∃ sz : Nat, sz = 32 := ⟨_, rfl⟩
  have hag : ∀ w, (isAgg tl).run Tryd.prog w = .ok true w := by rw [htl]; exact id_agg
  have hsz : ∀ w, (sizeOf tl).run Tryd.prog w = .ok sz w := by rw [htl, hsz0]; exact id_size
  have hlg1 : ∀ w', w'.rangeAt g1 0 (idA a).toList → (loadCellsFrom ⟨g1, 0, none⟩ 0 sz #[]).run Tryd.prog w' = .ok (idA a) w' := fun w' h => by rw [hsz0]; exact id_load _ _ _ _ hal h
  have hrg1 := A.range0
  have hlg2 : ∀ w', w'.rangeAt g2 0 (idA b).toList → (loadCellsFrom ⟨g2, 0, none⟩ 0 sz #[]).run Tryd.prog w' = .ok (idA b) w' := fun w' h => by rw [hsz0]; exact id_load _ _ _ _ hbl h
  have hrg2 := B.range0
  have hlg3 : ∀ w', w'.rangeAt g3 0 (idA q).toList → (loadCellsFrom ⟨g3, 0, none⟩ 0 sz #[]).run Tryd.prog w' = .ok (idA q) w' := fun w' h => by rw [hsz0]; exact id_load _ _ _ _ hql h
  have hrg3 := R.range0
  have hlg5 : ∀ w', w'.rangeAt g5 0 (idA a).toList → (loadCellsFrom ⟨g5, 0, none⟩ 0 sz #[]).run Tryd.prog w' = .ok (idA a) w' := fun w' h => by rw [hsz0]; exact id_load _ _ _ _ hal h
  have hrg5 := O.range0
  have heq1 : ∀ W, (Op.equalIn 10000 27 (.agg (idA q)) (.agg (idA q))).run Tryd.prog W = .ok true W := fun W => by have h := id_eql q q hql hql W; rwa [decide_eq_true rfl] at h
  have heq2 : ∀ W, (Op.equalIn 10000 27 (.agg (idA a)) (.agg (idA a))).run Tryd.prog W = .ok true W := fun W => by have h := id_eql a a hal hal W; rwa [decide_eq_true rfl] at h
  have heq3 : ∀ W, (Op.equalIn 10000 27 (.agg (idA q)) (.agg #[.int .u8 0, .int .u8 0, .int .u8 0, .int .u8 0, .int .u8 0, .int .u8 0, .int .u8 0, .int .u8 0, .int .u8 0, .int .u8 0, .int .u8 0, .int .u8 0, .int .u8 0, .int .u8 0, .int .u8 0, .int .u8 0, .int .u8 0, .int .u8 0, .int .u8 0, .int .u8 0, .int .u8 0, .int .u8 0, .int .u8 0, .int .u8 0, .int .u8 0, .int .u8 0, .int .u8 0, .int .u8 0, .int .u8 0, .int .u8 0, .int .u8 0, .int .u8 0])).run Tryd.prog W = .ok false W := fun W => by have h := id_eql q (zeros 32) hql rfl W; rw [decide_eq_false hne.out] at h; exact h
  have hb32 : (idA b).size = 32 := by rw [idA_size]; exact hbl
  have hfold := id_fold b hbl
  simp only [show ∀ z, Op.load 27 z = Op.load tl z from fun z => by rw [htl]]
  clear htl hsz0
  generalize Value.agg #[.int .u8 1, .int .u8 0, .int .u8 0, .int .u8 0, .int .u8 0, .int .u8 0, .int .u8 0, .int .u8 0, .int .u8 0, .int .u8 0, .int .u8 0, .int .u8 0, .int .u8 0, .int .u8 0, .int .u8 0, .int .u8 0, .int .u8 0, .int .u8 0, .int .u8 0, .int .u8 0, .int .u8 0, .int .u8 0, .int .u8 0, .int .u8 0, .int .u8 0, .int .u8 0, .int .u8 0, .int .u8 0, .int .u8 0, .int .u8 0, .int .u8 0, .int .u8 0] = va at *
  generalize Value.agg #[.int .u8 2, .int .u8 0, .int .u8 0, .int .u8 0, .int .u8 0, .int .u8 0, .int .u8 0, .int .u8 0, .int .u8 0, .int .u8 0, .int .u8 0, .int .u8 0, .int .u8 0, .int .u8 0, .int .u8 0, .int .u8 0, .int .u8 0, .int .u8 0, .int .u8 0, .int .u8 0, .int .u8 0, .int .u8 0, .int .u8 0, .int .u8 0, .int .u8 0, .int .u8 0, .int .u8 0, .int .u8 0, .int .u8 0, .int .u8 0, .int .u8 0, .int .u8 0] = vb at *
  go_cut [0] (fun s0 wx => s0 = .bool true ∧ Below W.heap.size W wx)
  case first =>
    go_region_held3 (fun w' => W.heap.size ≤ w'.heap.size ∧ w'.rangeAt g1 0 (idA a).toList ∧ w'.rangeAt g2 0 (idA b).toList ∧ w'.rangeAt g3 0 (idA q).toList ∧ w'.rangeAt g5 0 (idA a).toList)
      ((refine ⟨?_, ?_, ?_, ?_, ?_⟩; (focus (first | omega | (simp; done) | (simp; omega) | (simp [World.drew]; done) | (simp [World.drew]; omega))); (focus (refine idr_below (C := W.heap.size) hrg1 ?_ A.lt; repeat' (first | with_reducible exact Below.refl _ _ | with_reducible assumption | with_reducible exact From.out (by with_reducible assumption) | with_reducible refine Below.drew ?_ | with_reducible refine Below.setCell ?_ ?_ _ | with_reducible refine Below.alloc ?_ ?_ _ | with_reducible exact Nat.le_refl _ | omega | (simp; done) | (simp; omega) | (simp [World.drew]; done) | (simp [World.drew]; omega)))); (focus (refine idr_below (C := W.heap.size) hrg2 ?_ B.lt; repeat' (first | with_reducible exact Below.refl _ _ | with_reducible assumption | with_reducible exact From.out (by with_reducible assumption) | with_reducible refine Below.drew ?_ | with_reducible refine Below.setCell ?_ ?_ _ | with_reducible refine Below.alloc ?_ ?_ _ | with_reducible exact Nat.le_refl _ | omega | (simp; done) | (simp; omega) | (simp [World.drew]; done) | (simp [World.drew]; omega)))); (focus (refine idr_below (C := W.heap.size) hrg3 ?_ R.lt; repeat' (first | with_reducible exact Below.refl _ _ | with_reducible assumption | with_reducible exact From.out (by with_reducible assumption) | with_reducible refine Below.drew ?_ | with_reducible refine Below.setCell ?_ ?_ _ | with_reducible refine Below.alloc ?_ ?_ _ | with_reducible exact Nat.le_refl _ | omega | (simp; done) | (simp; omega) | (simp [World.drew]; done) | (simp [World.drew]; omega)))); (focus (refine idr_below (C := W.heap.size) hrg5 ?_ O.lt; repeat' (first | with_reducible exact Below.refl _ _ | with_reducible assumption | with_reducible exact From.out (by with_reducible assumption) | with_reducible refine Below.drew ?_ | with_reducible refine Below.setCell ?_ ?_ _ | with_reducible refine Below.alloc ?_ ?_ _ | with_reducible exact Nat.le_refl _ | omega | (simp; done) | (simp; omega) | (simp [World.drew]; done) | (simp [World.drew]; omega))))))
      (first
      | (go_at_call 19
         refine (HTW.out _ _ ?_ ?_).mono ?_
         · refine HLW.out.keep ?_
           repeat' (first | with_reducible exact Below.refl _ _ | with_reducible assumption | with_reducible exact From.out (by with_reducible assumption) | with_reducible refine Below.drew ?_ | with_reducible refine Below.setCell ?_ ?_ _ | with_reducible refine Below.alloc ?_ ?_ _ | with_reducible exact Nat.le_refl _ | omega | (simp; done) | (simp; omega) | (simp [World.drew]; done) | (simp [World.drew]; omega))
         · refine parts_two (g1 := g1) (g2 := g2) (t := 27) (u := 29) Ha.out Hb.out ?_ ?_ ?_
           · repeat' (first | with_reducible assumption | with_reducible exact Bk.new _ _ _ | with_reducible refine Bk.new' _ _ _ ?_ | with_reducible refine Bk.alloc ?_ _ | with_reducible refine Bk.drew ?_ | (with_reducible refine Bk.keep ?_ (by with_reducible assumption)) | (simp; done) | (simp; omega) | (simp [World.drew]; done) | (simp [World.drew]; omega))
           · repeat' (first | with_reducible assumption | with_reducible exact Bk.new _ _ _ | with_reducible refine Bk.new' _ _ _ ?_ | with_reducible refine Bk.alloc ?_ _ | with_reducible refine Bk.drew ?_ | (with_reducible refine Bk.keep ?_ (by with_reducible assumption)) | (simp; done) | (simp; omega) | (simp [World.drew]; done) | (simp [World.drew]; omega))
           · repeat' (first | with_reducible assumption | with_reducible exact Bk.new _ _ _ | with_reducible refine Bk.new' _ _ _ ?_ | with_reducible refine Bk.alloc ?_ _ | with_reducible refine Bk.drew ?_ | (with_reducible refine Bk.keep ?_ (by with_reducible assumption)) | (simp; done) | (simp; omega) | (simp [World.drew]; done) | (simp [World.drew]; omega))
         rintro e w6 ⟨rfl, hb6⟩
         have hE6 : From W w6 := by
           refine below_step ?_ ?_ hb6
           · repeat' (first | with_reducible exact Below.refl _ _ | with_reducible assumption | with_reducible exact From.out (by with_reducible assumption) | with_reducible refine Below.drew ?_ | with_reducible refine Below.setCell ?_ ?_ _ | with_reducible refine Below.alloc ?_ ?_ _ | with_reducible exact Nat.le_refl _ | omega | (simp; done) | (simp; omega) | (simp [World.drew]; done) | (simp [World.drew]; omega))
           · first | omega | (simp; done) | (simp; omega) | (simp [World.drew]; done) | (simp [World.drew]; omega)
         have z6 := hE6.out.size
         have A6 := A.keep hE6.out
         have B6 := B.keep hE6.out)
      | (go_at_call 15
         refine (HLE.out _ _ ?_ ?_).mono ?_
         · refine HLW.out.keep ?_
           repeat' (first | with_reducible exact Below.refl _ _ | with_reducible assumption | with_reducible exact From.out (by with_reducible assumption) | with_reducible refine Below.drew ?_ | with_reducible refine Below.setCell ?_ ?_ _ | with_reducible refine Below.alloc ?_ ?_ _ | with_reducible exact Nat.le_refl _ | omega | (simp; done) | (simp; omega) | (simp [World.drew]; done) | (simp [World.drew]; omega))
         · refine one_row (t := 27) ?_ Hb.out
           repeat' (first | with_reducible assumption | with_reducible exact Bk.new _ _ _ | with_reducible refine Bk.new' _ _ _ ?_ | with_reducible refine Bk.alloc ?_ _ | with_reducible refine Bk.drew ?_ | (with_reducible refine Bk.keep ?_ (by with_reducible assumption)) | (simp; done) | (simp; omega) | (simp [World.drew]; done) | (simp [World.drew]; omega))
         rintro e w7 ⟨rfl, hb7⟩
         have hE7 : From W w7 := by
           refine below_step ?_ ?_ hb7
           · repeat' (first | with_reducible exact Below.refl _ _ | with_reducible assumption | with_reducible exact From.out (by with_reducible assumption) | with_reducible refine Below.drew ?_ | with_reducible refine Below.setCell ?_ ?_ _ | with_reducible refine Below.alloc ?_ ?_ _ | with_reducible exact Nat.le_refl _ | omega | (simp; done) | (simp; omega) | (simp [World.drew]; done) | (simp [World.drew]; omega))
           · first | omega | (simp; done) | (simp; omega) | (simp [World.drew]; done) | (simp [World.drew]; omega)
         have z7 := hE7.out.size))
    all_goals
      go_wp2_with fail
      go_meet
      refine ⟨rfl, ?_⟩
      repeat' (first | with_reducible exact Below.refl _ _ | with_reducible assumption | with_reducible exact From.out (by with_reducible assumption) | with_reducible refine Below.drew ?_ | with_reducible refine Below.setCell ?_ ?_ _ | with_reducible refine Below.alloc ?_ ?_ _ | with_reducible exact Nat.le_refl _ | omega | (simp; done) | (simp; omega) | (simp [World.drew]; done) | (simp [World.drew]; omega))
  case rest =>
    obtain ⟨rfl, hb⟩ := hcut
    have hszW : g1 ≤ W.heap.size := by rw [← hg1]; exact hW.size
    have hW := hW.trans (hb.mono hszW)
    go_wp2_with fail
    go_ret
    exact ⟨rfl, by rw [hg1]; exact hW⟩
theorem joins_any (w : World) (hL : Laid w) : Calls Tryd.prog 12 #[] w fun e w' => e = .returned (.bool true) ∧ Below w.heap.size w w' := by
  have hab : oneI ≠ twoI := by decide
  refine joins_walk oneI twoI (H2 oneI twoI) (H2 oneI oneI) w hL oneI_id twoI_id (H2_id _ _) (H2_id _ _) rfl rfl join_some ?_ ?_ ?_ ?_ ?_
  · intro v W h1 h2
    have h := root_any v _ W h1 h2 (by simp)
    rw [root_two _ _ hab] at h
    exact h
  · intro v W h1 h2
    have h := root_any v _ W h1 h2 (by simp)
    rw [root_one] at h
    exact h
  · intro v W h1 h2
    have h := root_any v _ W h1 h2 (by simp)
    rw [root_same] at h
    exact h
  · intro v W h1 h2
    have h := leads_any oneI 0 v _ W h1 oneI_id (by omega) h2 (by simp)
    rw [leads_one] at h
    exact h
  · intro sp W h1 h2
    have h := twicev [oneI, twoI] sp 2 W h1 (by decide) (by simp) h2
    simpa [H2] using h
end Go.Proofs.YtecmgojecjenmaaDoor
