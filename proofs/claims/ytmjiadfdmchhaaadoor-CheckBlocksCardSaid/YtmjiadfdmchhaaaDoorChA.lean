/-
  Package check: a block's first transaction, as the laws make it.
-/
import Derived.Test.YtmjiadfdmchhaaaDoorCkG
namespace Go.Proofs.YtmjiadfdmchhaaaDoor
open Go.RowKit
set_option linter.unusedVariables false
set_option linter.unusedSimpArgs false
set_option maxRecDepth 100000

def in1 : InM := ⟨i0, 4294967295, none, 0, []⟩
def out1 (a : Int) : OutM := ⟨a, i0⟩
theorem fold_part (Z : Array Value) (L : List Value) (h : L.length ≤ Z.size) : List.foldl (fun (cs : Array Value) (x : Value × Nat) => cs.setIfInBounds x.snd x.fst) Z L.zipIdx = (L ++ Z.toList.drop L.length).toArray := by
  have h1 := Great.foldl_set 0 L 0 Z
  simp only [Nat.zero_add] at h1
  obtain ⟨h2, h3⟩ := h1
  apply Array.ext_getElem?
  intro k
  rw [h3]
  rw [show (L ++ Z.toList.drop L.length).toArray[k]? = (L ++ Z.toList.drop L.length)[k]? from List.getElem?_toArray]
  by_cases hk : k < L.length
  · rw [if_pos ⟨by omega, by omega, by omega⟩, List.getElem?_append_left hk]
    simp
  · rw [if_neg (by omega), List.getElem?_append_right (by omega), List.getElem?_drop, Array.getElem?_toList, show L.length + (k - L.length) = k by omega]
theorem in1_fold : List.foldl (fun (cs : Array Value) (x : Value × Nat) => cs.setIfInBounds x.snd x.fst) #[.int .u8 0, .int .u8 0, .int .u8 0, .int .u8 0, .int .u8 0, .int .u8 0, .int .u8 0, .int .u8 0, .int .u8 0, .int .u8 0, .int .u8 0, .int .u8 0, .int .u8 0, .int .u8 0, .int .u8 0, .int .u8 0, .int .u8 0, .int .u8 0, .int .u8 0, .int .u8 0, .int .u8 0, .int .u8 0, .int .u8 0, .int .u8 0, .int .u8 0, .int .u8 0, .int .u8 0, .int .u8 0, .int .u8 0, .int .u8 0, .int .u8 0, .int .u8 0, .int .u32 0, .slice none 0 0] (poL mkP).zipIdx = (inL in1).toArray := by
  rw [fold_part _ _ (by rw [poL_len]; decide)]
  kernel_rfl
set_option maxHeartbeats 4000000 in
theorem first_any (a : Int) (w : World) (ha : OutOk (out1 a)) :
    Calls Tryd.prog 14 #[.int .i64 a] w fun e w' => ∃ t, e = .returned (txv t) ∧ t.ins = [in1] ∧ t.outs = [out1 a] ∧ TxV w' w'.heap.size t ∧ Below w.heap.size w w' := by
  have HA := Lib.hid ha
  have HMK : Hid (∀ w, Calls Tryd.prog 17 #[] w fun r w' => r = .returned (.agg (poL mkP).toArray) ∧ Below w.heap.size w w') := maker_any
  have hf1 := in1_fold
  have hf2 := in_fold in1
  have hl1 := poL_len mkP
  have hl2 := inL_len in1
  generalize hPL : poL mkP = PL at *
  generalize hIL : inL in1 = IL at *
  have HIL := Lib.hid hIL
  clear ha hPL hIL
  go_enter Tryd.func14, Tryd.ntmps14
  go_upto_region 1 with fail
  refine wp_any (fun W => Below w.heap.size w W ∧ Bk W w.heap.size 28 #[.slice none 0 0, .slice none 0 0]) ⟨(Below.refl _ _).alloc (Nat.le_refl _) _, Bk.new _ _ _⟩ ?_
  obtain ⟨g, hg⟩ : ∃ g, g = w.heap.size := ⟨_, rfl⟩
  have HG := Lib.hid hg
  rw [← hg]
  rintro W ⟨hB, K⟩
  have HB := Lib.hid (show Below w.heap.size w W from by rw [hg] at hB; exact hB)
  have HK := Lib.hid K
  clear hB K hg
  go_wp2_with fail
  refine (HMK.out _).mono ?_
  rintro e w1 ⟨rfl, hb1⟩
  have K1 := HK.out.keep hb1
  have HB1 := Lib.hid (below_step HB.out HB.out.size hb1)
  have c0 := K1.cell 0
  have c1 := K1.cell 1
  have f0 := K1.frozen 0
  have f1 := K1.frozen 1
  have zg := K1.lt
  have HK1 := Lib.hid K1
  clear hb1 K1
  go_wp2_with fail
  obtain ⟨V, hV⟩ : ∃ V, V = (w1.setCell ⟨g, 0, none⟩ (.slice (some ⟨w1.heap.size, 0, none⟩) 1 1)).setCell ⟨g, 1, none⟩ (.slice (some ⟨w1.heap.size + 1, 0, none⟩) 1 1) := ⟨_, rfl⟩
  have hVs : V.heap.size = w1.heap.size := by rw [hV]; simp [World.setCell]
  have KV : Bk V g 28 #[.slice (some ⟨w1.heap.size, 0, none⟩) 1 1, .slice (some ⟨w1.heap.size + 1, 0, none⟩) 1 1] := by rw [hV]; exact (HK1.out.set_ 0 _).set_ 1 _
  have BV : Below w.heap.size w V := by rw [hV]; exact (HB1.out.setCell (Nat.le_of_eq HG.out.symm) _).setCell (Nat.le_of_eq HG.out.symm) _
  rw [← hV]
  have B1 : Below V.heap.size V (V.alloc (.cells IL.toArray 68)) := (Below.refl _ _).alloc (Nat.le_refl _) _
  have KI : Bk (V.alloc (.cells IL.toArray 68)) w1.heap.size 68 IL.toArray := Bk.new' _ _ _ hVs.symm
  have hs2 : (V.alloc (.cells IL.toArray 68)).heap.size = w1.heap.size + 1 := by simp [hVs]
  obtain ⟨V2, hV2⟩ : ∃ V2, V2 = V.alloc (.cells IL.toArray 68) := ⟨_, rfl⟩
  rw [← hV2] at KI hs2 B1 ⊢
  have B2 : Below V2.heap.size V2 (V2.alloc (.cells (ouL (out1 a)).toArray 76)) := (Below.refl _ _).alloc (Nat.le_refl _) _
  have KO : Bk (V2.alloc (.cells (ouL (out1 a)).toArray 76)) (w1.heap.size + 1) 76 (ouL (out1 a)).toArray := Bk.new' _ _ _ hs2.symm
  show bodyPost _ _ _ _ _ (V2.alloc (.cells (ouL (out1 a)).toArray 76))
  have KG := (KV.keep B1).keep B2
  have KI2 := KI.keep B2
  rw [← HIL.out] at KI2
  refine bodyPost_ret (results_cell_row rfl _ _ g 28 _ (0, 0) _ rfl KG Tryd.underlying28 rfl (by kernel_rfl)) rfl ?_
  refine ⟨⟨some ⟨w1.heap.size, 0, none⟩, 1, [in1], some ⟨w1.heap.size + 1, 0, none⟩, 1, [out1 a]⟩, rfl, rfl, rfl, ⟨one_rowR' inR_ok KI2, fun x hx => ?_, one_rowR' outR_ok KO, fun x hx => ?_⟩, (BV.trans (B1.mono BV.size)).trans (B2.mono (Nat.le_trans BV.size B1.size))⟩
  · rw [List.mem_singleton.1 hx]
    exact ⟨by decide, none, 0, rfl, Nat.le_refl _, by decide, (fun b hb => by cases hb), fun h => absurd rfl h⟩
  · rw [List.mem_singleton.1 hx]
    exact HA.out
end Go.Proofs.YtmjiadfdmchhaaaDoor
