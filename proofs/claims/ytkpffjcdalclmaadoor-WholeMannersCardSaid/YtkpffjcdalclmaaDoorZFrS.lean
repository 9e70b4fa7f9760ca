/- The contract of package frame's sumOf. -/
import Derived.Test.YtkpffjcdalclmaaDoorZFrL
import Derived.WalkSpells
import Derived.Laws.Cover3
import Derived.Test.YtkpffjcdalclmaaDoorZMerP
namespace Go.Proofs.YtkpffjcdalclmaaDoor
open Go.RowKit
set_option linter.unusedVariables false
set_option linter.unusedSimpArgs false
set_option maxRecDepth 100000
theorem a4_info : (Tryd.prog.info? 135).map (·.size) = some 4 := by kernel_rfl
def sum4 (xs : List Nat) : List Nat := (sha (sha xs)).take 4
theorem sum4_length (xs : List Nat) : (sum4 xs).length = 4 := by unfold sum4; rw [List.length_take]; rfl
theorem sum4_lt (xs : List Nat) : ∀ x ∈ sum4 xs, x < 256 := fun x hx => sha_lt _ x (List.mem_of_mem_take hx)
set_option maxHeartbeats 4000000 in
theorem sumof_any (xs : List Nat) (s : Option Addr) (n c : Nat) (w : World) (hL : Laid w) (hb : BsV w w.heap.size (.slice s n c) xs) (hl : xs.length ≤ 1000000) :
    Calls Tryd.prog 65 #[.slice s n c] w fun e w' => e = .returned (.agg (idA (sum4 xs))) ∧ Below w.heap.size w w' := by
  have HT : Hid (∀ g W, Below w.heap.size w W → Bk W g 32 #[.slice s n c] → Calls Tryd.prog 84 #[.slice (some ⟨g, 0, none⟩) 1 1] W fun e w' => e = .returned (idv (sha (sha xs))) ∧ Below W.heap.size W w') := fun g W h hk =>
    twice1 xs (some ⟨g, 0, none⟩) 1 W (hL.below h hL.size) (by omega) (parts_bs (hb.keep h (Nat.le_refl _)) h.size hk)
  have hql : (sha (sha xs)).length = 32 := rfl
  have HS4 : Hid (sum4 xs = (sha (sha xs)).take 4) := rfl
  have HS5 := Lib.hid (sum4_length xs)
  obtain ⟨q, hq⟩ : ∃ q, q = sha (sha xs) := ⟨_, rfl⟩
  rw [← hq] at HT hql HS4
  obtain ⟨z, hz⟩ : ∃ z, z = sum4 xs := ⟨_, rfl⟩
  rw [← hz] at HS4 HS5 ⊢
  have HQL := Lib.hid hql
  clear hL hb hl hq hz hql
  go_enter Tryd.func65, Tryd.ntmps65
  go_upto_region 1 with fail
  refine wp_any (fun W => Below w.heap.size w W ∧ Bk W w.heap.size 135 (idA (zeros 4))) ⟨(Below.refl _ _).alloc (Nat.le_refl _) _, Bk.new _ _ _⟩ ?_
  obtain ⟨g2, hg2⟩ : ∃ g2, g2 = w.heap.size := ⟨_, rfl⟩
  have HG := Lib.hid hg2
  rw [← hg2]
  clear hg2
  rintro W ⟨hW, K2⟩
  have HW : Hid (Below w.heap.size w W) := by rw [← HG.out]; exact hW
  clear hW
  have hA : Below W.heap.size W (W.alloc (.cells #[.slice s n c] 32)) := (Below.refl _ _).alloc (Nat.le_refl _) _
  have HC := Lib.hid (HT.out W.heap.size (W.alloc (.cells #[.slice s n c] 32)) (below_step HW.out HW.out.size hA) (Bk.new _ _ _))
  have HW1 := Lib.hid (below_step HW.out HW.out.size hA)
  have K21 := K2.keep hA
  clear hA HW K2 HT
  go_wp2_with fail
  refine HC.out.mono ?_
  rintro e W2 ⟨rfl, hb2⟩
  have HW2 := Lib.hid (below_step HW1.out HW1.out.size hb2)
  have K22 := K21.keep hb2
  have hA2 : Below W2.heap.size W2 ((W2.alloc (.cells (idA (zeros 32)) 50)).setCells W2.heap.size 0 (idA q).toList) := Below.setCells (Nat.le_refl _) _ _ _ ((Below.refl _ _).alloc (Nat.le_refl _) _)
  have hK3 : Bk ((W2.alloc (.cells (idA (zeros 32)) 50)).setCells W2.heap.size 0 (idA q).toList) W2.heap.size 50 (idA q) := (Bk.new W2 50 (idA (zeros 32))).setAll (by rw [idA_size, idA_size, HQL.out]; rfl)
  clear hb2 HC K21 HW1
  go_upto_region 2 with (refine wpList_store_mid rfl 50 (.tmp 3) (.tmp 6) rfl W2.heap.size 0 (idA q) rfl rfl (by rw [idA_size, HQL.out]; exact (Bk.new W2 50 (idA (zeros 32))).there 32 (by rw [idA_size]; decide)) (by rw [idA_size, HQL.out]; exact id_info') (id_ones _) ?_)
  refine wp_any (fun W => Below w.heap.size w W ∧ Bk W g2 135 (idA (zeros 4)) ∧ Bk W W2.heap.size 50 (idA q)) ⟨below_step HW2.out HW2.out.size hA2, K22.keep hA2, hK3⟩ ?_
  clear hA2 hK3 HW2 K22
  generalize W2.heap.size = g3 at *
  rintro V ⟨hV, K2, K3⟩
  have HV := Lib.hid hV
  have z3 := K3.lt
  have hr3 : V.rangeAt g3 0 (z.map byteV) := fun j v hv => K3.range0 j v (by
    rw [HS4.out, List.getElem?_map] at hv
    obtain ⟨y, hy, rfl⟩ := Option.map_eq_some_iff.1 hv
    have hj : j < 4 := by
      have := (List.getElem?_eq_some_iff.1 hy).1
      rw [List.length_take] at this
      omega
    rw [List.getElem?_take_of_lt hj] at hy
    unfold idA
    rw [List.toList_toArray, List.getElem?_map, hy]
    rfl)
  have hps : (Tryd.prog.info? 135).map (·.size) = some (z.map byteV).length := by rw [List.length_map, HS5.out]; exact a4_info
  have hzA : (z.map byteV).toArray = idA z := rfl
  have HZS : Hid ((idA z).size = 4) := by show _ = _; rw [idA_size]; exact HS5.out
  have hat : ∀ w, (Instr.arrayAt 135 (.slice (some ⟨g3, 0, none⟩) 32 32)).run Tryd.prog w = .ok (.pointer (some ⟨g3, 0, none⟩)) w := fun w => run_arrayAt (P := Tryd.prog) (w := w) 135 5 4 (some ⟨g3, 0, none⟩) 32 32 Tryd.underlying135 (by omega)
  clear hV K3
  go_wp2_with (first | (refine wpList_load_mid rfl 135 (.tmp 8) rfl g3 0 rfl (z.map byteV) _ hr3 Tryd.underlying135 rfl hps ?_; rw [hzA]) | (refine wpList_store_mid rfl 135 (.tmp 2) (.tmp 9) rfl g2 0 (idA z) rfl rfl (by rw [HZS.out]; exact K2.there 4 (by rw [idA_size]; decide)) (by rw [HZS.out]; exact a4_info) (id_ones _) ?_))
  exact bodyPost_ret (results_cell_row rfl _ _ g2 135 (idA z) (0, 0) _ rfl (K2.setAll (by rw [HZS.out, idA_size]; rfl)) Tryd.underlying135 rfl (by rw [HZS.out]; exact a4_info)) rfl ⟨rfl, Below.setCells (by rw [HG.out]; exact Nat.le_refl _) _ _ _ HV.out⟩
end Go.Proofs.YtkpffjcdalclmaaDoor
