/-
  The contract of the document's answer for layer 1: Twice of any text.
-/
import Derived.Test.YtmjiadfdmchhaaaDoorRefS
namespace Go.Proofs.YtmjiadfdmchhaaaDoor
open Go.RowKit
set_option linter.unusedVariables false

set_option maxRecDepth 100000 in
set_option maxHeartbeats 1000000 in
theorem rtwice_any (l : List Nat) (w : World) (hl : ∀ x ∈ l, x < 256) (hlen : l.length ≤ 100000) :
    Calls Tryd.prog 45 #[.string (strN l)] w fun e w' => e = .returned (.agg (idA (sha (sha l)))) ∧ Below w.heap.size w w' := by
  have HSUM := fun W => rsum_any l W hl hlen
  have hol : (sha l).length = 32 := rfl
  have hox := sha_lt l
  generalize hO : sha l = O at *
  have HS1 := fun W => rsum_any O W hox (by omega)
  have hsl : (sha O).length = 32 := rfl
  generalize hQ : sha O = Q at *
  have HSUM := Lib.hid HSUM
  have HS1 := Lib.hid HS1
  have HOL := Lib.hid hol
  have HOX := Lib.hid hox
  have HSL := Lib.hid hsl
  have HQ := Lib.hid hQ
  have HO := Lib.hid hO
  clear hol hox hsl hO hQ hl
  go_enter Tryd.func45, Tryd.ntmps45
  go_wp2_with fail
  have hA : Below w.heap.size w (w.alloc (.cells (idA (zeros 32)) 22)) := (Below.refl _ _).alloc (Nat.le_refl _) _
  refine (HSUM.out _).mono ?_
  rintro e w1 ⟨rfl, hb1⟩
  have R1 : Bk w1 w.heap.size 22 (idA (zeros 32)) := Bk.keep (Bk.new _ _ _) hb1
  have hW1 : Below w.heap.size w w1 := below_step hA (by simp) hb1
  clear hb1 hA
  have hz1 := R1.lt
  go_upto_region 2 with (refine wpList_store_mid rfl 22 (.tmp 3) (.tmp 5) rfl w1.heap.size 0 (idA O) rfl rfl (by rw [idA_size, HOL.out]; exact (Bk.new w1 22 (idA (zeros 32))).there 32 (by rw [idA_size]; decide)) (by rw [idA_size, HOL.out]; exact arr_info) (all_oneCell_toArray (by intro v hv; simp only [List.mem_map] at hv; obtain ⟨x, _, rfl⟩ := hv; rfl)) ?_)
  refine wp_any (fun W => Below w.heap.size w W ∧ Bk W w.heap.size 22 (idA (zeros 32)) ∧ Bk W w1.heap.size 22 (idA O)) ⟨Below.setCells hW1.size _ _ _ (hW1.alloc hW1.size _), ?_, (Bk.new w1 22 (idA (zeros 32))).setAll (by rw [idA_size, idA_size, HOL.out]; rfl)⟩ ?_
  · exact Bk.below (R1.alloc _) (Below.setCells (Nat.le_refl _) _ _ _ (Below.refl w1.heap.size _)) hz1
  clear R1
  generalize w1.heap.size = X at *
  rintro W ⟨hW, R1, K1⟩
  have hcv : (convert 32 9 (.slice (some ⟨X, 0, none⟩) 32 32)).run Tryd.prog W = .ok (.string (strN O)) W := by
    have h := bs_row K1 (n := 32) (cap := 32) (by rw [HOL.out]; exact Nat.le_refl _) (Nat.le_refl _) (by omega) HOX.out
    have e : O.take 32 = O := List.take_of_length_le (by rw [HOL.out]; exact Nat.le_refl _)
    rw [e] at h
    exact conv_bs h
  go_wp2_with fail
  refine (HS1.out _).mono ?_
  rintro e w5 ⟨rfl, hb5⟩
  have R5 : Bk w5 w.heap.size 22 (idA (zeros 32)) := R1.keep hb5
  have hW5 := below_step hW hW.size hb5
  clear hb5 R1 K1 hW hcv
  go_wp2_with (refine wpList_store_mid rfl 22 (.tmp 2) (.tmp 8) rfl w.heap.size 0 (idA Q) rfl rfl (by rw [idA_size, HSL.out]; exact R5.there 32 (by rw [idA_size]; decide)) (by rw [idA_size, HSL.out]; exact arr_info) (all_oneCell_toArray (by intro v hv; simp only [List.mem_map] at hv; obtain ⟨x, _, rfl⟩ := hv; rfl)) ?_)
  refine bodyPost_ret (results_cell_row rfl _ _ w.heap.size 22 (idA Q) (0, 0) _ rfl (R5.setAll (by rw [idA_size, idA_size, HSL.out]; rfl)) Tryd.underlying22 rfl (by rw [idA_size, HSL.out]; exact arr_info)) rfl ⟨?_, Below.setCells (Nat.le_refl _) _ _ _ hW5⟩
  rfl
end Go.Proofs.YtmjiadfdmchhaaaDoor
