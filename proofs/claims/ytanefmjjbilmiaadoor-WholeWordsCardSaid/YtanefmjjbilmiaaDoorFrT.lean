/-
  The contract of the document's sum of four bytes.
-/
import Derived.Test.YtanefmjjbilmiaaDoorFrS
import Derived.Test.YtanefmjjbilmiaaDoorRefU
namespace Go.Proofs.YtanefmjjbilmiaaDoor
open Go.RowKit
set_option linter.unusedVariables false
set_option linter.unusedSimpArgs false
set_option maxRecDepth 100000

set_option maxHeartbeats 4000000 in
theorem r8sum_any (xs : List Nat) (w : World) (hx : ∀ x ∈ xs, x < 256) (hl : xs.length ≤ 100000) :
    Calls Tryd.prog 60 #[.string (strN xs)] w fun e w' => e = .returned (.string (strN (sum4 xs))) ∧ Below w.heap.size w w' := by
  have HT : Hid (∀ W, Calls Tryd.prog 95 #[.string (strN xs)] W fun e w' => e = .returned (.agg (idA (sha (sha xs)))) ∧ Below W.heap.size W w') := fun W => rtwice_any xs W hx hl
  have hql : (sha (sha xs)).length = 32 := rfl
  have hqx := sha_lt (sha xs)
  have HS4 : Hid (sum4 xs = (sha (sha xs)).take 4) := rfl
  obtain ⟨q, hq⟩ : ∃ q, q = sha (sha xs) := ⟨_, rfl⟩
  rw [← hq] at HT hql HS4 hqx
  obtain ⟨z, hz⟩ : ∃ z, z = sum4 xs := ⟨_, rfl⟩
  rw [← hz] at HS4 ⊢
  obtain ⟨u, hu⟩ : ∃ u, u = strN xs := ⟨_, rfl⟩
  rw [← hu] at HT ⊢
  have HQL := Lib.hid hql
  have HQX := Lib.hid hqx
  clear hx hl hq hz hu hql hqx
  go_enter Tryd.func60, Tryd.ntmps60
  go_wp2_with fail
  refine (HT.out w).mono ?_
  rintro e W2 ⟨rfl, hb2⟩
  have HW2 := Lib.hid hb2
  have hA2 : Below W2.heap.size W2 ((W2.alloc (.cells (idA (zeros 32)) 71)).setCells W2.heap.size 0 (idA q).toList) := Below.setCells (Nat.le_refl _) _ _ _ ((Below.refl _ _).alloc (Nat.le_refl _) _)
  have hK3 : Bk ((W2.alloc (.cells (idA (zeros 32)) 71)).setCells W2.heap.size 0 (idA q).toList) W2.heap.size 71 (idA q) := (Bk.new W2 71 (idA (zeros 32))).setAll (by rw [idA_size, idA_size, HQL.out]; rfl)
  clear hb2 HT
  go_upto_region 2 with (refine wpList_store_mid rfl 71 (.tmp 3) (.tmp 5) rfl W2.heap.size 0 (idA q) rfl rfl (by rw [idA_size, HQL.out]; exact (Bk.new W2 71 (idA (zeros 32))).there 32 (by rw [idA_size]; decide)) (by rw [idA_size, HQL.out]; exact arr_info) (id_ones _) ?_)
  refine wp_any (fun W => Below w.heap.size w W ∧ Bk W W2.heap.size 71 (idA q)) ⟨below_step HW2.out HW2.out.size hA2, hK3⟩ ?_
  clear hA2 hK3 HW2
  generalize W2.heap.size = g3 at *
  rintro V ⟨hV, K3⟩
  have HV := Lib.hid hV
  have z3 := K3.lt
  have hcv : (convert 22 9 (.slice (some ⟨g3, 0, none⟩) 4 32)).run Tryd.prog V = .ok (.string (strN z)) V := by
    have h := bs_row K3 (n := 4) (cap := 32) (by rw [HQL.out]; omega) (by omega) (by omega) HQX.out
    rw [← HS4.out] at h
    have hl4 : z.length = 4 := by rw [HS4.out, List.length_take, HQL.out]; rfl
    have h2 := conv_bs h
    exact h2
  clear hV K3
  go_wp2_with fail
  go_ret
  exact ⟨rfl, HV.out⟩
end Go.Proofs.YtanefmjjbilmiaaDoor
