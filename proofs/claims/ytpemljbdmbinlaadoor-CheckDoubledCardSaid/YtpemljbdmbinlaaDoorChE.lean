/-
  Package check: a block whose last transaction stands twice.
-/
import Derived.Test.YtpemljbdmbinlaaDoorChD
import Derived.Test.YtpemljbdmbinlaaDoorTwinD
namespace Go.Proofs.YtpemljbdmbinlaaDoor
open Go.RowKit
set_option linter.unusedVariables false
set_option linter.unusedSimpArgs false

theorem twin_last (L : List (List Nat)) (x : List Nat) (h1 : 1 < L.length) (ho : L.length % 2 = 1) (hx : L[L.length - 1]? = some x) : rootV (L ++ [x]) = ((rootV L).1, true) := by
  have e : L ++ [x] = twinL L 1 := by
    unfold twinL
    congr 1
    obtain ⟨h, rfl⟩ := List.getElem?_eq_some_iff.1 hx
    rw [List.drop_eq_getElem_cons h, List.drop_eq_nil_of_le (by omega)]
  have hl := twinL_length L 1 (by omega)
  obtain ⟨e1, e2⟩ := twin_one L h1 ho
  rw [e]
  unfold rootV
  rw [if_neg (by rw [hl]; omega), if_neg (by omega), rootW_more _ false (by rw [hl]; omega), rootW_more L false h1, e1, e2, Bool.or_true]
  exact Prod.ext (rootW_fst _ _ _) (rootW_true _)
theorem tids_last {M : List TxM} {x : TxM} (hx : M[M.length - 1]? = some x) : (M.map tID)[(M.map tID).length - 1]? = some (tID x) := by
  rw [List.length_map, List.getElem?_map, hx]
  rfl
theorem twin_ids (M : List TxM) (x : TxM) (h1 : 1 < M.length) (ho : M.length % 2 = 1) (hx : M[M.length - 1]? = some x) : rootV ((M ++ [x]).map tID) = ((rootV (M.map tID)).1, true) := by
  rw [List.map_append, List.map_cons, List.map_nil]
  exact twin_last _ _ (by rw [List.length_map]; exact h1) (by rw [List.length_map]; exact ho) (tids_last hx)
theorem rootE_twin (r : List Nat) (L : List TxM) (h : (rootV (L.map tID)).2 = true) : rootE r L = 40 := by
  unfold rootE
  by_cases h1 : ∃ t ∈ L, (txB t).length = 64
  · rw [if_pos h1]
  · rw [if_neg h1, if_pos h]
theorem blkE_40 (hd : Hd) (s : Option Addr) (c : Nat) (L : List TxM) (h : rootE hd.r L = 40) : blkE ⟨hd, s, c, L⟩ ≠ 0 := by
  unfold blkE
  split
  · decide
  · split
    · rename_i h2
      exact h2
    · split
      · decide
      · show rootE hd.r L ≠ 0
        rw [h]
        decide
theorem ne_tx_blk' : (49 : Nat) ≠ txR.e := by decide
theorem blk_put_ls' (hd : Hd) (hh : IsHd hd) (s : Option Addr) (c : Nat) (L : List TxM) (s2 : Option Addr) (c2 : Nat) (L2 : List TxM) : (blkL ⟨hd, s, c, L⟩).toArray.setIfInBounds 68 (.slice s2 L2.length c2) = (blkL ⟨hd, s2, c2, L2⟩).toArray := by
  rw [List.setIfInBounds_toArray]
  congr 1
  show (hdL hd ++ [_]).set 68 _ = hdL hd ++ [_]
  rw [List.set_append_right _ _ (by rw [hdL_length hh]; exact Nat.le_refl _), hdL_length hh]
  rfl
end Go.Proofs.YtpemljbdmbinlaaDoor
