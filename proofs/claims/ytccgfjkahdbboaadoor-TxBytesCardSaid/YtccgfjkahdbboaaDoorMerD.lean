/-
  The contract of package merkle's Root.
-/
import Derived.Test.YtccgfjkahdbboaaDoorMerC
namespace Go.Proofs.YtccgfjkahdbboaaDoor
open Go.RowKit
set_option linter.unusedVariables false

/-- The sum of many, and whether two that are a pair are the same. -/
def rootW (L : List (List Nat)) (s : Bool) : List Nat × Bool :=
  if h : 1 < L.length then rootW (aboveV L) (s || doubV L) else (nthI L 0, s)
termination_by L.length
decreasing_by rw [aboveV_length]; omega
def rootV (L : List (List Nat)) : List Nat × Bool := if L.length = 0 then (zeros 32, false) else rootW L false
theorem rootW_one (L : List (List Nat)) (s : Bool) (h : ¬ 1 < L.length) : rootW L s = (nthI L 0, s) := by rw [rootW, dif_neg h]
theorem rootW_more (L : List (List Nat)) (s : Bool) (h : 1 < L.length) : rootW L s = rootW (aboveV L) (s || doubV L) := by rw [rootW, dif_pos h]
theorem aboveV_ids (L : List (List Nat)) : IsIds (aboveV L) := aboveP_ids _ _
theorem rootW_id (L : List (List Nat)) (s : Bool) (hL : IsIds L) (h : 0 < L.length) : IsId (rootW L s).1 := by
  rw [rootW]
  split
  · exact rootW_id _ _ (aboveV_ids L) (by rw [aboveV_length]; omega)
  · exact nthI_id hL h
termination_by L.length
decreasing_by rw [aboveV_length]; omega
theorem zeros_id : IsId (zeros 32) := ⟨rfl, fun b hb => by rw [List.eq_of_mem_replicate hb]; omega⟩
theorem rootV_id (L : List (List Nat)) (hL : IsIds L) : IsId (rootV L).1 := by
  unfold rootV
  split
  · exact zeros_id
  · exact rootW_id L false hL (by omega)
/-- How long a slice is. -/
def lenS : Value → Nat
  | .slice _ n _ => n
  | _ => 0
/-- A function that hands back a name out of its own block, and a word. -/
theorem id_ret2 {P : Func} {a : Act} {w W : World} {g nm k : Nat} {r : List Nat} {v : Value} (hr : r.length = 32) (hp : P.results = #[ResultVar.cell nm 29, ResultVar.tmp k]) (hd : a.defers = []) (hv : a.tmps.getD nm undef = .pointer (some ⟨g, 0, none⟩)) (hk : a.tmps.getD k undef = v)
    (hR : Bk W g 29 (idA r)) (hB : Below w.heap.size w W) : bodyPost Tryd.prog P (fun e w' => e = .returned (.tuple #[idv r, v]) ∧ Below w.heap.size w w') Exit.ret a W := by
  have h1 := run_loadVar_row (P := Tryd.prog) W g 29 29 (idA r) (0, 0) _ hR Tryd.underlying29 rfl (by rw [idA_size, hr]; exact id_info')
  refine bodyPost_ret (v := .tuple #[idv r, v]) ?_ hd ⟨rfl, hB⟩
  rw [results_cell_tmp hp, hv, hk]
  show ((asAddr (.pointer (some ⟨g, 0, none⟩))).run Tryd.prog W).andThen _ = _
  simp only [asAddr, Sem.run_pure, Result.andThen_ok, h1]
set_option maxRecDepth 100000 in
set_option maxHeartbeats 2000000 in
theorem root_any (v : Value) (L : List (List Nat)) (w : World) (hL : Laid w) (hv : IdsV w w.heap.size v L) (hn : L.length ≤ 100000) :
    Calls Tryd.prog 37 #[v] w fun e w' => e = .returned (.tuple #[idv (rootV L).1, .bool (rootV L).2]) ∧ Below w.heap.size w w' := by
  have HV := Lib.hid hv
  have HL := Lib.hid hL
  have HID := Lib.hid hv.ids
  obtain ⟨s, c, rfl⟩ := hv.slice
  clear hv hL
  by_cases h0 : L.length = 0
  · have e : rootV L = (zeros 32, false) := by unfold rootV; rw [if_pos h0]
    rw [e, h0]
    clear HV e
    go_enter Tryd.func37, Tryd.ntmps37
    have R := Bk.new w 29 (idA (zeros 32))
    go_wp2_with (refine wpList_store_mid rfl 29 (.tmp 2) (.tmp 8) rfl w.heap.size 0 (idA (zeros 32)) rfl rfl (R.there 32 (by rw [idA_size]; decide)) id_info' (id_ones _) ?_)
    exact id_ret2 (g := w.heap.size) rfl rfl rfl rfl rfl (R.setAll rfl) (Below.setCells (Nat.le_refl _) _ _ _ ((Below.refl _ _).alloc (Nat.le_refl _) _))
  · have e : rootV L = rootW L false := by unfold rootV; rw [if_neg h0]
    rw [e]
    have HRL := Lib.hid (rootW_id L false HID.out (by omega)).1
    have hd0 : decide ((L.length : Int) = 0) = false := decide_eq_false (by omega)
    have hd0' : decide (L.length = 0) = false := decide_eq_false h0
    obtain ⟨n, hnl⟩ : ∃ n, n = L.length := ⟨_, rfl⟩
    rw [← hnl] at hn h0 hd0 hd0' ⊢
    have HW : Hid (rootW L false = rootW L false) := rfl
    have HS : Hid (∀ M s, rootW L false = rootW M s → ¬ 1 < M.length → rootW L false = (nthI M 0, s)) := fun M s h1 h2 => by rw [h1, rootW_one M s h2]
    have HN : Hid (∀ M s, rootW L false = rootW M s → 1 < M.length → rootW L false = rootW (aboveV M) (s || doubV M)) := fun M s h1 h2 => by rw [h1, rootW_more M s h2]
    obtain ⟨R0, hR0⟩ : ∃ R0, R0 = rootW L false := ⟨_, rfl⟩
    rw [← hR0] at HS HN HRL ⊢
    have HR0 := Lib.hid hR0
    have HNL := Lib.hid hnl
    have hbe : ((n : Int) == 0) = false := by simp; omega
    clear e hR0 HW hnl
    go_enter Tryd.func37, Tryd.ntmps37
    go_upto_region 3 with fail
    refine wp_any (fun W => Below w.heap.size w W ∧ Bk W w.heap.size 29 (idA (zeros 32))) ⟨(Below.refl _ _).alloc (Nat.le_refl _) _, Bk.new _ _ _⟩ ?_
    generalize hg : w.heap.size = g at *
    rintro W ⟨hW, R⟩
    have HV : Hid (IdsV W W.heap.size (.slice s n c) L) := by rw [HNL.out]; exact (HV.out.keep hW (Nat.le_refl _)).mono (by rw [← hg]; exact hW.size)
    go_wp2_with fail
    go_loopw [0, 4] (fun ids sm wr => ∃ (M : List (List Nat)) (t : Bool), sm = .bool t ∧ Hid (M.length ≤ 100000) ∧ Hid (0 < M.length) ∧ Hid (R0 = rootW M t) ∧ Hid (IdsV wr wr.heap.size ids M) ∧ Hid (Below g w wr) ∧ Bk wr g 29 (idA (zeros 32))) (fun ids _ _ => lenS ids)
    case atStart => exact ⟨L, false, rfl, by rw [← HNL.out]; exact hn, by rw [← HNL.out]; show _ < _; omega, HR0.out, HV.out, hW, R⟩
    case round =>
      obtain ⟨M, t, rfl, HML, HM0, HMR, HMV, hWr, R⟩ := hrel
      clear hW HV
      obtain ⟨s5, c5, e5⟩ := HMV.out.slice
      subst e5
      have HLr := Lib.hid (HL.out.below hWr.out (by rw [← hg]; exact HL.out.size))
      by_cases h1 : 1 < M.length
      · have hd : decide ((1 : Int) < (M.length : Int)) = true := decide_eq_true (by omega)
        have hnx := Lib.hid (HN.out M t HMR.out h1)
        have HAL : Hid ((aboveV M).length ≤ 100000 ∧ 0 < (aboveV M).length ∧ (aboveV M).length < M.length) := by
          have := HML.out
          show _ ∧ _ ∧ _
          rw [aboveV_length]
          omega
        have HDB := Lib.hid (doubled_any _ M wr HMV.out HML.out)
        have HAB : Hid (∀ W, Below wr.heap.size wr W → Calls Tryd.prog 57 #[.slice s5 M.length c5] W fun e w' => ∃ v', e = .returned v' ∧ MineI w' W.heap.size v' (aboveV M) ∧ Below W.heap.size W w') := fun W hW => above_any _ M W (HLr.out.keep hW) ((HMV.out.keep hW (Nat.le_refl _)).mono hW.size) HML.out
        have hAI := aboveV_ids M
        generalize doubV M = D at *
        generalize aboveV M = A at *
        have HAI := Lib.hid hAI
        generalize hml : M.length = ml at *
        clear hAI h1
        cases t
        · go_wp2_with fail
          refine HDB.out.mono ?_
          rintro e w5 ⟨rfl, hb5⟩
          have HAB := Lib.hid (HAB.out w5 hb5)
          have R := R.keep hb5
          have hW5 := Lib.hid (hWr.out.trans (hb5.mono (by have := R.lt; have := hWr.out.size; omega)))
          clear hb5 HDB
          go_wp2_with fail
          refine HAB.out.mono ?_
          rintro e w6 ⟨v6, rfl, M6, hb6⟩
          have R := R.keep hb6
          have hW6 := Lib.hid (hW5.out.trans (hb6.mono (by have := R.lt; have := hW5.out.size; omega)))
          have M6 := Lib.hid (M6.ids HAI.out)
          clear hb6 HAB
          obtain ⟨s7, c7, e7⟩ := M6.out.slice
          subst e7
          go_wp2_with fail
          go_roundw
          case rel =>
            have hnx : Hid (R0 = rootW A D) := by have h := hnx.out; rw [Bool.false_or] at h; exact h
            first | exact ⟨A, D, rfl, HAL.out.1, HAL.out.2.1, hnx, M6, hW6, R⟩ | ((repeat apply Exists.intro); exact ⟨⟨A, D, rfl, HAL.out.1, HAL.out.2.1, hnx, M6, hW6, R⟩, rfl⟩)
          case measure => have h := HAL.out.2.2; simp [lenS]; omega
        · go_wp2_with fail
          refine (HAB.out _ (Below.refl _ _)).mono ?_
          rintro e w6 ⟨v6, rfl, M6, hb6⟩
          have R := R.keep hb6
          have hW6 := Lib.hid (hWr.out.trans (hb6.mono (by have := R.lt; have := hWr.out.size; omega)))
          have M6 := Lib.hid (M6.ids HAI.out)
          clear hb6 HAB
          obtain ⟨s7, c7, e7⟩ := M6.out.slice
          subst e7
          go_wp2_with fail
          go_roundw
          case rel =>
            have hnx : Hid (R0 = rootW A true) := by have h := hnx.out; rw [Bool.true_or] at h; exact h
            first | exact ⟨A, true, rfl, HAL.out.1, HAL.out.2.1, hnx, M6, hW6, R⟩ | ((repeat apply Exists.intro); exact ⟨⟨A, true, rfl, HAL.out.1, HAL.out.2.1, hnx, M6, hW6, R⟩, rfl⟩)
          case measure => have h := HAL.out.2.2; simp [lenS]; omega
      · have hd : decide ((1 : Int) < (M.length : Int)) = false := decide_eq_false (by omega)
        have hd' : decide (1 < M.length) = false := decide_eq_false h1
        have hend := HS.out M t HMR.out h1
        have hat := HMV.out.at_ (fun h => by have := HM0.out; rw [h] at this; simp at this)
        obtain ⟨b, o, rfl, hbl, _, hr⟩ := hat
        have hr0 := hr 0 _ (nthI_get HM0.out)
        rw [Nat.zero_mul, Nat.add_zero] at hr0
        have e1 : R0.1 = nthI M 0 := by rw [hend]
        have e2 : R0.2 = t := by rw [hend]
        have hq : (nthI M 0).length = 32 := by rw [← e1]; exact HRL.out
        obtain ⟨q, hqe⟩ : ∃ q, q = nthI M 0 := ⟨_, rfl⟩
        rw [← hqe] at e1 hq hr0
        have E1 := Lib.hid e1
        have E2 := Lib.hid e2
        clear hend e1 e2 hqe
        have HML1 : Hid (M.length = 1) := by have := HM0.out; show _ = _; omega
        rw [HML1.out]
        clear hr
        go_wp2_with (first | (refine wpList_load_mid rfl 29 (.tmp 20) rfl b o rfl (idA q).toList _ hr0 Tryd.underlying29 rfl (by rw [Array.length_toList, idA_size, hq]; exact id_info') ?_) | (refine wpList_store_mid rfl 29 (.tmp 2) (.tmp 21) rfl g 0 (idA q) rfl rfl (by rw [idA_size, hq]; exact R.there 32 (by rw [idA_size]; decide)) (by rw [idA_size, hq]; exact id_info') (id_ones q) ?_))
        rw [← hg] at R hWr ⊢
        rw [E1.out, E2.out]
        exact id_ret2 (g := w.heap.size) hq rfl rfl rfl rfl (R.setAll (by rw [idA_size, idA_size, hq]; rfl)) (Below.setCells (Nat.le_refl _) _ _ _ hWr.out)
end Go.Proofs.YtccgfjkahdbboaaDoor
