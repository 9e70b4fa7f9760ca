/-
  The contract of package merkle's Leads.
-/
import Derived.Test.YtecmgojecjenmaaDoorMerD
namespace Go.Proofs.YtecmgojecjenmaaDoor
open Go.RowKit
set_option linter.unusedVariables false

/-- To which root a sum at a place leads by a way. -/
def leadsW (id : List Nat) (a : Int) : List (List Nat) → List Nat
  | [] => id
  | x :: r => leadsW (if a % 2 = 0 then H2 id x else H2 x id) (a / 2) r
theorem leadsW_id (id : List Nat) (a : Int) (way : List (List Nat)) (h : IsId id) : IsId (leadsW id a way) := by
  induction way generalizing id a with
  | nil => exact h
  | cons x r ih =>
    rw [leadsW]
    refine ih _ _ ?_
    split
    · exact H2_id _ _
    · exact H2_id _ _
theorem leads_drop (id : List Nat) (a : Int) (L : List (List Nat)) (k : Nat) (h : k < L.length) : leadsW id a (L.drop k) = leadsW (if a % 2 = 0 then H2 id (nthI L k) else H2 (nthI L k) id) (a / 2) (L.drop (k + 1)) := by
  have e : L.drop k = nthI L k :: L.drop (k + 1) := by
    rw [List.drop_eq_getElem_cons h]
    congr 1
    unfold nthI
    rw [List.getD, List.getElem?_eq_getElem h]
    rfl
  rw [e, leadsW]
theorem id_ret {P : Func} {a : Act} {w W : World} {g nm : Nat} {r : List Nat} (hr : r.length = 32) (hp : P.results = #[ResultVar.cell nm 27]) (hd : a.defers = []) (hv : a.tmps.getD nm undef = .pointer (some ⟨g, 0, none⟩))
    (hR : Bk W g 27 (idA r)) (hB : Below w.heap.size w W) : bodyPost Tryd.prog P (fun e w' => e = .returned (idv r) ∧ Below w.heap.size w w') Exit.ret a W :=
  bodyPost_ret (results_cell_row hp _ _ g 27 (idA r) (0, 0) _ hv hR Tryd.underlying27 rfl (by rw [idA_size, hr]; exact id_info')) hd ⟨rfl, hB⟩
set_option maxRecDepth 100000 in
set_option maxHeartbeats 4000000 in
theorem leads_any (id : List Nat) (a : Int) (v : Value) (L : List (List Nat)) (w : World) (hL : Laid w) (hid : IsId id) (ha : -9223372036854775808 ≤ a ∧ a ≤ 9223372036854775807) (hv : IdsV w w.heap.size v L) (hn : L.length ≤ 100000) :
    Calls Tryd.prog 15 #[idv id, .int .i64 a, v] w fun e w' => e = .returned (idv (leadsW id a L)) ∧ Below w.heap.size w w' := by
  have HV := Lib.hid hv
  have HL := Lib.hid hL
  have hids := hv.ids
  obtain ⟨s, c, rfl⟩ := hv.slice
  have hat := hv.at_
  obtain ⟨n, hnl⟩ : ∃ n, n = L.length := ⟨_, rfl⟩
  have HAT : Hid (0 < n → ∃ b o, s = some ⟨b, o, none⟩ ∧ b < w.heap.size ∧ ∀ k, k < n → w.rangeAt b (o + k * 32) (idA (nthI L k)).toList) := fun h => by
    obtain ⟨b, o, e, hb, _, hr⟩ := hat (fun h0 => by rw [h0] at hnl; simp at hnl; omega)
    exact ⟨b, o, e, hb, fun k hk => hr k _ (nthI_get (by omega))⟩
  have HNL := Lib.hid hnl
  have HID := Lib.hid (fun k (h : k < n) => nthI_id hids (i := k) (by omega))
  have HDR : Hid (∀ id a k, k < n → leadsW id a (L.drop k) = leadsW (if a % 2 = 0 then H2 id (nthI L k) else H2 (nthI L k) id) (a / 2) (L.drop (k + 1))) := fun id a k h => leads_drop id a L k (by omega)
  have HEN : Hid (∀ id a, leadsW id a (L.drop n) = id) := fun id a => by rw [List.drop_of_length_le (by omega)]; rfl
  have HST : Hid (leadsW id a L = leadsW id a (L.drop 0)) := rfl
  have hd3 := HV
  rw [← hnl] at hn ⊢
  have HIDN := Lib.hid hid
  obtain ⟨R0, hR0⟩ : ∃ R0, R0 = leadsW id a L := ⟨_, rfl⟩
  rw [← hR0] at HST ⊢
  clear hat hv hL hids hnl hd3 hid hR0
  go_enter Tryd.func15, Tryd.ntmps15
  go_upto_region 1 with fail
  refine wp_any (fun W => Below w.heap.size w W ∧ Bk W w.heap.size 27 (idA id) ∧ Bk W (w.heap.size + 1) 27 (idA (zeros 32))) ⟨((Below.refl _ _).alloc (Nat.le_refl _) _).alloc (by simp) _, (Bk.new _ _ _).alloc _, Bk.new' _ _ _ (by simp)⟩ ?_
  generalize hg : w.heap.size = g at *
  rintro W ⟨hW, X, R⟩
  have hW := Lib.hid hW
  go_wp2_with fail
  go_loopw [11, 1] (fun i av wr => ∃ (k : Nat) (q : List Nat) (p : Int), k ≤ n ∧ i = .int .i64 k ∧ av = .int .i64 p ∧ Hid (-9223372036854775808 ≤ p ∧ p ≤ 9223372036854775807) ∧ Hid (IsId q) ∧ Hid (R0 = leadsW q p (L.drop k)) ∧ Hid (Below g w wr) ∧ Bk wr g 27 (idA q) ∧ Bk wr (g + 1) 27 (idA (zeros 32))) (fun i _ _ => n - (intOf i).toNat)
  case atStart => exact ⟨0, id, a, Nat.zero_le _, rfl, rfl, ha, HIDN.out, HST.out, hW.out, X, R⟩
  case round =>
    obtain ⟨k, q, p, hk, rfl, rfl, hp, HQ, HRQ, hWr, X, R⟩ := hrel
    have zx := X.lt
    have zr := R.lt
    by_cases hlt : k < n
    · have hd : decide ((k : Int) < (n : Int)) = true := decide_eq_true (by omega)
      have hd' : decide (k < n) = true := decide_eq_true (by omega)
      obtain ⟨b, o, rfl, hbl, hrange⟩ := HAT.out (by omega)
      have hrx := idr_below (hrange k hlt) hWr.out hbl
      have hkn : (k : Int) < (n : Int) := by omega
      have HXI := Lib.hid (HID.out k hlt)
      have hnx := HDR.out q p k hlt
      rw [← HRQ.out] at hnx
      generalize nthI L k = x at *
      have hLr := HL.out.below hWr.out (by rw [← hg]; exact HL.out.size)
      have hxl := HXI.out.1
      have hql := HQ.out.1
      have hp2 : -9223372036854775808 ≤ p / 2 ∧ p / 2 ≤ 9223372036854775807 := by have := hp.out; omega
      have hO := Bk.new wr 27 (idA (zeros 32))
      go_upto_region 4 with (first | (refine wpList_load_mid rfl 27 (.tmp 13) rfl b (o + k * 32) rfl (idA x).toList _ hrx Tryd.underlying27 rfl (by rw [Array.length_toList, idA_size, hxl]; exact id_info') ?_) | (refine wpList_store_mid rfl 27 (.tmp 8) (.tmp 14) rfl wr.heap.size 0 (idA x) rfl rfl (by rw [idA_size, hxl]; exact hO.there 32 (by rw [idA_size]; decide)) (by rw [idA_size, hxl]; exact id_info') (id_ones x) ?_))
      refine wp_any (fun W => Below g w W ∧ Bk W g 27 (idA q) ∧ Bk W (g + 1) 27 (idA (zeros 32)) ∧ Bk W wr.heap.size 27 (idA x)) ⟨Below.setCells (Nat.le_of_lt zx) _ _ _ (hWr.out.alloc (Nat.le_of_lt zx) _), (X.alloc _).farCells (by omega) _ _, (R.alloc _).farCells (by omega) _ _, hO.setAll (by rw [idA_size, idA_size, hxl]; rfl)⟩ ?_
      have hne1 : g ≠ wr.heap.size := by omega
      have hne2 : g + 1 ≠ wr.heap.size := by omega
      generalize wr.heap.size = gO at *
      clear X R hWr hrx hrange hO zx zr
      rintro W2 ⟨hW2, X, R, O⟩
      have hW2 := Lib.hid hW2
      clear hLr
      have hLW := HL.out.below hW2.out (by rw [← hg]; exact HL.out.size)
      by_cases hpe : p % 2 = 0
      · rw [if_pos hpe] at hnx
        have hpt : p.tmod 2 = 0 := Int.tmod_eq_zero_of_dvd (by omega)
        have hdp : decide (p % 2 = 0) = true := decide_eq_true hpe
        have hdq : decide (p.tmod 2 = 0) = true := decide_eq_true hpt
        have HP := Lib.hid (fun W (h : Laid W) => pair_any q x W h HQ.out HXI.out)
        have HH := Lib.hid (H2_id q x)
        have HNX := Lib.hid hnx
        clear hnx
        generalize H2 q x = y at *
        go_wp2_with (first | (refine wpList_load_mid rfl 27 (.tmp 3) rfl g 0 rfl (idA q).toList _ X.range0 Tryd.underlying27 rfl (by rw [Array.length_toList, idA_size, hql]; exact id_info') ?_) | (refine wpList_load_mid rfl 27 (.tmp 8) rfl gO 0 rfl (idA x).toList _ O.range0 Tryd.underlying27 rfl (by rw [Array.length_toList, idA_size, hxl]; exact id_info') ?_))
        refine (HP.out _ hLW).mono ?_
        rintro e w5 ⟨rfl, hb5⟩
        have X5 := X.keep hb5
        have R5 := R.keep hb5
        have hW5 := Lib.hid (hW2.out.trans (hb5.mono (Nat.le_of_lt X.lt)))
        have hyl := HH.out.1
        clear hb5 X R O hLW
        have hsh : p >>> 1 = p / 2 := by rw [Int.shiftRight_eq_div_pow]; rfl
        go_wp2_with (refine wpList_store_mid rfl 27 (.tmp 3) (.tmp 20) rfl g 0 (idA y) rfl rfl (by rw [idA_size, hyl]; exact X5.there 32 (by rw [idA_size, hql]; exact Nat.le_refl _)) (by rw [idA_size, hyl]; exact id_info') (id_ones y) ?_)
        have X6 := X5.setAll (xs := idA y) (by rw [idA_size, idA_size, hyl, hql])
        have R6 := R5.farCells (b := g) (by omega) (idA y).toList 0
        have hW6 := Lib.hid (Below.setCells (Nat.le_refl _) (idA y).toList 0 _ hW5.out)
        clear X5 R5 hW5
        go_roundw
        case rel =>
          have hi : Value.int .i64 ((k : Int) + 1) = .int .i64 ((k + 1 : Nat) : Int) := by go_num
          first | exact ⟨k + 1, y, p / 2, by omega, hi, rfl, hp2, HH, HNX, hW6, X6, R6⟩ | ((repeat apply Exists.intro); exact ⟨⟨k + 1, y, p / 2, by omega, hi, rfl, hp2, HH, HNX, hW6, X6, R6⟩, rfl⟩)
        case measure => simp [intOf] <;> omega
      · rw [if_neg hpe] at hnx
        have hpt : p.tmod 2 ≠ 0 := fun h => by have := Int.dvd_of_tmod_eq_zero h; omega
        have hdp : decide (p % 2 = 0) = false := decide_eq_false hpe
        have hdq : decide (p.tmod 2 = 0) = false := decide_eq_false hpt
        have HP := Lib.hid (fun W (h : Laid W) => pair_any x q W h HXI.out HQ.out)
        have HH := Lib.hid (H2_id x q)
        have HNX := Lib.hid hnx
        clear hnx
        generalize H2 x q = y at *
        go_wp2_with (first | (refine wpList_load_mid rfl 27 (.tmp 3) rfl g 0 rfl (idA q).toList _ X.range0 Tryd.underlying27 rfl (by rw [Array.length_toList, idA_size, hql]; exact id_info') ?_) | (refine wpList_load_mid rfl 27 (.tmp 8) rfl gO 0 rfl (idA x).toList _ O.range0 Tryd.underlying27 rfl (by rw [Array.length_toList, idA_size, hxl]; exact id_info') ?_))
        refine (HP.out _ hLW).mono ?_
        rintro e w5 ⟨rfl, hb5⟩
        have X5 := X.keep hb5
        have R5 := R.keep hb5
        have hW5 := Lib.hid (hW2.out.trans (hb5.mono (Nat.le_of_lt X.lt)))
        have hyl := HH.out.1
        clear hb5 X R O hLW
        have hsh : p >>> 1 = p / 2 := by rw [Int.shiftRight_eq_div_pow]; rfl
        go_wp2_with (refine wpList_store_mid rfl 27 (.tmp 3) (.tmp 23) rfl g 0 (idA y) rfl rfl (by rw [idA_size, hyl]; exact X5.there 32 (by rw [idA_size, hql]; exact Nat.le_refl _)) (by rw [idA_size, hyl]; exact id_info') (id_ones y) ?_)
        have X6 := X5.setAll (xs := idA y) (by rw [idA_size, idA_size, hyl, hql])
        have R6 := R5.farCells (b := g) (by omega) (idA y).toList 0
        have hW6 := Lib.hid (Below.setCells (Nat.le_refl _) (idA y).toList 0 _ hW5.out)
        clear X5 R5 hW5
        go_roundw
        case rel =>
          have hi : Value.int .i64 ((k : Int) + 1) = .int .i64 ((k + 1 : Nat) : Int) := by go_num
          first | exact ⟨k + 1, y, p / 2, by omega, hi, rfl, hp2, HH, HNX, hW6, X6, R6⟩ | ((repeat apply Exists.intro); exact ⟨⟨k + 1, y, p / 2, by omega, hi, rfl, hp2, HH, HNX, hW6, X6, R6⟩, rfl⟩)
        case measure => simp [intOf] <;> omega
    · have hd : decide ((k : Int) < (n : Int)) = false := decide_eq_false (by omega)
      have hd' : decide (k < n) = false := decide_eq_false hlt
      have hkn : k = n := by omega
      have hql := HQ.out.1
      have hq : R0 = q := by rw [HRQ.out, hkn, HEN.out]
      have HQE := Lib.hid hq
      clear hkn hlt hq
      go_wp2_with (first | (refine wpList_load_mid rfl 27 (.tmp 3) rfl g 0 rfl (idA q).toList _ X.range0 Tryd.underlying27 rfl (by rw [Array.length_toList, idA_size, hql]; exact id_info') ?_) | (refine wpList_store_mid rfl 27 (.tmp 6) (.tmp 27) rfl (g + 1) 0 (idA q) rfl rfl (by rw [idA_size, hql]; exact R.there 32 (by rw [idA_size]; decide)) (by rw [idA_size, hql]; exact id_info') (id_ones q) ?_))
      rw [HQE.out]
      rw [← hg] at R hWr ⊢
      exact id_ret (g := w.heap.size + 1) hql rfl rfl rfl (R.setAll (by rw [idA_size, idA_size, hql]; rfl)) (Below.setCells (by omega) _ _ _ hWr.out)
end Go.Proofs.YtecmgojecjenmaaDoor
