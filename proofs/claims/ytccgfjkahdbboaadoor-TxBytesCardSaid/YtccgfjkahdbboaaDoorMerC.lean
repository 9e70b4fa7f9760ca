/-
  The contract of package merkle's doubled.
-/
import Derived.Test.YtccgfjkahdbboaaDoorMerB
set_option maxRecDepth 100000
namespace Go.Proofs.YtccgfjkahdbboaaDoor
open Go.RowKit
set_option linter.unusedVariables false

theorem id_eql (x y : List Nat) (hx : x.length = 32) (hy : y.length = 32) (w : World) : (Op.equalIn 10000 29 (idv x) (idv y)).run Tryd.prog w = .ok (decide (x = y)) w := by
  have h := run_equalIn_arr (P := Tryd.prog) w 9998 29 5 32 .u8 (idA x) (idA y) (fun i => ((x.getD i 0 : Nat) : Int)) (fun i => ((y.getD i 0 : Nat) : Int)) (by kernel_rfl) (by kernel_rfl) (by kernel_rfl)
    (fun i hi => ⟨idA_get x i (by omega), idA_get y i (by omega)⟩)
  rw [h]
  congr 1
  by_cases e : x = y
  · subst e
    simp
  · rw [decide_eq_false e, Bool.eq_false_iff]
    intro hq
    apply e
    apply List.ext_getElem (by omega)
    intro i h1 h2
    rw [List.all_eq_true] at hq
    have h3 := hq i (by simp; omega)
    have h4 : ((x.getD i 0 : Nat) : Int) = ((y.getD i 0 : Nat) : Int) := by simpa using h3
    have h5 : x.getD i 0 = y.getD i 0 := by omega
    rw [List.getD, List.getD, List.getElem?_eq_getElem h1, List.getElem?_eq_getElem h2] at h5
    exact h5
/-- Are two of a pair the same? -/
def doubV (L : List (List Nat)) : Bool := (List.range (L.length / 2)).any fun t => decide (nthI L (2 * t) = nthI L (2 * t + 1))
theorem doubV_true (L : List (List Nat)) (j : Nat) (h : 2 * j + 1 < L.length) (e : nthI L (2 * j) = nthI L (2 * j + 1)) : doubV L = true := by
  unfold doubV
  rw [List.any_eq_true]
  exact ⟨j, by simp; omega, decide_eq_true e⟩
theorem doubV_false (L : List (List Nat)) (h : ∀ t, t < L.length / 2 → nthI L (2 * t) ≠ nthI L (2 * t + 1)) : doubV L = false := by
  unfold doubV
  rw [List.any_eq_false]
  intro t ht
  rw [decide_eq_true_iff]
  exact h t (by simpa using ht)
set_option maxRecDepth 100000 in
set_option maxHeartbeats 2000000 in
theorem doubled_any (v : Value) (L : List (List Nat)) (w : World) (hv : IdsV w w.heap.size v L) (hn : L.length ≤ 100000) :
    Calls Tryd.prog 56 #[v] w fun e w' => e = .returned (.bool (doubV L)) ∧ Below w.heap.size w w' := by
  have hid := hv.ids
  obtain ⟨s, c, rfl⟩ := hv.slice
  have hat := hv.at_
  have HT := Lib.hid (doubV_true L)
  have HF := Lib.hid (doubV_false L)
  generalize doubV L = D at *
  obtain ⟨n, hnl⟩ : ∃ n, n = L.length := ⟨_, rfl⟩
  have HAT : Hid (0 < n → ∃ b o, s = some ⟨b, o, none⟩ ∧ b < w.heap.size ∧ ∀ k, k < n → w.rangeAt b (o + k * 32) (idA (nthI L k)).toList) := fun h => by
    obtain ⟨b, o, e, hb, _, hr⟩ := hat (fun h0 => by rw [h0] at hnl; simp at hnl; omega)
    exact ⟨b, o, e, hb, fun k hk => hr k _ (nthI_get (by omega))⟩
  have HID := Lib.hid (fun k (h : k < n) => nthI_id hid (i := k) (by omega))
  rw [← hnl] at hn HT HF ⊢
  clear hat hv hid hnl
  go_enter Tryd.func56, Tryd.ntmps56
  go_wp2_with fail
  go_loopw [3] (fun i wr => ∃ j : Nat, 2 * j ≤ n ∧ i = .int .i64 ((2 * j + 1 : Nat) : Int) ∧ Hid (Below w.heap.size w wr) ∧ Hid (∀ t, t < j → nthI L (2 * t) ≠ nthI L (2 * t + 1))) (fun i _ => (n + 1 - (intOf i).toNat))
  case atStart => exact ⟨0, Nat.zero_le _, rfl, Below.refl _ _, fun t ht => by omega⟩
  case round =>
    obtain ⟨j, hj, rfl, hWr, hne⟩ := hrel
    obtain ⟨i, hi⟩ : ∃ i, i = 2 * j + 1 := ⟨_, rfl⟩
    rw [← hi]
    by_cases hlt : i < n
    · have hd : decide ((i : Int) < (n : Int)) = true := decide_eq_true (by omega)
      obtain ⟨b, o, rfl, hbl, hrange⟩ := HAT.out (by omega)
      have hrx := idr_below (hrange (i - 1) (by omega)) hWr.out hbl
      have hry := idr_below (hrange i hlt) hWr.out hbl
      have HXL := Lib.hid (HID.out (i - 1) (by omega)).1
      have HYL := Lib.hid (HID.out i hlt).1
      have HEQ := Lib.hid (fun W => id_eql _ _ HXL.out HYL.out W)
      obtain ⟨k, hk⟩ : ∃ k, k = i - 1 := ⟨_, rfl⟩
      rw [← hk] at hrx HXL HEQ
      have hik : ((i : Int) - 1) = (k : Int) := by omega
      have hkn : (k : Int) < (n : Int) := by omega
      have hwk : IntKind.i64.wrap (k : Int) = (k : Int) := IntWalk.i64_in _ (by omega)
      have hii : (i : Int) < (n : Int) := by omega
      have HK2 : Hid (k = 2 * j) := by show _ = _; omega
      have HI2 := Lib.hid hi
      have hn2 : i + 2 < 9223372036854775807 := by omega
      have HTJ : Hid (nthI L k = nthI L i → D = true) := fun e => HT.out j (by omega) (by rw [← hi, ← HK2.out]; exact e)
      have HNX : Hid (nthI L k ≠ nthI L i → ∀ t, t < j + 1 → nthI L (2 * t) ≠ nthI L (2 * t + 1)) := fun e t ht => by
        by_cases h : t = j
        · rw [h, ← hi, ← HK2.out]; exact e
        · exact hne.out t (by omega)
      generalize nthI L k = x at *
      generalize nthI L i = y at *
      clear hrange hk hi hne
      go_upto_region 4 with fail
      refine wp_region_still_tail 9 (by kernel_rfl) (by kernel_rfl) ?_
      simp only [List.take_succ_cons, List.take_zero, List.drop_succ_cons, List.drop_zero]
      still_step
      still_step
      still_step
      still_step
      refine still_load_id rfl (.tmp 13) rfl b (o + k * 32) rfl x HXL.out hrx ?_
      still_step
      still_step
      still_step
      refine still_load_id rfl (.tmp 17) rfl b (o + i * 32) rfl y HYL.out hry ?_
      refine wpStill_nil ?_
      change wpList _ _ _ _ _ wr.drew
      have hb0 := Lib.hid hWr.out.drew
      clear hrx hry
      generalize wr.drew = w4 at *
      by_cases hxy : x = y
      · have hD := HTJ.out hxy
        subst hD
        have heq : ∀ W, (Op.equalIn 10000 29 (.agg (idA x)) (.agg (idA y))).run Tryd.prog W = .ok true W := fun W => by
          have h := HEQ.out W
          rw [decide_eq_true hxy] at h
          exact h
        clear hxy
        go_wp2_with fail
        go_ret
        exact ⟨rfl, hb0.out⟩
      · have heq : ∀ W, (Op.equalIn 10000 29 (.agg (idA x)) (.agg (idA y))).run Tryd.prog W = .ok false W := fun W => by
          have h := HEQ.out W
          rw [decide_eq_false hxy] at h
          exact h
        have hnx := Lib.hid (HNX.out hxy)
        clear hxy
        go_wp2_with fail
        go_roundw
        case rel =>
          have hi2 : Value.int .i64 ((i : Int) + 2) = .int .i64 ((2 * (j + 1) + 1 : Nat) : Int) := congrArg (Value.int .i64) (by have := HI2.out; omega)
          have hjm : 2 * (j + 1) ≤ n := by have := HI2.out; omega
          first | exact ⟨j + 1, hjm, hi2, hb0, hnx⟩ | ((repeat apply Exists.intro); exact ⟨⟨j + 1, hjm, hi2, hb0, hnx⟩, rfl⟩)
        case measure => simp [intOf] <;> omega
    · have hd : decide ((i : Int) < (n : Int)) = false := decide_eq_false (by omega)
      have hd' : decide (i < n) = false := decide_eq_false hlt
      have hD := HF.out (fun t ht => hne.out t (by omega))
      subst hD
      clear hi
      go_wp2_with fail
      go_ret
      exact ⟨rfl, hWr.out⟩
end Go.Proofs.YtccgfjkahdbboaaDoor
