/-
  The contract of package merkle's Way; where it leads.
-/
import Derived.Test.YtecmgojecjenmaaDoorMerE
namespace Go.Proofs.YtecmgojecjenmaaDoor
open Go.RowKit
set_option linter.unusedVariables false

/-- The sums by which one of many comes to their root. -/
def wayW (L : List (List Nat)) (k : Nat) : List (List Nat) :=
  if h : 1 < L.length then nthI L (besideN k L.length) :: wayW (aboveV L) (k / 2) else []
termination_by L.length
decreasing_by rw [aboveV_length]; omega
theorem wayW_one (L : List (List Nat)) (k : Nat) (h : ¬ 1 < L.length) : wayW L k = [] := by rw [wayW, dif_neg h]
theorem wayW_more (L : List (List Nat)) (k : Nat) (h : 1 < L.length) : wayW L k = nthI L (besideN k L.length) :: wayW (aboveV L) (k / 2) := by rw [wayW, dif_pos h]
theorem wayW_ids (L : List (List Nat)) (k : Nat) (hL : IsIds L) (hk : k < L.length) : IsIds (wayW L k) := by
  rw [wayW]
  split
  · rename_i h
    intro x hx
    rcases List.mem_cons.1 hx with rfl | hx
    · exact nthI_id hL (besideN_lt _ _ hk)
    · exact wayW_ids _ _ (aboveV_ids L) (by rw [aboveV_length]; omega) x hx
  · exact IsIds.nil
termination_by L.length
decreasing_by rw [aboveV_length]; omega
/-- How many levels there are. -/
def levN (n : Nat) : Nat := if h : 1 < n then levN ((n + 1) / 2) + 1 else 0
termination_by n
decreasing_by omega
theorem levN_le (n : Nat) : levN n ≤ n := by
  rw [levN]
  split
  · have := levN_le ((n + 1) / 2)
    omega
  · omega
termination_by n
decreasing_by omega
theorem wayW_length (L : List (List Nat)) (k : Nat) : (wayW L k).length = levN L.length := by
  rw [wayW, levN]
  split
  · rw [List.length_cons, wayW_length, aboveV_length]
  · rfl
termination_by L.length
decreasing_by rw [aboveV_length]; omega
theorem above_at (L : List (List Nat)) (k : Nat) (hk : k < L.length) : nthI (aboveV L) (k / 2) = if k % 2 = 0 then H2 (nthI L k) (nthI L (besideN k L.length)) else H2 (nthI L (besideN k L.length)) (nthI L k) := by
  have hl : k / 2 < (L.length + 1) / 2 := by omega
  have e : nthI (aboveV L) (k / 2) = H2 (nthI L (2 * (k / 2))) (nthI L (besideN (2 * (k / 2)) L.length)) := by
    unfold aboveV aboveP nthI
    rw [List.getD, List.getElem?_map, List.getElem?_range hl]
    rfl
  rw [e]
  by_cases h : k % 2 = 0
  · rw [if_pos h, show 2 * (k / 2) = k by omega]
  · rw [if_neg h]
    have e1 : besideN k L.length = k - 1 := by unfold besideN; rw [if_pos (by omega)]
    have e2 : besideN (2 * (k / 2)) L.length = k := by
      unfold besideN
      rw [if_neg (by omega), Nat.min_eq_left (by omega)]
      omega
    rw [e1, e2, show 2 * (k / 2) = k - 1 by omega]
/-- A way leads from a sum to the root of them all. -/
theorem way_leads (L : List (List Nat)) (k : Nat) (s : Bool) (hk : k < L.length) : leadsW (nthI L k) (k : Int) (wayW L k) = (rootW L s).1 := by
  by_cases h : 1 < L.length
  · rw [wayW_more L k h, rootW_more L s h, leadsW]
    have e1 : (k : Int) / 2 = ((k / 2 : Nat) : Int) := by omega
    rw [e1, ← way_leads (aboveV L) (k / 2) _ (by rw [aboveV_length]; omega), above_at L k hk]
    congr 1
    by_cases h2 : k % 2 = 0
    · rw [if_pos (by omega), if_pos h2]
    · rw [if_neg (by omega), if_neg h2]
  · rw [wayW_one L k h, rootW_one L s h]
    have : k = 0 := by omega
    subst this
    rfl
termination_by L.length
decreasing_by rw [aboveV_length]; omega
/-- Two slices in two blocks. -/
def Apart (u v : Value) : Prop := ∀ b o n c, u = .slice (some ⟨b, o, none⟩) n c → ∀ o' n' c', v ≠ .slice (some ⟨b, o', none⟩) n' c'
theorem IdsV.but {w W : World} {u v : Value} {L : List (List Nat)} (h : IdsV w w.heap.size v L) (hb : ButI u w W) (hs : w.heap.size ≤ W.heap.size) (ha : Apart v u) : IdsV W W.heap.size v L := by
  obtain ⟨s, cap, rfl, h1, h2, h3, h4⟩ := h
  refine ⟨s, cap, rfl, h1, h2, h3, fun hne => ?_⟩
  obtain ⟨b, o, rfl, hlt, hr⟩ := h4 hne
  exact ⟨b, o, rfl, by omega, fun i x hx j y hy => (hb b _ hlt (ha b o _ _ rfl)).trans (hr i x hx j y hy)⟩
theorem apart_new {W W' : World} {lo : Nat} {u v : Value} {P A : List (List Nat)} (h : MineI W lo v P) (k : MineI W' W.heap.size u A) : Apart u v := by
  intro b o n c e o' n' c' e'
  rcases h with ⟨h, _⟩ | ⟨T, cap, z, h, _, _, _, K⟩
  · rw [h] at e'; cases e'
  · rcases k with ⟨k, _⟩ | ⟨T', cap', z', k, _, _, hT', _⟩
    · rw [k] at e; cases e
    · rw [h] at e'
      rw [k] at e
      cases e'
      cases e
      have := K.lt
      omega
set_option maxRecDepth 100000 in
set_option maxHeartbeats 1000000 in
theorem way_none (k : Int) (s : Option Addr) (n c : Nat) (w : World) (h : k < 0 ∨ ¬ k < 0 ∧ (n : Int) ≤ k) :
    Calls Tryd.prog 13 #[.int .i64 k, .slice s n c] w fun e w' => e = .returned (.tuple #[.slice none 0 0, .int .i64 1]) ∧ Below w.heap.size w w' := by
  rcases h with h | ⟨h1, h⟩
  all_goals
    try have hd : decide (k < 0) = true := decide_eq_true h
    try have hd : decide (k < 0) = false := decide_eq_false h1
    try have hd2 : decide ((n : Int) ≤ k) = true := decide_eq_true (by omega)
    go_enter Tryd.func13, Tryd.ntmps13
    go_wp2_with fail
    exact bodyPost_ret (results_tmp2 rfl _ _ _) rfl ⟨rfl, Below.refl _ _⟩
set_option maxRecDepth 100000 in
set_option maxHeartbeats 4000000 in
theorem way_any (k : Nat) (v : Value) (L : List (List Nat)) (w : World) (hL : Laid w) (hv : IdsV w w.heap.size v L) (hk : k < L.length) (hn : L.length ≤ 100000) :
    Calls Tryd.prog 13 #[.int .i64 (k : Int), v] w fun e w' => ∃ v', e = .returned (.tuple #[v', .int .i64 0]) ∧ MineI w' w.heap.size v' (wayW L k) ∧ Below w.heap.size w w' := by
  have HV := Lib.hid hv
  have HL := Lib.hid hL
  obtain ⟨s, c, rfl⟩ := hv.slice
  have HS : Hid (∀ P M j, wayW L k = P ++ wayW M j → ¬ 1 < M.length → wayW L k = P) := fun P M j h1 h2 => by rw [h1, wayW_one M j h2, List.append_nil]
  have HN : Hid (∀ P M j, wayW L k = P ++ wayW M j → 1 < M.length → wayW L k = (P ++ [nthI M (besideN j M.length)]) ++ wayW (aboveV M) (j / 2)) := fun P M j h1 h2 => by rw [h1, wayW_more M j h2]; simp
  obtain ⟨R0, hR0⟩ : ∃ R0, R0 = wayW L k := ⟨_, rfl⟩
  rw [← hR0] at HS HN ⊢
  have HR0 := Lib.hid hR0
  have hd : decide ((k : Int) < 0) = false := decide_eq_false (by omega)
  have hd2 : decide ((L.length : Int) ≤ (k : Int)) = false := decide_eq_false (by omega)
  have hd2' : decide (L.length ≤ k) = false := decide_eq_false (by omega)
  obtain ⟨n, hnl⟩ : ∃ n, n = L.length := ⟨_, rfl⟩
  rw [← hnl] at hn hd2 hd2' hk ⊢
  have HNL := Lib.hid hnl
  clear hv hL hR0 hnl
  go_enter Tryd.func13, Tryd.ntmps13
  go_wp2_with fail
  go_loopw [0, 1, 6] (fun av ids out wr => ∃ (M P : List (List Nat)) (j : Nat), av = .int .i64 (j : Int) ∧ j < 100000 ∧ Hid (M.length ≤ 100000) ∧ Hid (j < M.length) ∧ Hid (R0 = P ++ wayW M j) ∧ Hid (P.length + M.length ≤ n) ∧ Hid (IsIds P) ∧ Hid (IdsV wr wr.heap.size ids M) ∧ Hid (MineI wr w.heap.size out P) ∧ Hid (Apart ids out) ∧ Hid (Below w.heap.size w wr)) (fun _ ids _ _ => lenS ids)
  case atStart => exact ⟨L, [], k, rfl, by omega, by rw [← HNL.out]; exact hn, by rw [← HNL.out]; exact hk, by show _ = _; rw [List.nil_append]; exact HR0.out, by rw [← HNL.out]; show 0 + n ≤ n; omega, IsIds.nil, by rw [HNL.out]; exact HV.out, .inl ⟨rfl, rfl⟩, (fun b o n c _ o' n' c' e => by cases e), Below.refl _ _⟩
  case round =>
    obtain ⟨M, P, j, rfl, hj, HML, HJ, HR, HPL, HPI, HMV, HPM, HAP, hWr⟩ := hrel
    obtain ⟨s5, c5, e5⟩ := HMV.out.slice
    subst e5
    obtain ⟨s6, c6, e6⟩ := HPM.out.slice
    subst e6
    have HLr := Lib.hid (HL.out.below hWr.out HL.out.size)
    by_cases h1 : 1 < M.length
    · have hdm : decide ((1 : Int) < (M.length : Int)) = true := decide_eq_true (by omega)
      have hnx := Lib.hid (HN.out P M j HR.out h1)
      have HAL : Hid ((aboveV M).length ≤ 100000 ∧ j / 2 < (aboveV M).length ∧ (aboveV M).length < M.length) := by
        have := HML.out
        have := HJ.out
        show _ ∧ _ ∧ _
        rw [aboveV_length]
        omega
      have hbj := besideN_lt j M.length HJ.out
      have HBE := Lib.hid (fun W => beside_any j M.length W HJ.out (by have := HML.out; omega))
      obtain ⟨b, o, rfl, hbl, _, hr⟩ := HMV.out.at_ (fun h => by rw [h] at h1; simp at h1)
      have hrx := hr _ _ (nthI_get hbj)
      have HX := Lib.hid (nthI_id HMV.out.ids hbj)
      have HAB := Lib.hid (fun W (h : Laid W) (h2 : IdsV W W.heap.size (.slice (some ⟨b, o, none⟩) M.length c5) M) => above_any _ M W h h2 HML.out)
      have hAI := aboveV_ids M
      have HJ0 := HJ
      generalize aboveV M = A at *
      generalize besideN j M.length = p at *
      generalize nthI M p = x at *
      have hxl := HX.out.1
      have HAI := Lib.hid hAI
      obtain ⟨ml, hml⟩ : ∃ ml, ml = M.length := ⟨_, rfl⟩
      rw [← hml] at hdm HAL hbj HBE HPL h1 ⊢
      have hjm : j < ml := by rw [hml]; exact HJ0.out
      have hpm : (p : Int) < (ml : Int) := by omega
      have hA : Below wr.heap.size wr (wr.alloc (.cells (idA x) 27)) := (Below.refl _ _).alloc (Nat.le_refl _) _
      rw [← hml] at HAB
      have HMV0 : Hid (IdsV wr wr.heap.size (.slice (some ⟨b, o, none⟩) ml c5) M) := by rw [hml]; exact HMV.out
      have HAP0 : Hid (Apart (.slice (some ⟨b, o, none⟩) ml c5) (.slice s6 P.length c6)) := by rw [hml]; exact HAP.out
      obtain ⟨v7, W7, hrun, M7, hb7, hbut⟩ := appI2 P [x] _ (.slice (some ⟨wr.heap.size, 0, none⟩) 1 1) w.heap.size _ (HPM.out.keep hA) HPI.out (Nat.le_trans hWr.out.size hA.size) (one_row (t := 27) (Bk.new _ _ _) HX.out) (by have := HPL.out; simp; omega)
      have hW7 := Lib.hid ((hWr.out.alloc hWr.out.size _).trans hb7)
      have hsz7 : (wr.alloc (.cells (idA x) 27)).heap.size ≤ W7.heap.size := hb7.size
      have hMA : IdsV (wr.alloc (.cells (idA x) 27)) (wr.alloc (.cells (idA x) 27)).heap.size (.slice (some ⟨b, o, none⟩) ml c5) M := (HMV0.out.keep hA (Nat.le_refl _)).mono hA.size
      have hM7 := hMA.but hbut hsz7 HAP0.out
      have hL7 := HL.out.below hW7.out HL.out.size
      have HAB7 := Lib.hid (HAB.out W7 hL7 hM7)
      have hP2 : Hid (IsIds (P ++ [x])) := HPI.out.app (IsIds.one HX.out)
      have hj2 : (j : Int) / 2 = ((j / 2 : Nat) : Int) := by omega
      obtain ⟨s7, c7, e7⟩ := M7.slice
      subst e7
      have M7 := Lib.hid M7
      have HML2 := Lib.hid hml
      clear hb7 hbut hA hMA hM7 hL7 HAB HMV HAP hr hj2 hml hsz7
      go_wp2_with fail
      refine (HBE.out _).mono ?_
      rintro e w5 ⟨rfl, h5⟩
      subst h5
      go_wp2_with (first | (refine wpList_load_mid rfl 27 (.tmp 24) rfl b (o + p * 32) rfl (idA x).toList _ hrx Tryd.underlying27 rfl (by rw [Array.length_toList, idA_size, hxl]; exact id_info') ?_) | (refine wpList_bsI1 rfl (.tmp 25) rfl x HX.out rfl ?_) | (at_builtin; refine wpList_appI (v1 := .slice s6 P.length c6) (v2 := .slice (some ⟨w5.heap.size, 0, none⟩) 1 1) (v := .slice s7 (P ++ [x]).length c7) rfl (.tmp 18) (.tmp 26) rfl rfl rfl rfl hrun ?_))
      refine HAB7.out.mono ?_
      rintro e w8 ⟨v8, rfl, M8, hb8⟩
      have HAP8 := Lib.hid (apart_new M7.out M8)
      have M8' := Lib.hid (M8.ids HAI.out)
      have M7' := Lib.hid (M7.out.keep hb8)
      have hW8 := Lib.hid (hW7.out.trans (hb8.mono hW7.out.size))
      obtain ⟨s8, c8, e8⟩ := M8.slice
      subst e8
      clear hb8 M8 M7 hrun
      go_wp2_with fail
      go_roundw
      case rel =>
        have hjv : Value.int .i64 ((j : Int) / 2) = .int .i64 ((j / 2 : Nat) : Int) := congrArg (Value.int .i64) (by omega)
        have hpl2 : Hid ((P ++ [x]).length + A.length ≤ n) := by
          have h1 := HPL.out
          have h2 := HAL.out.2.2
          show _ ≤ _
          rw [List.length_append, List.length_singleton]
          omega
        have M7'' : Hid (MineI w8 w.heap.size (.slice s7 (P.length + 1) c7) (P ++ [x])) := by have h := M7'.out; rw [List.length_append, List.length_singleton] at h; exact h
        have HAP8' : Hid (Apart (.slice s8 A.length c8) (.slice s7 (P.length + 1) c7)) := by have h := HAP8.out; rw [List.length_append, List.length_singleton] at h; exact h
        have hj2 : j / 2 < 100000 := by omega
        first | exact ⟨A, P ++ [x], j / 2, hjv, hj2, HAL.out.1, HAL.out.2.1, hnx, hpl2, hP2, M8', M7'', HAP8', hW8⟩ | ((repeat apply Exists.intro); exact ⟨⟨A, P ++ [x], j / 2, hjv, hj2, HAL.out.1, HAL.out.2.1, hnx, hpl2, hP2, M8', M7'', HAP8', hW8⟩, rfl⟩)
      case measure => have h2 := HAL.out.2.2; simp [lenS]; omega
    · have hdm : decide ((1 : Int) < (M.length : Int)) = false := decide_eq_false (by omega)
      have hdm' : decide (1 < M.length) = false := decide_eq_false h1
      have hend := Lib.hid (HS.out P M j HR.out h1)
      obtain ⟨ml, hml⟩ : ∃ ml, ml = M.length := ⟨_, rfl⟩
      rw [← hml] at hdm hdm' ⊢
      clear h1 hml
      go_wp2_with fail
      refine bodyPost_ret (results_tmp2 rfl _ _ _) rfl ⟨_, rfl, ?_, hWr.out⟩
      rw [hend.out]
      exact HPM.out
end Go.Proofs.YtecmgojecjenmaaDoor
