/-
  Package check: a transaction.
-/
import Derived.Test.YtmjiadfdmchhaaaDoorCkD
namespace Go.Proofs.YtmjiadfdmchhaaaDoor
open Go.RowKit
set_option linter.unusedVariables false
set_option linter.unusedSimpArgs false
set_option maxRecDepth 100000

/-- Why a transaction is refused; 0: it is not. -/
def txE (front : Bool) (t : TxM) : Nat :=
  if ¬ (0 < t.ins.length ∧ t.ins.length ≤ 32) then 120 else if ¬ (0 < t.outs.length ∧ t.outs.length ≤ 32) then 120
  else if inE front [] t.ins ≠ 0 then inE front [] t.ins else if (osum 0 t.outs).2 = false then 121 else 0
theorem csome_nat (n : Nat) (w : World) : Calls Tryd.prog 25 #[.int .i64 (n : Int), .int .i64 32] w fun r w' => r = .returned (.bool (decide (0 < n ∧ n ≤ 32))) ∧ w' = w := by
  have h := csome_any (n : Int) 32 w
  rw [show decide ((0 : Int) < (n : Int) ∧ (n : Int) ≤ 32) = decide (0 < n ∧ n ≤ 32) from by
    by_cases h : 0 < n ∧ n ≤ 32
    · rw [decide_eq_true h]; exact decide_eq_true (by omega)
    · rw [decide_eq_false h]; exact decide_eq_false (by omega)] at h
  exact h
set_option maxHeartbeats 4000000 in
theorem ctx_any (t : TxM) (front : Bool) (w : World) (h : TxV w w.heap.size t) :
    Calls Tryd.prog 16 #[txv t, .bool front] w fun r w' => r = .returned (.int .i64 (txE front t : Nat)) ∧ Below w.heap.size w w' := by
  obtain ⟨hI, hIx, hO, hOx⟩ := h
  obtain ⟨KT, BT⟩ := tx_made t.iv t.ov w
  have HIN := Lib.hid (fun (W : World) (hb : Below w.heap.size w W) => inputs_any t.ins front t.iv W ((hI.keep hb (Nat.le_refl _)).mono hb.size) (fun x hx => ((hIx x hx).keep hb (Nat.le_refl _)).mono hb.size))
  have HSU := Lib.hid (fun (W : World) (hb : Below w.heap.size w W) => csum_any t.outs t.ov W ((hO.keep hb (Nat.le_refl _)).mono hb.size) hOx)
  obtain ⟨si, ci, hiv⟩ : ∃ s c, t.iv = .slice s t.ins.length c := ⟨_, _, rfl⟩
  obtain ⟨so, co, hov⟩ : ∃ s c, t.ov = .slice s t.outs.length c := ⟨_, _, rfl⟩
  have HS1 := Lib.hid (csome_nat t.ins.length)
  have HS2 := Lib.hid (csome_nat t.outs.length)
  obtain ⟨res, hres⟩ : ∃ r, r = txE front t := ⟨_, rfl⟩
  have HRS : Hid (res = if ¬ (0 < t.ins.length ∧ t.ins.length ≤ 32) then 120 else if ¬ (0 < t.outs.length ∧ t.outs.length ≤ 32) then 120
      else if inE front [] t.ins ≠ 0 then inE front [] t.ins else if (osum 0 t.outs).2 = false then 121 else 0) := hres
  rw [← hres]
  show Calls _ _ #[.agg #[t.iv, t.ov], _] _ _
  rw [hiv, hov] at KT BT ⊢
  rw [hiv] at HIN
  rw [hov] at HSU
  obtain ⟨ni, hni⟩ : ∃ n, n = t.ins.length := ⟨_, rfl⟩
  obtain ⟨no, hno⟩ : ∃ n, n = t.outs.length := ⟨_, rfl⟩
  obtain ⟨ie, hie⟩ : ∃ n, n = inE front [] t.ins := ⟨_, rfl⟩
  obtain ⟨os, hos⟩ : ∃ n, n = osum 0 t.outs := ⟨_, rfl⟩
  rw [← hni] at HIN HS1 KT BT ⊢
  rw [← hno] at HSU HS2 KT BT ⊢
  rw [← hie] at HIN
  rw [← hos] at HSU
  rw [← hni, ← hno, ← hie, ← hos] at HRS
  clear hI hIx hO hOx hiv hov hni hno hie hos hres
  obtain ⟨sm, sb⟩ := os
  simp only at HSU HRS
  go_enter Tryd.func16, Tryd.ntmps16
  go_upto_region 1 with fail
  refine wp_any (fun W => Bk W w.heap.size 28 #[.slice si ni ci, .slice so no co] ∧ Below w.heap.size w W) ⟨KT, BT⟩ ?_
  clear KT BT
  obtain ⟨g, hg⟩ : ∃ g, g = w.heap.size := ⟨_, rfl⟩
  have HG := Lib.hid hg
  rw [← hg]
  rintro W1 ⟨K, hB⟩
  have HK := Lib.hid K
  have HB := Lib.hid (show Below w.heap.size w W1 from by rw [hg] at hB; exact hB)
  have c0 := K.cell 0
  have c1 := K.cell 1
  have z1 := K.lt
  clear hg K hB
  by_cases h1 : 0 < ni ∧ ni ≤ 32
  · have S1 := HS1.out
    rw [decide_eq_true h1] at S1
    have HRS := Lib.hid (HRS.out.trans (if_neg (fun h => h h1)))
    by_cases h2 : 0 < no ∧ no ≤ 32
    · have S2 := HS2.out
      rw [decide_eq_true h2] at S2
      have HRS := Lib.hid (HRS.out.trans (if_neg (fun h => h h2)))
      have S1 := Lib.hid S1
      have S2 := Lib.hid S2
      clear h1 h2 HS1 HS2
      go_wp2_with fail
      refine (S1.out _).mono ?_
      rintro e w' ⟨rfl, rfl⟩
      go_wp2_with fail
      refine (S2.out _).mono ?_
      rintro e w' ⟨rfl, rfl⟩
      go_wp2_with fail
      refine (HIN.out _ HB.out).mono ?_
      rintro e W3 ⟨rfl, hb3⟩
      have HB3 := Lib.hid (below_step HB.out HB.out.size hb3)
      have K3 := HK.out.keep hb3
      have d1 := K3.cell 1
      have z3 := K3.lt
      clear hb3 c0 c1 z1 K3
      by_cases h3 : ie ≠ 0
      · have q3 : ((ie : Int) != 0) = true := by simp; omega
        have hr : res = ie := HRS.out.trans (if_pos h3)
        clear HRS
        subst hr
        clear h3
        go_wp2_with fail
        go_ret
        exact ⟨rfl, HB3.out⟩
      · have q3 : ((ie : Int) != 0) = false := by simp; omega
        have HRS := Lib.hid (HRS.out.trans (if_neg h3))
        clear h3
        go_wp2_with fail
        refine (HSU.out _ HB3.out).mono ?_
        rintro e W4 ⟨rfl, hb4⟩
        have HB4 := Lib.hid (below_step HB3.out HB3.out.size hb4)
        clear hb4 d1 z3
        cases sb with
        | false =>
          have hr : res = 121 := HRS.out
          subst hr
          go_wp2_with fail
          go_ret
          exact ⟨rfl, HB4.out⟩
        | true =>
          have hr : res = 0 := HRS.out
          subst hr
          go_wp2_with fail
          go_ret
          exact ⟨rfl, HB4.out⟩
    · have S2 := HS2.out
      rw [decide_eq_false h2] at S2
      have hr : res = 120 := HRS.out.trans (if_pos h2)
      have S1 := Lib.hid S1
      have S2 := Lib.hid S2
      clear HRS
      subst hr
      clear h1 h2 HS1 HS2
      go_wp2_with fail
      refine (S1.out _).mono ?_
      rintro e w' ⟨rfl, rfl⟩
      go_wp2_with fail
      refine (S2.out _).mono ?_
      rintro e w' ⟨rfl, rfl⟩
      go_wp2_with fail
      go_ret
      exact ⟨rfl, HB.out⟩
  · have S1 := HS1.out
    rw [decide_eq_false h1] at S1
    have hr : res = 120 := HRS.out.trans (if_pos h1)
    have S1 := Lib.hid S1
    clear HRS
    subst hr
    clear h1 HS1 HS2
    go_wp2_with fail
    refine (S1.out _).mono ?_
    rintro e w' ⟨rfl, rfl⟩
    go_wp2_with fail
    go_ret
    exact ⟨rfl, HB.out⟩
end Go.Proofs.YtmjiadfdmchhaaaDoor
