/-
  The head of the laws on bits: the easiest target of tests.
-/
import Derived.Test.YtkkkfcdoilojmaaBitW
namespace Go.Proofs.Ytkkkfcdoilojmaa
open Go.RowKit
set_option linter.unusedVariables false

theorem e_len : blen (tgtV 545259519) = 255 := by decide +kernel
theorem e_short : shortN (tgtV 545259519) = 545259519 := by decide +kernel
theorem e_work : workV (tgtV 545259519) = 2 := by decide +kernel
theorem e_some : (!decide (tgtV 545259519 = 0)) = true := by decide +kernel
theorem bin_num (r : Nat) (hr : r < M256) (w : World) : (binOp .eql 24 (nv r) (nv r)).run Try.prog w = .ok (.bool true) w := by
  have h := nv_eql r r hr hr w
  rw [decide_eq_true rfl] at h
  show (Op.equal 24 (nv r) (nv r) >>= fun b => pure (Value.bool b)).run Try.prog w = _
  rw [Sem.run_bind]
  show ((Op.equalIn 10000 24 (nv r) (nv r)).run Try.prog w).andThen _ = _
  rw [h]
  rfl
set_option maxRecDepth 100000 in
set_option maxHeartbeats 1000000 in
theorem means_any (w : World) : Calls Try.prog 16 #[] w fun e w' => e = .returned (.bool true) ∧ Below w.heap.size w w' := by
  have ht := tgtV_lt 545259519
  have HT := fun W => target_any 545259519 W (by decide)
  rw [e_some] at HT
  have HL := fun W => len_any _ W ht
  rw [e_len] at HL
  have HS := fun W => short_any _ W ht
  rw [e_short] at HS
  have HW := fun W => work_any _ W ht
  rw [e_work] at HW
  have HO := Lib.hid (fun W => of_any 2 W (by decide))
  generalize tgtV 545259519 = t at *
  have HT := Lib.hid HT
  have HL := Lib.hid HL
  have HS := Lib.hid HS
  have HW := Lib.hid HW
  have hq := nv_eql 2 2 (by rw [M256_pow]; exact Nat.lt_of_lt_of_le (show 2 < 2 ^ 2 by decide) (Nat.pow_le_pow_right (by omega) (by omega)))
  have hq := fun w => hq (by rw [M256_pow]; exact Nat.lt_of_lt_of_le (show 2 < 2 ^ 2 by decide) (Nat.pow_le_pow_right (by omega) (by omega))) w
  rw [decide_eq_true rfl] at hq
  clear ht
  go_enter Try.func16, Try.ntmps16
  go_wp2_with fail
  refine (HT.out _).mono ?_
  rintro e w1 ⟨rfl, hb1⟩
  have hW : Below w.heap.size w (w1.alloc (.cells (A4 (wd0 t) (wd1 t) (wd2 t) (wd3 t)) 24)) := hb1.alloc hb1.size _
  have T : Bk (w1.alloc (.cells (A4 (wd0 t) (wd1 t) (wd2 t) (wd3 t)) 24)) w1.heap.size 24 (A4 (wd0 t) (wd1 t) (wd2 t) (wd3 t)) := Bk.new _ _ _
  have hg1 := hb1.size
  clear hb1
  go_wp2_with fail
  refine (HL.out _).mono ?_
  rintro e w2 ⟨rfl, hb2⟩
  have T := T.keep hb2
  have hW := below_step hW (by simp; omega) hb2
  clear hb2
  generalize w1.heap.size = g at *
  obtain ⟨a0, a1, a2, a3, a4, a5, a6, a7, za⟩ := T.f4
  go_wp2_with fail
  refine (HS.out _).mono ?_
  rintro e w3 ⟨rfl, hb3⟩
  have T := T.keep hb3
  have hW := below_step hW hW.size hb3
  clear hb3 a0 a1 a2 a3 a4 a5 a6 a7 za
  obtain ⟨a0, a1, a2, a3, a4, a5, a6, a7, za⟩ := T.f4
  go_wp2_with fail
  refine (HW.out _).mono ?_
  rintro e w4 ⟨rfl, hb4⟩
  have hW := below_step hW hW.size hb4
  clear hb4 a0 a1 a2 a3 a4 a5 a6 a7 za
  go_wp2_with fail
  refine (HO.out _).mono ?_
  rintro e w5 ⟨rfl, hb5⟩
  have hW := below_step hW hW.size hb5
  go_wp2_with fail
  go_ret
  exact ⟨rfl, hW⟩
end Go.Proofs.Ytkkkfcdoilojmaa
