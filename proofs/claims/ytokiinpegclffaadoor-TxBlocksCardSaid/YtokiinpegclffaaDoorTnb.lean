/-
  Whether bytes are a block, as the document has it.
-/
import Derived.Test.YtokiinpegclffaaDoorTny
import Derived.Test.YtokiinpegclffaaDoorTxT
namespace Go.Proofs.YtokiinpegclffaaDoor
open Go.RowKit
set_option linter.unusedVariables false
set_option linter.unusedSimpArgs false
set_option maxRecDepth 100000

/-- The error's number of bytes that should be a block. -/
def rbEnd (xs : List Nat) : Nat := if 8192 < xs.length then 2 else rdEnd (rbSt xs)
set_option maxHeartbeats 16000000 in
theorem rrb_any (xs : List Nat) (w : World) (hl : xs.length ≤ 1000000) (hx : ∀ x ∈ xs, x < 256) :
    Calls Tryd.prog 30 #[.string (strN xs)] w fun e w' => e = .returned (.int .i64 ((rbEnd xs : Nat) : Int)) ∧ Below w.heap.size w w' := by
  have hz := strN_size xs
  by_cases h8 : 8192 < xs.length
  · have e : rbEnd xs = 2 := by unfold rbEnd; rw [if_pos h8]
    rw [e]
    obtain ⟨n, hn⟩ : ∃ n, n = xs.length := ⟨_, rfl⟩
    obtain ⟨u, hu⟩ : ∃ u, u = strN xs := ⟨_, rfl⟩
    rw [← hn] at hz h8
    rw [← hu] at hz ⊢
    have q1 : decide ((8192 : Int) < (n : Int)) = true := decide_eq_true (by omega)
    clear hn hu h8 e hx hl
    go_enter Tryd.func30, Tryd.ntmps30
    go_wp2_with fail
    go_ret
    exact ⟨rfl, Below.refl _ _⟩
  have e : rbEnd xs = rdEnd (rbSt xs) := by unfold rbEnd; rw [if_neg h8]
  rw [e]
  have hI : StI (xs, 0) := ⟨hl, by simp only; omega, hx, fun h => absurd rfl h⟩
  have HT : Hid (∀ (t : St) (n : Int), StI t → -9223372036854775808 ≤ n ∧ n ≤ 9223372036854775807 → ∀ W, Calls Tryd.prog 67 #[stv t, .int .i64 n] W fun e w' => e = .returned (.tuple #[.string (strN (rdTake t n).1), stv (rdTake t n).2]) ∧ Below W.heap.size W w') := fun t n ht hn W => rftake_any t n W hn ht.1 ht.2.1
  have HN : Hid (∀ (t : St) (m : Nat), StI t → m < 18446744073709551616 → ∀ W, Calls Tryd.prog 68 #[stv t, .int .u64 (m : Int)] W fun e w' => e = .returned (.tuple #[.int .u64 ((rdCount t m).1 : Int), stv (rdCount t m).2]) ∧ Below W.heap.size W w') := fun t m ht hm W => rfnumber_any t m W ht hm
  have HI1 : Hid (StI (rbS1 xs)) := (take_inv (xs, 0) 80 hI).1
  have HI2 : Hid (StI (rbS2 xs)) := count_inv _ 32 HI1.out
  have HI4 : Hid (StI (rbSt xs)) := nxSts_inv _ _ HI2.out
  have HI0 := Lib.hid hI
  have HDT : Hid (rbSt xs = nxSts (rbN xs) (rbS2 xs)) := rfl
  have hn32 : rbN xs ≤ 32 := rdCount_le _ 32
  have HEN : Hid (∀ W, Calls Tryd.prog 57 #[.agg #[.string (strN (rbSt xs).1), .int .i64 (((rbSt xs).2 : Nat) : Int)]] W fun e w' => e = .returned (.int .i64 ((rdEnd (rbSt xs) : Nat) : Int)) ∧ Below W.heap.size W w') := fun W => rend7_any _ W HI4.out
  obtain ⟨E0, hE0⟩ : ∃ e, e = rdEnd (rbSt xs) := ⟨_, rfl⟩
  rw [← hE0] at HEN ⊢
  obtain ⟨S1, hS1⟩ : ∃ t, t = rbS1 xs := ⟨_, rfl⟩
  obtain ⟨S2, hS2⟩ : ∃ t, t = rbS2 xs := ⟨_, rfl⟩
  obtain ⟨S4, hS4⟩ : ∃ t, t = rbSt xs := ⟨_, rfl⟩
  obtain ⟨n, hn⟩ : ∃ t, t = rbN xs := ⟨_, rfl⟩
  obtain ⟨a1, ha1⟩ : ∃ a, a = strN (S1).1 := ⟨_, rfl⟩
  obtain ⟨c1, hc1⟩ : ∃ c : Int, c = (((S1).2 : Nat) : Int) := ⟨_, rfl⟩
  obtain ⟨a2, ha2⟩ : ∃ a, a = strN (S2).1 := ⟨_, rfl⟩
  obtain ⟨c2, hc2⟩ : ∃ c : Int, c = (((S2).2 : Nat) : Int) := ⟨_, rfl⟩
  obtain ⟨a4, ha4⟩ : ∃ a, a = strN (S4).1 := ⟨_, rfl⟩
  obtain ⟨c4, hc4⟩ : ∃ c : Int, c = (((S4).2 : Nat) : Int) := ⟨_, rfl⟩
  obtain ⟨u, hu⟩ : ∃ u, u = strN xs := ⟨_, rfl⟩
  obtain ⟨ln, hln⟩ : ∃ n, n = xs.length := ⟨_, rfl⟩
  have E1 : Hid (∀ W, Calls Tryd.prog 67 #[.agg #[.string u, .int .i64 0], .int .i64 80] W fun e w' => ∃ x, e = .returned (.tuple #[.string x, .agg #[.string a1, .int .i64 c1]]) ∧ Below W.heap.size W w') := fun W => by
    rw [hu, ha1, hc1, hS1]
    exact (HT.out (xs, 0) 80 HI0.out (by omega) W).mono (by rintro e w' ⟨rfl, hb⟩; exact ⟨_, rfl, hb⟩)
  have E2 : Hid (∀ W, Calls Tryd.prog 68 #[.agg #[.string a1, .int .i64 c1], .int .u64 32] W fun e w' => e = .returned (.tuple #[.int .u64 (n : Int), .agg #[.string a2, .int .i64 c2]]) ∧ Below W.heap.size W w') := fun W => by
    have h1 : rbN xs = (rdCount S1 32).1 := by rw [hS1]; rfl
    have h2 : rbS2 xs = (rdCount S1 32).2 := by rw [hS1]; rfl
    rw [ha1, hc1, ha2, hc2, hn, hS2, h1, h2]
    exact HN.out S1 32 (by rw [hS1]; exact HI1.out) (by omega) W
  rw [← hn] at hn32 HDT
  rw [← hS2] at HI2 HDT
  rw [← hS4] at HDT HEN
  rw [← ha4, ← hc4] at HEN
  rw [← hu] at hz ⊢
  rw [← hln] at hz h8
  have HA2 : Hid (a2 = strN S2.1 ∧ c2 = ((S2.2 : Nat) : Int)) := ⟨ha2, hc2⟩
  have HA4 : Hid (a4 = strN S4.1 ∧ c4 = ((S4.2 : Nat) : Int)) := ⟨ha4, hc4⟩
  have hwn := i64_nat n (by omega)
  have q1 : decide ((8192 : Int) < (ln : Int)) = false := decide_eq_false (by omega)
  clear ha1 hc1 ha2 hc2 ha4 hc4 hn hS1 hS2 hS4 hI hx hl hu hln e hE0 h8
  go_enter Tryd.func30, Tryd.ntmps30
  go_wp2_with fail
  refine (E1.out _).mono ?_
  rintro e w1 ⟨x1, rfl, hb⟩
  have HB := Lib.hid hb
  clear hb E1 q1 hz
  go_upto_region 4 with fail
  have hA6 : Below w1.heap.size w1 (w1.alloc (.cells #[.string a1, .int .i64 c1] 117)) := (Below.refl _ _).alloc (Nat.le_refl _) _
  refine wp_any (fun W => Below w.heap.size w W ∧ Bk W w1.heap.size 117 #[.string a1, .int .i64 c1]) ⟨below_step HB.out HB.out.size hA6, Bk.new _ _ _⟩ ?_
  have HLE : Hid (w.heap.size ≤ w1.heap.size) := HB.out.size
  clear hA6 HB
  generalize w1.heap.size = g1 at *
  rintro W ⟨hW, K1⟩
  have HW := Lib.hid hW
  clear hW
  have d0 := K1.cell 0
  have d1 := K1.cell 1
  have f0 := K1.frozen 0
  have f1 := K1.frozen 1
  have z1 := K1.lt
  go_wp2_with fail
  refine (E2.out _).mono ?_
  rintro e w1 ⟨rfl, hb⟩
  replace K1 := K1.keep hb
  replace HW := Lib.hid (below_step HW.out HW.out.size hb)
  clear hb E2
  clear d0 d1 f0 f1 z1
  have d0 := K1.cell 0
  have d1 := K1.cell 1
  have f0 := K1.frozen 0
  have f1 := K1.frozen 1
  have z1 := K1.lt
  go_upto_region 5 with fail
  refine wp_any (fun W => Below w.heap.size w W ∧ Bk W g1 117 #[.string a2, .int .i64 c2]) ⟨(HW.out.setCell HLE.out _).setCell HLE.out _, st_set2 K1 _ _⟩ ?_
  clear K1 HW
  clear d0 d1 f0 f1 z1
  rintro W ⟨hW, K1⟩
  have HW := Lib.hid hW
  clear hW
  have d0 := K1.cell 0
  have d1 := K1.cell 1
  have f0 := K1.frozen 0
  have f1 := K1.frozen 1
  have z1 := K1.lt
  go_wp2_with fail
  go_loopw [6] (fun i wr => ∃ (k : Nat) (a : ByteArray) (c : Int), k ≤ n ∧ i = .int .i64 k ∧ Hid (a = strN (nxSts k S2).1 ∧ c = (((nxSts k S2).2 : Nat) : Int)) ∧ Hid (Below w.heap.size w wr) ∧ Bk wr g1 117 #[.string a, .int .i64 c]) (fun i _ => n - (intOf i).toNat)
  case atStart => exact ⟨0, a2, c2, Nat.zero_le _, rfl, HA2.out, HW.out, K1⟩
  case round =>
    clear K1 HW
    clear d0 d1 f0 f1 z1
    obtain ⟨k, b0, e0, hk, rfl, HB, HW, K1⟩ := hrel
    by_cases hlt : k < n
    · have j1 : decide ((k : Int) < (n : Int)) = true := decide_eq_true (by omega)
      have TI := Lib.hid (nxSts_inv k S2 HI2.out)
      obtain ⟨t, ht⟩ : ∃ t, t = nxSts k S2 := ⟨_, rfl⟩
      rw [← ht] at TI HB
      have HNX : Hid (nxSts (k + 1) S2 = nxSt t) := by rw [ht]; rfl
      obtain ⟨b1, hb_1⟩ : ∃ a, a = strN (nxSt t).1 := ⟨_, rfl⟩
      obtain ⟨e1, he_1⟩ : ∃ c : Int, c = (((nxSt t).2 : Nat) : Int) := ⟨_, rfl⟩
      have F1 : Hid (∀ W, Calls Tryd.prog 58 #[.agg #[.string b0, .int .i64 e0]] W fun e w' => e = .returned (.agg #[.string b1, .int .i64 e1]) ∧ Below W.heap.size W w') := fun W => by
        rw [HB.out.1, HB.out.2, hb_1, he_1]
        exact rnext_any t W TI.out
      have HB4 : Hid (b1 = strN (nxSts (k + 1) S2).1 ∧ e1 = (((nxSts (k + 1) S2).2 : Nat) : Int)) := by rw [HNX.out]; exact ⟨hb_1, he_1⟩
      clear ht hb_1 he_1 TI HNX HB
      have d0 := K1.cell 0
      have d1 := K1.cell 1
      have f0 := K1.frozen 0
      have f1 := K1.frozen 1
      have z1 := K1.lt
      go_wp2_with fail
      refine (F1.out _).mono ?_
      rintro e w1 ⟨rfl, hb⟩
      replace K1 := K1.keep hb
      replace HW := Lib.hid (below_step HW.out HW.out.size hb)
      clear hb F1
      clear d0 d1 f0 f1 z1
      have d0 := K1.cell 0
      have d1 := K1.cell 1
      have f0 := K1.frozen 0
      have f1 := K1.frozen 1
      have z1 := K1.lt
      have HW5 := Lib.hid ((HW.out.setCell HLE.out (.string b1) (p := ⟨g1, 0, none⟩)).setCell HLE.out (.int .i64 e1) (p := ⟨g1, 1, none⟩))
      have K15 := st_set2 K1 (.string b1) (.int .i64 e1)
      clear K1 HW
      go_wp2_with fail
      go_roundw
      case rel => exact ⟨k + 1, b1, e1, by omega, by go_num, HB4.out, HW5.out, K15⟩
      case measure => simp [intOf]; omega
    · have hkn : k = n := by omega
      subst hkn
      have j1 : decide ((k : Int) < (k : Int)) = false := decide_eq_false (by omega)
      have j0 : decide (k < k) = false := decide_eq_false (by omega)
      have HBB : Hid (b0 = a4 ∧ e0 = c4) := by rw [HB.out.1, HB.out.2, HA4.out.1, HA4.out.2, HDT.out]; exact ⟨rfl, rfl⟩
      obtain ⟨q1, q2⟩ := HBB.out
      subst q1
      subst q2
      clear hlt HB HBB HA4
      have d0 := K1.cell 0
      have d1 := K1.cell 1
      have f0 := K1.frozen 0
      have f1 := K1.frozen 1
      have z1 := K1.lt
      go_wp2_with fail
      refine (HEN.out _).mono ?_
      rintro e w2 ⟨rfl, hb⟩
      go_wp2_with fail
      go_ret
      exact ⟨rfl, below_step HW.out HW.out.size hb⟩
end Go.Proofs.YtokiinpegclffaaDoor
