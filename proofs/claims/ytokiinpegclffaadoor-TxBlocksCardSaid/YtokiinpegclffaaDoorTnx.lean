/-
  The document's reading of transactions.
-/
import Derived.Test.YtokiinpegclffaaDoorTxZ
import Derived.Test.YtokiinpegclffaaDoorWfY
namespace Go.Proofs.YtokiinpegclffaaDoor
open Go.RowKit
set_option linter.unusedVariables false
set_option linter.unusedSimpArgs false
set_option maxRecDepth 100000

theorem st_ret1 {P : Func} {a : Act} {w W : World} {g nm : Nat} {A : Array Value} {B : Nat} (hA : A.size = 2) (hp : P.results = #[ResultVar.cell nm 117]) (hd : a.defers = []) (hv : a.tmps.getD nm undef = .pointer (some ⟨g, 0, none⟩))
    (hR : Bk W g 117 A) (hB : Below B w W) : bodyPost Tryd.prog P (fun e w' => e = .returned (.agg A) ∧ Below B w w') Exit.ret a W :=
  bodyPost_ret (results_cell_row hp _ _ g 117 A (0, 0) _ hv hR Tryd.underlying117 rfl (by rw [hA]; exact st_info)) hd ⟨rfl, hB⟩
theorem i64_nat (n : Nat) (h : n ≤ 1000) : IntKind.i64.wrap (n : Int) = (n : Int) := by
  simp [IntKind.wrap, IntKind.signed, IntKind.bits]
  omega
set_option maxHeartbeats 16000000 in
theorem rnext_any (s : St) (w : World) (hI : StI s) :
    Calls Tryd.prog 58 #[stv s] w fun e w' => e = .returned (stv (nxSt s)) ∧ Below w.heap.size w w' := by
  have HT : Hid (∀ (t : St) (n : Int), StI t → -9223372036854775808 ≤ n ∧ n ≤ 9223372036854775807 → ∀ W, Calls Tryd.prog 67 #[stv t, .int .i64 n] W fun e w' => e = .returned (.tuple #[.string (strN (rdTake t n).1), stv (rdTake t n).2]) ∧ Below W.heap.size W w') := fun t n ht hn W => rftake_any t n W hn ht.1 ht.2.1
  have HN : Hid (∀ (t : St) (m : Nat), StI t → m < 18446744073709551616 → ∀ W, Calls Tryd.prog 68 #[stv t, .int .u64 (m : Int)] W fun e w' => e = .returned (.tuple #[.int .u64 ((rdCount t m).1 : Int), stv (rdCount t m).2]) ∧ Below W.heap.size W w') := fun t m ht hm W => rfnumber_any t m W ht hm
  have HI0 := Lib.hid hI
  have HI1 := Lib.hid (nxS1_inv s hI)
  have HI2 := Lib.hid (nxS2_inv s hI)
  have HI3 := Lib.hid (nxS3_inv s hI)
  have HD2 : Hid (nxS2 s = inSts (nxN s) (nxS1 s)) := rfl
  have HDT : Hid (nxSt s = outSts (nxM s) (nxS3 s)) := rfl
  have hn32 := nxN_le s
  have hm32 := nxM_le s
  obtain ⟨S1, hS1⟩ : ∃ t, t = nxS1 s := ⟨_, rfl⟩
  obtain ⟨S2, hS2⟩ : ∃ t, t = nxS2 s := ⟨_, rfl⟩
  obtain ⟨S3, hS3⟩ : ∃ t, t = nxS3 s := ⟨_, rfl⟩
  obtain ⟨S4, hS4⟩ : ∃ t, t = nxSt s := ⟨_, rfl⟩
  obtain ⟨n, hn⟩ : ∃ t, t = nxN s := ⟨_, rfl⟩
  obtain ⟨m, hm⟩ : ∃ t, t = nxM s := ⟨_, rfl⟩
  obtain ⟨a0, ha0⟩ : ∃ a, a = strN (s).1 := ⟨_, rfl⟩
  obtain ⟨c0, hc0⟩ : ∃ c : Int, c = (((s).2 : Nat) : Int) := ⟨_, rfl⟩
  obtain ⟨a1, ha1⟩ : ∃ a, a = strN (S1).1 := ⟨_, rfl⟩
  obtain ⟨c1, hc1⟩ : ∃ c : Int, c = (((S1).2 : Nat) : Int) := ⟨_, rfl⟩
  obtain ⟨a2, ha2⟩ : ∃ a, a = strN (S2).1 := ⟨_, rfl⟩
  obtain ⟨c2, hc2⟩ : ∃ c : Int, c = (((S2).2 : Nat) : Int) := ⟨_, rfl⟩
  obtain ⟨a3, ha3⟩ : ∃ a, a = strN (S3).1 := ⟨_, rfl⟩
  obtain ⟨c3, hc3⟩ : ∃ c : Int, c = (((S3).2 : Nat) : Int) := ⟨_, rfl⟩
  obtain ⟨a4, ha4⟩ : ∃ a, a = strN (S4).1 := ⟨_, rfl⟩
  obtain ⟨c4, hc4⟩ : ∃ c : Int, c = (((S4).2 : Nat) : Int) := ⟨_, rfl⟩
  have E1 : Hid (∀ W, Calls Tryd.prog 68 #[.agg #[.string a0, .int .i64 c0], .int .u64 32] W fun e w' => e = .returned (.tuple #[.int .u64 (n : Int), .agg #[.string a1, .int .i64 c1]]) ∧ Below W.heap.size W w') := fun W => by
    rw [ha0, hc0, ha1, hc1, hn, hS1]
    exact HN.out s 32 HI0.out (by omega) W
  have E2 : Hid (∀ W, Calls Tryd.prog 68 #[.agg #[.string a2, .int .i64 c2], .int .u64 32] W fun e w' => e = .returned (.tuple #[.int .u64 (m : Int), .agg #[.string a3, .int .i64 c3]]) ∧ Below W.heap.size W w') := fun W => by
    have h1 : nxM s = (rdCount S2 32).1 := by rw [hS2]; rfl
    have h2 : nxS3 s = (rdCount S2 32).2 := by rw [hS2]; rfl
    rw [ha2, hc2, ha3, hc3, hm, hS3, h1, h2]
    exact HN.out S2 32 (by rw [hS2]; exact HI2.out) (by omega) W
  rw [← hn] at hn32 HD2
  rw [← hm] at hm32 HDT
  rw [← hS1] at HI1 HD2
  rw [← hS2] at HD2
  rw [← hS3] at HI3 HDT
  rw [← hS4] at HDT ⊢
  have HA1 : Hid (a1 = strN S1.1 ∧ c1 = ((S1.2 : Nat) : Int)) := ⟨ha1, hc1⟩
  have HA2 : Hid (a2 = strN S2.1 ∧ c2 = ((S2.2 : Nat) : Int)) := ⟨ha2, hc2⟩
  have HA3 : Hid (a3 = strN S3.1 ∧ c3 = ((S3.2 : Nat) : Int)) := ⟨ha3, hc3⟩
  have HA4 : Hid (a4 = strN S4.1 ∧ c4 = ((S4.2 : Nat) : Int)) := ⟨ha4, hc4⟩
  show Calls Tryd.prog _ #[.agg #[.string (strN s.1), .int .i64 ((s.2 : Nat) : Int)]] w fun e w' => e = .returned (.agg #[.string (strN S4.1), .int .i64 ((S4.2 : Nat) : Int)]) ∧ Below w.heap.size w w'
  rw [← ha0, ← hc0, ← ha4, ← hc4]
  have hwn := i64_nat n (by omega)
  have hwm := i64_nat m (by omega)
  have HWM := Lib.hid hwm
  clear ha0 hc0 ha1 hc1 ha2 hc2 ha3 hc3 ha4 hc4 hn hm hS1 hS2 hS3 hS4 hI hwm
  go_enter Tryd.func58, Tryd.ntmps58
  go_upto_region 1 with fail
  have hW0 : Below w.heap.size w ((w.alloc (.cells #[.string a0, .int .i64 c0] 117)).alloc (.cells #[.string ⟨#[]⟩, .int .i64 0] 117)) := ((Below.refl _ _).alloc (Nat.le_refl _) _).alloc (by simp) _
  refine wp_any (fun W => Below w.heap.size w W ∧ Bk W w.heap.size 117 #[.string a0, .int .i64 c0] ∧ Bk W (w.heap.size + 1) 117 #[.string ⟨#[]⟩, .int .i64 0]) ⟨hW0, (Bk.new _ _ _).alloc _, Bk.new' _ _ _ (by simp)⟩ ?_
  clear hW0
  obtain ⟨g1, hg1⟩ : ∃ g1, g1 = w.heap.size := ⟨_, rfl⟩
  have HLE : Hid (w.heap.size ≤ g1) := by show _ ≤ _; omega
  have HG := Lib.hid hg1
  rw [← hg1]
  obtain ⟨g2, hg2⟩ : ∃ g2, g2 = g1 + 1 := ⟨_, rfl⟩
  have HNE : Hid (g2 ≠ g1) := by show g2 ≠ g1; omega
  have HLE2 : Hid (w.heap.size ≤ g2) := by show _ ≤ _; omega
  rw [← hg2]
  clear hg1 hg2
  rintro W ⟨hW, K1, K2⟩
  have HW : Hid (Below w.heap.size w W) := by rw [← HG.out]; exact hW
  clear hW
  have d0 := K1.cell 0
  have d1 := K1.cell 1
  have f0 := K1.frozen 0
  have f1 := K1.frozen 1
  have z1 := K1.lt
  go_wp2_with fail
  refine (E1.out _).mono ?_
  rintro e w1 ⟨rfl, hb⟩
  replace K1 := K1.keep hb
  replace K2 := K2.keep hb
  replace HW := Lib.hid (below_step HW.out HW.out.size hb)
  clear hb E1
  clear d0 d1 f0 f1 z1
  have d0 := K1.cell 0
  have d1 := K1.cell 1
  have f0 := K1.frozen 0
  have f1 := K1.frozen 1
  have z1 := K1.lt
  go_upto_region 2 with fail
  refine wp_any (fun W => Below w.heap.size w W ∧ Bk W g1 117 #[.string a1, .int .i64 c1] ∧ Bk W g2 117 #[.string ⟨#[]⟩, .int .i64 0]) ⟨(HW.out.setCell HLE.out _).setCell HLE.out _, st_set2 K1 _ _, (K2.far HNE.out _).far HNE.out _⟩ ?_
  clear K1 K2 HW
  clear d0 d1 f0 f1 z1
  rintro W ⟨hW, K1, K2⟩
  have HW := Lib.hid hW
  clear hW
  have d0 := K1.cell 0
  have d1 := K1.cell 1
  have f0 := K1.frozen 0
  have f1 := K1.frozen 1
  have z1 := K1.lt
  go_wp2_with fail
  go_loopw [4] (fun i wr => ∃ (k : Nat) (a : ByteArray) (c : Int), k ≤ n ∧ i = .int .i64 k ∧ Hid (a = strN (inSts k S1).1 ∧ c = (((inSts k S1).2 : Nat) : Int)) ∧ Hid (Below w.heap.size w wr) ∧ Bk wr g1 117 #[.string a, .int .i64 c] ∧ Bk wr g2 117 #[.string ⟨#[]⟩, .int .i64 0]) (fun i _ => n - (intOf i).toNat)
  case atStart => exact ⟨0, a1, c1, Nat.zero_le _, rfl, HA1.out, HW.out, K1, K2⟩
  case round =>
    clear K1 K2 HW
    clear d0 d1 f0 f1 z1
    obtain ⟨k, b0, e0, hk, rfl, HB, HW, K1, K2⟩ := hrel
    by_cases hlt : k < n
    · have j1 : decide ((k : Int) < (n : Int)) = true := decide_eq_true (by omega)
      have TI := Lib.hid (inSts_inv k S1 HI1.out)
      obtain ⟨t, ht⟩ : ∃ t, t = inSts k S1 := ⟨_, rfl⟩
      rw [← ht] at TI HB
      have HNX : Hid (inSts (k + 1) S1 = inSt t) := by rw [ht]; rfl
      have TI1 := Lib.hid (inSt1_inv t TI.out)
      have TI2 := Lib.hid (inSt2_inv t TI.out)
      have TI3 := Lib.hid (count_inv (inSt2 t) 100 TI2.out)
      obtain ⟨q, hq⟩ : ∃ q, q = (rdCount (inSt2 t) 100).1 := ⟨_, rfl⟩
      have hq100 : q ≤ 100 := by rw [hq]; exact rdCount_le _ 100
      have hwq := i64_nat q (by omega)
      obtain ⟨b1, hb_1⟩ : ∃ a, a = strN (inSt1 t).1 := ⟨_, rfl⟩
      obtain ⟨e1, he_1⟩ : ∃ c : Int, c = (((inSt1 t).2 : Nat) : Int) := ⟨_, rfl⟩
      obtain ⟨b2, hb_2⟩ : ∃ a, a = strN (inSt2 t).1 := ⟨_, rfl⟩
      obtain ⟨e2, he_2⟩ : ∃ c : Int, c = (((inSt2 t).2 : Nat) : Int) := ⟨_, rfl⟩
      obtain ⟨b3, hb_3⟩ : ∃ a, a = strN ((rdCount (inSt2 t) 100).2).1 := ⟨_, rfl⟩
      obtain ⟨e3, he_3⟩ : ∃ c : Int, c = ((((rdCount (inSt2 t) 100).2).2 : Nat) : Int) := ⟨_, rfl⟩
      obtain ⟨b4, hb_4⟩ : ∃ a, a = strN (inSt t).1 := ⟨_, rfl⟩
      obtain ⟨e4, he_4⟩ : ∃ c : Int, c = (((inSt t).2 : Nat) : Int) := ⟨_, rfl⟩
      have F1 : Hid (∀ W, Calls Tryd.prog 67 #[.agg #[.string b0, .int .i64 e0], .int .i64 32] W fun e w' => ∃ x, e = .returned (.tuple #[.string x, .agg #[.string b1, .int .i64 e1]]) ∧ Below W.heap.size W w') := fun W => by
        rw [HB.out.1, HB.out.2, hb_1, he_1]
        exact (HT.out t 32 TI.out (by omega) W).mono (by rintro e w' ⟨rfl, hb⟩; exact ⟨_, rfl, hb⟩)
      have F2 : Hid (∀ W, Calls Tryd.prog 67 #[.agg #[.string b1, .int .i64 e1], .int .i64 4] W fun e w' => ∃ x, e = .returned (.tuple #[.string x, .agg #[.string b2, .int .i64 e2]]) ∧ Below W.heap.size W w') := fun W => by
        rw [hb_1, he_1, hb_2, he_2]
        exact (HT.out (inSt1 t) 4 TI1.out (by omega) W).mono (by rintro e w' ⟨rfl, hb⟩; exact ⟨_, rfl, hb⟩)
      have F3 : Hid (∀ W, Calls Tryd.prog 68 #[.agg #[.string b2, .int .i64 e2], .int .u64 100] W fun e w' => e = .returned (.tuple #[.int .u64 (q : Int), .agg #[.string b3, .int .i64 e3]]) ∧ Below W.heap.size W w') := fun W => by
        rw [hb_2, he_2, hb_3, he_3, hq]
        exact HN.out (inSt2 t) 100 TI2.out (by omega) W
      have F4 : Hid (∀ W, Calls Tryd.prog 67 #[.agg #[.string b3, .int .i64 e3], .int .i64 (q : Int)] W fun e w' => ∃ x, e = .returned (.tuple #[.string x, .agg #[.string b4, .int .i64 e4]]) ∧ Below W.heap.size W w') := fun W => by
        have h4 : inSt t = (rdTake (rdCount (inSt2 t) 100).2 (q : Int)).2 := by rw [hq]; rfl
        rw [hb_3, he_3, hb_4, he_4, h4]
        exact (HT.out (rdCount (inSt2 t) 100).2 q TI3.out (by omega) W).mono (by rintro e w' ⟨rfl, hb⟩; exact ⟨_, rfl, hb⟩)
      have HB4 : Hid (b4 = strN (inSts (k + 1) S1).1 ∧ e4 = (((inSts (k + 1) S1).2 : Nat) : Int)) := by rw [HNX.out]; exact ⟨hb_4, he_4⟩
      clear ht hq hb_1 he_1 hb_2 he_2 hb_3 he_3 hb_4 he_4 TI TI1 TI2 TI3 HNX HB
      have d0 := K1.cell 0
      have d1 := K1.cell 1
      have f0 := K1.frozen 0
      have f1 := K1.frozen 1
      have z1 := K1.lt
      go_wp2_with fail
      refine (F1.out _).mono ?_
      rintro e w1 ⟨x1, rfl, hb⟩
      replace K1 := K1.keep hb
      replace K2 := K2.keep hb
      replace HW := Lib.hid (below_step HW.out HW.out.size hb)
      clear hb F1
      clear d0 d1 f0 f1 z1
      have d0 := K1.cell 0
      have d1 := K1.cell 1
      have f0 := K1.frozen 0
      have f1 := K1.frozen 1
      have z1 := K1.lt
      go_upto_region 6 with fail
      refine wp_any (fun W => Below w.heap.size w W ∧ Bk W g1 117 #[.string b1, .int .i64 e1] ∧ Bk W g2 117 #[.string ⟨#[]⟩, .int .i64 0]) ⟨(HW.out.setCell HLE.out _).setCell HLE.out _, st_set2 K1 _ _, (K2.far HNE.out _).far HNE.out _⟩ ?_
      clear K1 K2 HW
      clear d0 d1 f0 f1 z1
      rintro W ⟨hW, K1, K2⟩
      have HW := Lib.hid hW
      clear hW
      have d0 := K1.cell 0
      have d1 := K1.cell 1
      have f0 := K1.frozen 0
      have f1 := K1.frozen 1
      have z1 := K1.lt
      go_wp2_with fail
      refine (F2.out _).mono ?_
      rintro e w1 ⟨x1, rfl, hb⟩
      replace K1 := K1.keep hb
      replace K2 := K2.keep hb
      replace HW := Lib.hid (below_step HW.out HW.out.size hb)
      clear hb F2
      clear d0 d1 f0 f1 z1
      have d0 := K1.cell 0
      have d1 := K1.cell 1
      have f0 := K1.frozen 0
      have f1 := K1.frozen 1
      have z1 := K1.lt
      go_upto_region 7 with fail
      refine wp_any (fun W => Below w.heap.size w W ∧ Bk W g1 117 #[.string b2, .int .i64 e2] ∧ Bk W g2 117 #[.string ⟨#[]⟩, .int .i64 0]) ⟨(HW.out.setCell HLE.out _).setCell HLE.out _, st_set2 K1 _ _, (K2.far HNE.out _).far HNE.out _⟩ ?_
      clear K1 K2 HW
      clear d0 d1 f0 f1 z1
      rintro W ⟨hW, K1, K2⟩
      have HW := Lib.hid hW
      clear hW
      have d0 := K1.cell 0
      have d1 := K1.cell 1
      have f0 := K1.frozen 0
      have f1 := K1.frozen 1
      have z1 := K1.lt
      go_wp2_with fail
      refine (F3.out _).mono ?_
      rintro e w1 ⟨rfl, hb⟩
      replace K1 := K1.keep hb
      replace K2 := K2.keep hb
      replace HW := Lib.hid (below_step HW.out HW.out.size hb)
      clear hb F3
      clear d0 d1 f0 f1 z1
      have d0 := K1.cell 0
      have d1 := K1.cell 1
      have f0 := K1.frozen 0
      have f1 := K1.frozen 1
      have z1 := K1.lt
      go_upto_region 8 with fail
      have hA6 : Below w1.heap.size w1 (w1.alloc (.cells #[.string b3, .int .i64 e3] 117)) := (Below.refl _ _).alloc (Nat.le_refl _) _
      refine wp_any (fun W => Below w.heap.size w W ∧ Bk W g1 117 #[.string b2, .int .i64 e2] ∧ Bk W g2 117 #[.string ⟨#[]⟩, .int .i64 0] ∧ Bk W w1.heap.size 117 #[.string b3, .int .i64 e3]) ⟨below_step HW.out HW.out.size hA6, K1.keep hA6, K2.keep hA6, Bk.new _ _ _⟩ ?_
      clear K1 K2 HW hA6
      clear d0 d1 f0 f1 z1
      generalize w1.heap.size = g6 at *
      rintro W ⟨hW, K1, K2, K6⟩
      have HW := Lib.hid hW
      clear hW
      have d0 := K1.cell 0
      have d1 := K1.cell 1
      have f0 := K1.frozen 0
      have f1 := K1.frozen 1
      have z1 := K1.lt
      have p0 := K6.cell 0
      have p1 := K6.cell 1
      have y6 := K6.lt
      clear K6
      go_wp2_with fail
      refine (F4.out _).mono ?_
      rintro e w2 ⟨x2, rfl, hb⟩
      replace K1 := K1.keep hb
      replace K2 := K2.keep hb
      replace HW := Lib.hid (below_step HW.out HW.out.size hb)
      clear hb F4 p0 p1 y6
      clear d0 d1 f0 f1 z1
      have d0 := K1.cell 0
      have d1 := K1.cell 1
      have f0 := K1.frozen 0
      have f1 := K1.frozen 1
      have z1 := K1.lt
      have hW5 := (HW.out.setCell HLE.out (.string b4) (p := ⟨g1, 0, none⟩)).setCell HLE.out (.int .i64 e4) (p := ⟨g1, 1, none⟩)
      have HW5 := Lib.hid hW5
      have K15 := st_set2 K1 (.string b4) (.int .i64 e4)
      have K25 := (K2.far HNE.out (.string b4) (p := ⟨g1, 0, none⟩)).far HNE.out (.int .i64 e4) (p := ⟨g1, 1, none⟩)
      clear hW5 K1 K2 HW
      go_wp2_with fail
      go_roundw
      case rel => exact ⟨k + 1, b4, e4, by omega, by go_num, HB4.out, HW5.out, K15, K25⟩
      case measure => simp [intOf]; omega
    · have hkn : k = n := by omega
      subst hkn
      have j1 : decide ((k : Int) < (k : Int)) = false := decide_eq_false (by omega)
      have j0 : decide (k < k) = false := decide_eq_false (by omega)
      have HBB : Hid (b0 = a2 ∧ e0 = c2) := by rw [HB.out.1, HB.out.2, HA2.out.1, HA2.out.2, HD2.out]; exact ⟨rfl, rfl⟩
      obtain ⟨q1, q2⟩ := HBB.out
      subst q1
      subst q2
      clear hlt HB HBB HA2
      have d0 := K1.cell 0
      have d1 := K1.cell 1
      have f0 := K1.frozen 0
      have f1 := K1.frozen 1
      have z1 := K1.lt
      go_wp2_with fail
      refine (E2.out _).mono ?_
      rintro e w1 ⟨rfl, hb⟩
      replace K1 := K1.keep hb
      replace K2 := K2.keep hb
      replace HW := Lib.hid (below_step HW.out HW.out.size hb)
      clear hb E2
      clear d0 d1 f0 f1 z1
      have d0 := K1.cell 0
      have d1 := K1.cell 1
      have f0 := K1.frozen 0
      have f1 := K1.frozen 1
      have z1 := K1.lt
      go_upto_region 10 with fail
      refine wp_any (fun W => Below w.heap.size w W ∧ Bk W g1 117 #[.string a3, .int .i64 c3] ∧ Bk W g2 117 #[.string ⟨#[]⟩, .int .i64 0]) ⟨(HW.out.setCell HLE.out _).setCell HLE.out _, st_set2 K1 _ _, (K2.far HNE.out _).far HNE.out _⟩ ?_
      clear K1 K2 HW
      clear d0 d1 f0 f1 z1
      rintro W ⟨hW, K1, K2⟩
      have HW := Lib.hid hW
      clear hW
      have d0 := K1.cell 0
      have d1 := K1.cell 1
      have f0 := K1.frozen 0
      have f1 := K1.frozen 1
      have z1 := K1.lt
      clear j1 j0 hwn
      have hwm := HWM.out
      go_wp2_with fail
      go_loopw [7] (fun i wr => ∃ (k : Nat) (a : ByteArray) (c : Int), k ≤ m ∧ i = .int .i64 k ∧ Hid (a = strN (outSts k S3).1 ∧ c = (((outSts k S3).2 : Nat) : Int)) ∧ Hid (Below w.heap.size w wr) ∧ Bk wr g1 117 #[.string a, .int .i64 c] ∧ Bk wr g2 117 #[.string ⟨#[]⟩, .int .i64 0]) (fun i _ => m - (intOf i).toNat)
      case atStart => exact ⟨0, a3, c3, Nat.zero_le _, rfl, HA3.out, HW.out, K1, K2⟩
      case round =>
        clear K1 K2 HW
        clear d0 d1 f0 f1 z1
        obtain ⟨k2, b0, e0, hk2, rfl, HB, HW, K1, K2⟩ := hrel
        by_cases hlt : k2 < m
        · have j1 : decide ((k2 : Int) < (m : Int)) = true := decide_eq_true (by omega)
          have TI := Lib.hid (outSts_inv k2 S3 HI3.out)
          obtain ⟨t, ht⟩ : ∃ t, t = outSts k2 S3 := ⟨_, rfl⟩
          rw [← ht] at TI HB
          have HNX : Hid (outSts (k2 + 1) S3 = outSt t) := by rw [ht]; rfl
          have TI1 := Lib.hid (outSt1_inv t TI.out)
          obtain ⟨b1, hb_1⟩ : ∃ a, a = strN (outSt1 t).1 := ⟨_, rfl⟩
          obtain ⟨e1, he_1⟩ : ∃ c : Int, c = (((outSt1 t).2 : Nat) : Int) := ⟨_, rfl⟩
          obtain ⟨b2, hb_2⟩ : ∃ a, a = strN (outSt t).1 := ⟨_, rfl⟩
          obtain ⟨e2, he_2⟩ : ∃ c : Int, c = (((outSt t).2 : Nat) : Int) := ⟨_, rfl⟩
          have F1 : Hid (∀ W, Calls Tryd.prog 67 #[.agg #[.string b0, .int .i64 e0], .int .i64 8] W fun e w' => ∃ x, e = .returned (.tuple #[.string x, .agg #[.string b1, .int .i64 e1]]) ∧ Below W.heap.size W w') := fun W => by
            rw [HB.out.1, HB.out.2, hb_1, he_1]
            exact (HT.out t 8 TI.out (by omega) W).mono (by rintro e w' ⟨rfl, hb⟩; exact ⟨_, rfl, hb⟩)
          have F2 : Hid (∀ W, Calls Tryd.prog 67 #[.agg #[.string b1, .int .i64 e1], .int .i64 32] W fun e w' => ∃ x, e = .returned (.tuple #[.string x, .agg #[.string b2, .int .i64 e2]]) ∧ Below W.heap.size W w') := fun W => by
            rw [hb_1, he_1, hb_2, he_2]
            exact (HT.out (outSt1 t) 32 TI1.out (by omega) W).mono (by rintro e w' ⟨rfl, hb⟩; exact ⟨_, rfl, hb⟩)
          have HB4 : Hid (b2 = strN (outSts (k2 + 1) S3).1 ∧ e2 = (((outSts (k2 + 1) S3).2 : Nat) : Int)) := by rw [HNX.out]; exact ⟨hb_2, he_2⟩
          clear ht hb_1 he_1 hb_2 he_2 TI TI1 HNX HB
          have d0 := K1.cell 0
          have d1 := K1.cell 1
          have f0 := K1.frozen 0
          have f1 := K1.frozen 1
          have z1 := K1.lt
          go_wp2_with fail
          refine (F1.out _).mono ?_
          rintro e w1 ⟨x1, rfl, hb⟩
          replace K1 := K1.keep hb
          replace K2 := K2.keep hb
          replace HW := Lib.hid (below_step HW.out HW.out.size hb)
          clear hb F1
          clear d0 d1 f0 f1 z1
          have d0 := K1.cell 0
          have d1 := K1.cell 1
          have f0 := K1.frozen 0
          have f1 := K1.frozen 1
          have z1 := K1.lt
          go_upto_region 14 with fail
          refine wp_any (fun W => Below w.heap.size w W ∧ Bk W g1 117 #[.string b1, .int .i64 e1] ∧ Bk W g2 117 #[.string ⟨#[]⟩, .int .i64 0]) ⟨(HW.out.setCell HLE.out _).setCell HLE.out _, st_set2 K1 _ _, (K2.far HNE.out _).far HNE.out _⟩ ?_
          clear K1 K2 HW
          clear d0 d1 f0 f1 z1
          rintro W ⟨hW, K1, K2⟩
          have HW := Lib.hid hW
          clear hW
          have d0 := K1.cell 0
          have d1 := K1.cell 1
          have f0 := K1.frozen 0
          have f1 := K1.frozen 1
          have z1 := K1.lt
          go_wp2_with fail
          refine (F2.out _).mono ?_
          rintro e w1 ⟨x1, rfl, hb⟩
          replace K1 := K1.keep hb
          replace K2 := K2.keep hb
          replace HW := Lib.hid (below_step HW.out HW.out.size hb)
          clear hb F2
          clear d0 d1 f0 f1 z1
          have d0 := K1.cell 0
          have d1 := K1.cell 1
          have f0 := K1.frozen 0
          have f1 := K1.frozen 1
          have z1 := K1.lt
          have hW5 := (HW.out.setCell HLE.out (.string b2) (p := ⟨g1, 0, none⟩)).setCell HLE.out (.int .i64 e2) (p := ⟨g1, 1, none⟩)
          have HW5 := Lib.hid hW5
          have K15 := st_set2 K1 (.string b2) (.int .i64 e2)
          have K25 := (K2.far HNE.out (.string b2) (p := ⟨g1, 0, none⟩)).far HNE.out (.int .i64 e2) (p := ⟨g1, 1, none⟩)
          clear hW5 K1 K2 HW
          go_wp2_with fail
          go_roundw
          case rel => exact ⟨k2 + 1, b2, e2, by omega, by go_num, HB4.out, HW5.out, K15, K25⟩
          case measure => simp [intOf]; omega
        · have hkn : k2 = m := by omega
          subst hkn
          have j1 : decide ((k2 : Int) < (k2 : Int)) = false := decide_eq_false (by omega)
          have j0 : decide (k2 < k2) = false := decide_eq_false (by omega)
          have HBB : Hid (b0 = a4 ∧ e0 = c4) := by rw [HB.out.1, HB.out.2, HA4.out.1, HA4.out.2, HDT.out]; exact ⟨rfl, rfl⟩
          obtain ⟨q1, q2⟩ := HBB.out
          subst q1
          subst q2
          clear hlt HB HBB HA4
          have d0 := K1.cell 0
          have d1 := K1.cell 1
          have f0 := K1.frozen 0
          have f1 := K1.frozen 1
          have z1 := K1.lt
          have p0 := K2.cell 0
          have p1 := K2.cell 1
          have r0 := K2.frozen 0
          have r1 := K2.frozen 1
          have y1 := K2.lt
          have HW5 := Lib.hid ((HW.out.setCell HLE2.out (.string b0) (p := ⟨g2, 0, none⟩)).setCell HLE2.out (.int .i64 e0) (p := ⟨g2, 1, none⟩))
          have K25 := st_set2 K2 (.string b0) (.int .i64 e0)
          clear K1 K2 HW
          go_wp2_with fail
          exact st_ret1 (g := g2) rfl rfl rfl rfl K25 HW5.out
end Go.Proofs.YtokiinpegclffaaDoor
