/-
  The contract of the document's own Next.
-/
import Derived.Test.YtkkkfcdoilojmaaRcD
namespace Go.Proofs.Ytkkkfcdoilojmaa
open Go.RowKit
set_option linter.unusedVariables false

def nextQ (t c s : Nat) : Nat := if M256 ≤ t * c then t / s * c else t * c / s
def nextV (t c s l : Nat) : Nat := if l < nextQ t c s then l else nextQ t c s
set_option maxRecDepth 100000 in
set_option maxHeartbeats 2000000 in
theorem next3_bad (b t : Nat) (tk sh : Int) (o : Bool) (v : Value) (l : Nat) (w : World) (hl : BX w v l 256) (h : o = false ∨ o = true ∧ sh < 1 ∨ o = true ∧ ¬ sh < 1 ∧ 1099511627776 < sh)
    (HT : Hid (∀ W : World, Calls Try.prog 18 #[.int .u32 (b : Int)] W fun e w' => ∃ v L, e = .returned (.tuple #[v, .bool o]) ∧ L ≤ 2300 ∧ BX w' v t L ∧ Below W.heap.size W w')) :
    Calls Try.prog 29 #[.int .u32 (b : Int), .int .i64 tk, .int .i64 sh, v] w fun e w' => e = .returned (.tuple #[.int .u32 0, .bool false]) ∧ Below w.heap.size w w' := by
  obtain ⟨s0, c0, rfl, _⟩ := hl.slice
  clear hl
  rcases h with rfl | ⟨rfl, h⟩ | ⟨rfl, h1, h⟩
  all_goals
    try have hd1 : decide (sh < 1) = true := decide_eq_true (by assumption)
    try have hd1 : decide (sh < 1) = false := decide_eq_false (by assumption)
    try have hd2 : decide (1099511627776 < sh) = true := decide_eq_true (by assumption)
    go_enter Try.func29, Try.ntmps29
    go_wp2_with fail
    refine (HT.out _).mono ?_
    rintro e w1 ⟨v1, L1, rfl, _, B1, hb1⟩
    obtain ⟨s1, c1, rfl, _⟩ := B1.slice
    clear B1
    go_wp2_with fail
    exact bodyPost_ret (results_tmp2 rfl _ _ _) rfl ⟨rfl, hb1⟩
set_option maxRecDepth 100000 in
set_option maxHeartbeats 4000000 in
theorem next3_lo_no (b s c t q r l : Nat) (tk : Int) (s0 : Option Addr) (c0 : Nat) (w : World) (HB : Hid (BX w (.slice s0 256 c0) l 256)) (h1 : 1 ≤ s) (h2 : s ≤ 1099511627776) (hcb : c ≤ 4398046511104) (h0 : -9223372036854775808 ≤ tk) (h3 : tk ≤ 9223372036854775807)
    (hlo : tk < ((s : Int) / 4)) (hc : ((s : Int) / 4) = (c : Int)) (hr : r = if l < q then shortN l else shortN q) (hlM : l < M256)
    (hx : ¬ 256 < lg (t * c)) (hq : t * c / s = q)
    (HT : Hid (∀ W : World, Calls Try.prog 18 #[.int .u32 (b : Int)] W fun e w' => ∃ v L, e = .returned (.tuple #[v, .bool true]) ∧ L ≤ 2300 ∧ BX w' v t L ∧ Below W.heap.size W w'))
    (HC : Hid (∀ W : World, Calls Try.prog 41 #[.int .u64 (c : Int)] W fun e w' => ∃ v, e = .returned v ∧ BX w' v c 256 ∧ Below W.heap.size W w'))
    (HS : Hid (∀ W : World, Calls Try.prog 41 #[.int .u64 (s : Int)] W fun e w' => ∃ v, e = .returned v ∧ BX w' v s 256 ∧ Below W.heap.size W w'))
    (HM : Hid (∀ (u v : Value) (X L : Nat) (W : World), L ≤ 5000 → BX W u X L → BX W v c 256 → Calls Try.prog 10 #[u, v] W fun e w' => ∃ v' L', e = .returned v' ∧ L' ≤ L + 256 ∧ BX w' v' (X * c) L' ∧ Below W.heap.size W w'))
    (HD : Hid (∀ (u v : Value) (X L : Nat) (W : World), L ≤ 5000 → BX W u X L → BX W v s 256 → Calls Try.prog 15 #[u, v] W fun e w' => ∃ q l L', e = .returned (.tuple #[q, l]) ∧ L' ≤ 256 + L ∧ BX w' q (X / s) L ∧ BX w' l (X % s) L' ∧ Below W.heap.size W w'))
    (HL : Hid (∀ (v : Value) (X L : Nat) (W : World), L ≤ 9000 → BX W v X L → Calls Try.prog 42 #[v] W fun e w' => e = .returned (.int .i64 (lg X : Int)) ∧ w' = W))
    (HLE : Hid (∀ (v : Value) (L : Nat) (W : World), L ≤ 9000 → BX W v q L → BX W (.slice s0 256 c0) l 256 → Calls Try.prog 38 #[.slice s0 256 c0, v] W fun e w' => e = .returned (.bool (decide (l < q))) ∧ w' = W))
    (HSL : Hid (∀ (W : World), BX W (.slice s0 256 c0) l 256 → Calls Try.prog 23 #[.slice s0 256 c0] W fun e w' => e = .returned (.int .u32 (shortN l : Int)) ∧ Below W.heap.size W w'))
    (HSQ : Hid (∀ (v : Value) (L : Nat) (W : World), q < M256 → L ≤ 9000 → BX W v q L → Calls Try.prog 23 #[v] W fun e w' => e = .returned (.int .u32 (shortN q : Int)) ∧ Below W.heap.size W w'))
    : Calls Try.prog 29 #[.int .u32 (b : Int), .int .i64 tk, .int .i64 (s : Int), .slice s0 256 c0] w fun e w' => e = .returned (.tuple #[.int .u32 (r : Int), .bool true]) ∧ Below w.heap.size w w' := by
  have hd1 : decide ((s : Int) < 1) = false := decide_eq_false (by omega)
  have hd2 : decide ((1099511627776 : Int) < (s : Int)) = false := decide_eq_false (by omega)
  have hd3 : decide (tk < (c : Int)) = true := decide_eq_true (by omega)
  have hd4 : decide (4 * (s : Int) < (c : Int)) = false := decide_eq_false (by omega)
  have hdx : decide (256 < (lg (t * c) : Int)) = false := decide_eq_false (by omega)
  have hqM : (256 < lg q) ↔ ¬ q < M256 := by rw [← lg_256 q]; omega
  by_cases hl : l < q
  · have hless : decide (l < q) = true := decide_eq_true hl
    rw [if_pos hl] at hr
    subst hr
    by_cases hb : 256 < lg q
    · have hdq : decide (256 < (lg q : Int)) = true := decide_eq_true (by omega)
      clear hqM hx hlM hb hl
      go_enter Try.func29, Try.ntmps29
      go_wp2_with fail
      refine (HT.out _).mono ?_
      rintro e w1 ⟨v1, L1, rfl, hL1, T, hb1⟩
      have hL1 := Lib.hid hL1
      obtain ⟨s1, c1, rfl, _⟩ := T.slice
      have T := Lib.hid T
      have hW := Lib.hid hb1
      clear hb1
      go_wp2_with fail
      refine (HC.out _).mono ?_
      rintro e w2 ⟨v2, rfl, C, hb⟩
      have T := Lib.hid (T.out.keep hb)
      have HM1 := Lib.hid (HM.out _ _ _ _ w2 (by have := hL1.out; omega) T.out C)
      obtain ⟨s2, c2, rfl, _⟩ := C.slice
      have hW := Lib.hid (hW.out.trans (hb.mono hW.out.size))
      clear hb C
      go_wp2_with fail
      refine HM1.out.mono ?_
      rintro e w3 ⟨v3, L3, rfl, hL3, X, hb⟩
      have hL3 : Hid (L3 ≤ 2600) := by have := hL1.out; show _ ≤ _; omega
      have T := Lib.hid (T.out.keep hb)
      obtain ⟨s3, c3, rfl, _⟩ := X.slice
      have X := Lib.hid X
      have hW := Lib.hid (hW.out.trans (hb.mono hW.out.size))
      clear hb HM1
      go_wp2_with fail
      refine (HS.out _).mono ?_
      rintro e w4 ⟨v4, rfl, S, hb⟩
      have T := Lib.hid (T.out.keep hb)
      have X := Lib.hid (X.out.keep hb)
      have HD1 := Lib.hid (HD.out _ _ _ _ w4 (by have := hL3.out; omega) X.out S)
      obtain ⟨s4, c4, rfl, _⟩ := S.slice
      have hW := Lib.hid (hW.out.trans (hb.mono hW.out.size))
      clear hb S
      go_wp2_with fail
      refine HD1.out.mono ?_
      rintro e w5 ⟨v5, v5', L5, rfl, _, Q, R, hb⟩
      have T := Lib.hid (T.out.keep hb)
      have X := Lib.hid (X.out.keep hb)
      have HL1 := Lib.hid (HL.out _ _ _ w5 (by have := hL3.out; omega) X.out)
      obtain ⟨s5, c5, rfl, _⟩ := Q.slice
      obtain ⟨s5', c5', rfl, _⟩ := R.slice
      have Q := Lib.hid Q
      have hW := Lib.hid (hW.out.trans (hb.mono hW.out.size))
      clear hb R HD1 X
      go_wp2_with fail
      refine HL1.out.mono ?_
      rintro e w6 ⟨rfl, h6⟩
      subst h6
      clear HL1
      rw [hq] at Q
      have HL1 := Lib.hid (HL.out _ _ _ w6 (by have := hL3.out; omega) Q.out)
      have HLE1 := Lib.hid (HLE.out _ _ w6 (by have := hL3.out; omega) Q.out)
      have HSQ1 := Lib.hid (fun h => HSQ.out _ _ w6 h (by have := hL3.out; omega) Q.out)
      clear T Q
      go_wp2_with fail
      refine HL1.out.mono ?_
      rintro e w11 ⟨rfl, h11⟩
      subst h11
      clear HL1
      have HSL1 := Lib.hid (HSL.out _ (HB.out.keep hW.out))
      go_wp2_with fail
      refine HSL1.out.mono ?_
      rintro e w12 ⟨rfl, hb⟩
      have hW := hW.out.trans (hb.mono hW.out.size)
      go_wp2_with fail
      exact bodyPost_ret (results_tmp2 rfl _ _ _) rfl ⟨rfl, hW⟩
    · have hdq : decide (256 < (lg q : Int)) = false := decide_eq_false (by omega)
      clear hqM hx hlM hb hl
      go_enter Try.func29, Try.ntmps29
      go_wp2_with fail
      refine (HT.out _).mono ?_
      rintro e w1 ⟨v1, L1, rfl, hL1, T, hb1⟩
      have hL1 := Lib.hid hL1
      obtain ⟨s1, c1, rfl, _⟩ := T.slice
      have T := Lib.hid T
      have hW := Lib.hid hb1
      clear hb1
      go_wp2_with fail
      refine (HC.out _).mono ?_
      rintro e w2 ⟨v2, rfl, C, hb⟩
      have T := Lib.hid (T.out.keep hb)
      have HM1 := Lib.hid (HM.out _ _ _ _ w2 (by have := hL1.out; omega) T.out C)
      obtain ⟨s2, c2, rfl, _⟩ := C.slice
      have hW := Lib.hid (hW.out.trans (hb.mono hW.out.size))
      clear hb C
      go_wp2_with fail
      refine HM1.out.mono ?_
      rintro e w3 ⟨v3, L3, rfl, hL3, X, hb⟩
      have hL3 : Hid (L3 ≤ 2600) := by have := hL1.out; show _ ≤ _; omega
      have T := Lib.hid (T.out.keep hb)
      obtain ⟨s3, c3, rfl, _⟩ := X.slice
      have X := Lib.hid X
      have hW := Lib.hid (hW.out.trans (hb.mono hW.out.size))
      clear hb HM1
      go_wp2_with fail
      refine (HS.out _).mono ?_
      rintro e w4 ⟨v4, rfl, S, hb⟩
      have T := Lib.hid (T.out.keep hb)
      have X := Lib.hid (X.out.keep hb)
      have HD1 := Lib.hid (HD.out _ _ _ _ w4 (by have := hL3.out; omega) X.out S)
      obtain ⟨s4, c4, rfl, _⟩ := S.slice
      have hW := Lib.hid (hW.out.trans (hb.mono hW.out.size))
      clear hb S
      go_wp2_with fail
      refine HD1.out.mono ?_
      rintro e w5 ⟨v5, v5', L5, rfl, _, Q, R, hb⟩
      have T := Lib.hid (T.out.keep hb)
      have X := Lib.hid (X.out.keep hb)
      have HL1 := Lib.hid (HL.out _ _ _ w5 (by have := hL3.out; omega) X.out)
      obtain ⟨s5, c5, rfl, _⟩ := Q.slice
      obtain ⟨s5', c5', rfl, _⟩ := R.slice
      have Q := Lib.hid Q
      have hW := Lib.hid (hW.out.trans (hb.mono hW.out.size))
      clear hb R HD1 X
      go_wp2_with fail
      refine HL1.out.mono ?_
      rintro e w6 ⟨rfl, h6⟩
      subst h6
      clear HL1
      rw [hq] at Q
      have HL1 := Lib.hid (HL.out _ _ _ w6 (by have := hL3.out; omega) Q.out)
      have HLE1 := Lib.hid (HLE.out _ _ w6 (by have := hL3.out; omega) Q.out)
      have HSQ1 := Lib.hid (fun h => HSQ.out _ _ w6 h (by have := hL3.out; omega) Q.out)
      clear T Q
      go_wp2_with fail
      refine HL1.out.mono ?_
      rintro e w11 ⟨rfl, h11⟩
      subst h11
      clear HL1
      have HLE2 := Lib.hid (HLE1.out (HB.out.keep hW.out))
      have HSL1 := Lib.hid (HSL.out _ (HB.out.keep hW.out))
      rw [hless] at HLE2
      go_wp2_with fail
      refine HLE2.out.mono ?_
      rintro e w12 ⟨rfl, h12⟩
      subst h12
      clear HLE2
      go_wp2_with fail
      refine HSL1.out.mono ?_
      rintro e w13 ⟨rfl, hb⟩
      have hW := hW.out.trans (hb.mono hW.out.size)
      go_wp2_with fail
      exact bodyPost_ret (results_tmp2 rfl _ _ _) rfl ⟨rfl, hW⟩
  · have hless : decide (l < q) = false := decide_eq_false hl
    rw [if_neg hl] at hr
    subst hr
    have hqm : q < M256 := by omega
    have hdq : decide (256 < (lg q : Int)) = false := decide_eq_false (by have := mt hqM.1 (fun h => h hqm); omega)
    have HQM := Lib.hid hqm
    clear hqM hx hlM hl hqm
    go_enter Try.func29, Try.ntmps29
    go_wp2_with fail
    refine (HT.out _).mono ?_
    rintro e w1 ⟨v1, L1, rfl, hL1, T, hb1⟩
    have hL1 := Lib.hid hL1
    obtain ⟨s1, c1, rfl, _⟩ := T.slice
    have T := Lib.hid T
    have hW := Lib.hid hb1
    clear hb1
    go_wp2_with fail
    refine (HC.out _).mono ?_
    rintro e w2 ⟨v2, rfl, C, hb⟩
    have T := Lib.hid (T.out.keep hb)
    have HM1 := Lib.hid (HM.out _ _ _ _ w2 (by have := hL1.out; omega) T.out C)
    obtain ⟨s2, c2, rfl, _⟩ := C.slice
    have hW := Lib.hid (hW.out.trans (hb.mono hW.out.size))
    clear hb C
    go_wp2_with fail
    refine HM1.out.mono ?_
    rintro e w3 ⟨v3, L3, rfl, hL3, X, hb⟩
    have hL3 : Hid (L3 ≤ 2600) := by have := hL1.out; show _ ≤ _; omega
    have T := Lib.hid (T.out.keep hb)
    obtain ⟨s3, c3, rfl, _⟩ := X.slice
    have X := Lib.hid X
    have hW := Lib.hid (hW.out.trans (hb.mono hW.out.size))
    clear hb HM1
    go_wp2_with fail
    refine (HS.out _).mono ?_
    rintro e w4 ⟨v4, rfl, S, hb⟩
    have T := Lib.hid (T.out.keep hb)
    have X := Lib.hid (X.out.keep hb)
    have HD1 := Lib.hid (HD.out _ _ _ _ w4 (by have := hL3.out; omega) X.out S)
    obtain ⟨s4, c4, rfl, _⟩ := S.slice
    have hW := Lib.hid (hW.out.trans (hb.mono hW.out.size))
    clear hb S
    go_wp2_with fail
    refine HD1.out.mono ?_
    rintro e w5 ⟨v5, v5', L5, rfl, _, Q, R, hb⟩
    have T := Lib.hid (T.out.keep hb)
    have X := Lib.hid (X.out.keep hb)
    have HL1 := Lib.hid (HL.out _ _ _ w5 (by have := hL3.out; omega) X.out)
    obtain ⟨s5, c5, rfl, _⟩ := Q.slice
    obtain ⟨s5', c5', rfl, _⟩ := R.slice
    have Q := Lib.hid Q
    have hW := Lib.hid (hW.out.trans (hb.mono hW.out.size))
    clear hb R HD1 X
    go_wp2_with fail
    refine HL1.out.mono ?_
    rintro e w6 ⟨rfl, h6⟩
    subst h6
    clear HL1
    rw [hq] at Q
    have HL1 := Lib.hid (HL.out _ _ _ w6 (by have := hL3.out; omega) Q.out)
    have HLE1 := Lib.hid (HLE.out _ _ w6 (by have := hL3.out; omega) Q.out)
    have HSQ1 := Lib.hid (fun h => HSQ.out _ _ w6 h (by have := hL3.out; omega) Q.out)
    clear T Q
    go_wp2_with fail
    refine HL1.out.mono ?_
    rintro e w11 ⟨rfl, h11⟩
    subst h11
    clear HL1
    have HLE2 := Lib.hid (HLE1.out (HB.out.keep hW.out))
    have HSL1 := Lib.hid (HSL.out _ (HB.out.keep hW.out))
    rw [hless] at HLE2
    go_wp2_with fail
    refine HLE2.out.mono ?_
    rintro e w12 ⟨rfl, h12⟩
    subst h12
    clear HLE2
    go_wp2_with fail
    refine (HSQ1.out HQM.out).mono ?_
    rintro e w13 ⟨rfl, hb⟩
    have hW := hW.out.trans (hb.mono hW.out.size)
    go_wp2_with fail
    exact bodyPost_ret (results_tmp2 rfl _ _ _) rfl ⟨rfl, hW⟩
set_option maxRecDepth 100000 in
set_option maxHeartbeats 4000000 in
theorem next3_lo_ov (b s c t q r l : Nat) (tk : Int) (s0 : Option Addr) (c0 : Nat) (w : World) (HB : Hid (BX w (.slice s0 256 c0) l 256)) (h1 : 1 ≤ s) (h2 : s ≤ 1099511627776) (hcb : c ≤ 4398046511104) (h0 : -9223372036854775808 ≤ tk) (h3 : tk ≤ 9223372036854775807)
    (hlo : tk < ((s : Int) / 4)) (hc : ((s : Int) / 4) = (c : Int)) (hr : r = if l < q then shortN l else shortN q) (hlM : l < M256)
    (hx : 256 < lg (t * c)) (hq : t / s * c = q)
    (HT : Hid (∀ W : World, Calls Try.prog 18 #[.int .u32 (b : Int)] W fun e w' => ∃ v L, e = .returned (.tuple #[v, .bool true]) ∧ L ≤ 2300 ∧ BX w' v t L ∧ Below W.heap.size W w'))
    (HC : Hid (∀ W : World, Calls Try.prog 41 #[.int .u64 (c : Int)] W fun e w' => ∃ v, e = .returned v ∧ BX w' v c 256 ∧ Below W.heap.size W w'))
    (HS : Hid (∀ W : World, Calls Try.prog 41 #[.int .u64 (s : Int)] W fun e w' => ∃ v, e = .returned v ∧ BX w' v s 256 ∧ Below W.heap.size W w'))
    (HM : Hid (∀ (u v : Value) (X L : Nat) (W : World), L ≤ 5000 → BX W u X L → BX W v c 256 → Calls Try.prog 10 #[u, v] W fun e w' => ∃ v' L', e = .returned v' ∧ L' ≤ L + 256 ∧ BX w' v' (X * c) L' ∧ Below W.heap.size W w'))
    (HD : Hid (∀ (u v : Value) (X L : Nat) (W : World), L ≤ 5000 → BX W u X L → BX W v s 256 → Calls Try.prog 15 #[u, v] W fun e w' => ∃ q l L', e = .returned (.tuple #[q, l]) ∧ L' ≤ 256 + L ∧ BX w' q (X / s) L ∧ BX w' l (X % s) L' ∧ Below W.heap.size W w'))
    (HL : Hid (∀ (v : Value) (X L : Nat) (W : World), L ≤ 9000 → BX W v X L → Calls Try.prog 42 #[v] W fun e w' => e = .returned (.int .i64 (lg X : Int)) ∧ w' = W))
    (HLE : Hid (∀ (v : Value) (L : Nat) (W : World), L ≤ 9000 → BX W v q L → BX W (.slice s0 256 c0) l 256 → Calls Try.prog 38 #[.slice s0 256 c0, v] W fun e w' => e = .returned (.bool (decide (l < q))) ∧ w' = W))
    (HSL : Hid (∀ (W : World), BX W (.slice s0 256 c0) l 256 → Calls Try.prog 23 #[.slice s0 256 c0] W fun e w' => e = .returned (.int .u32 (shortN l : Int)) ∧ Below W.heap.size W w'))
    (HSQ : Hid (∀ (v : Value) (L : Nat) (W : World), q < M256 → L ≤ 9000 → BX W v q L → Calls Try.prog 23 #[v] W fun e w' => e = .returned (.int .u32 (shortN q : Int)) ∧ Below W.heap.size W w'))
    : Calls Try.prog 29 #[.int .u32 (b : Int), .int .i64 tk, .int .i64 (s : Int), .slice s0 256 c0] w fun e w' => e = .returned (.tuple #[.int .u32 (r : Int), .bool true]) ∧ Below w.heap.size w w' := by
  have hd1 : decide ((s : Int) < 1) = false := decide_eq_false (by omega)
  have hd2 : decide ((1099511627776 : Int) < (s : Int)) = false := decide_eq_false (by omega)
  have hd3 : decide (tk < (c : Int)) = true := decide_eq_true (by omega)
  have hd4 : decide (4 * (s : Int) < (c : Int)) = false := decide_eq_false (by omega)
  have hdx : decide (256 < (lg (t * c) : Int)) = true := decide_eq_true (by omega)
  have hqM : (256 < lg q) ↔ ¬ q < M256 := by rw [← lg_256 q]; omega
  by_cases hl : l < q
  · have hless : decide (l < q) = true := decide_eq_true hl
    rw [if_pos hl] at hr
    subst hr
    by_cases hb : 256 < lg q
    · have hdq : decide (256 < (lg q : Int)) = true := decide_eq_true (by omega)
      clear hqM hx hlM hb hl
      go_enter Try.func29, Try.ntmps29
      go_wp2_with fail
      refine (HT.out _).mono ?_
      rintro e w1 ⟨v1, L1, rfl, hL1, T, hb1⟩
      have hL1 := Lib.hid hL1
      obtain ⟨s1, c1, rfl, _⟩ := T.slice
      have T := Lib.hid T
      have hW := Lib.hid hb1
      clear hb1
      go_wp2_with fail
      refine (HC.out _).mono ?_
      rintro e w2 ⟨v2, rfl, C, hb⟩
      have T := Lib.hid (T.out.keep hb)
      have HM1 := Lib.hid (HM.out _ _ _ _ w2 (by have := hL1.out; omega) T.out C)
      obtain ⟨s2, c2, rfl, _⟩ := C.slice
      have hW := Lib.hid (hW.out.trans (hb.mono hW.out.size))
      clear hb C
      go_wp2_with fail
      refine HM1.out.mono ?_
      rintro e w3 ⟨v3, L3, rfl, hL3, X, hb⟩
      have hL3 : Hid (L3 ≤ 2600) := by have := hL1.out; show _ ≤ _; omega
      have T := Lib.hid (T.out.keep hb)
      obtain ⟨s3, c3, rfl, _⟩ := X.slice
      have X := Lib.hid X
      have hW := Lib.hid (hW.out.trans (hb.mono hW.out.size))
      clear hb HM1
      go_wp2_with fail
      refine (HS.out _).mono ?_
      rintro e w4 ⟨v4, rfl, S, hb⟩
      have T := Lib.hid (T.out.keep hb)
      have X := Lib.hid (X.out.keep hb)
      have HD1 := Lib.hid (HD.out _ _ _ _ w4 (by have := hL3.out; omega) X.out S)
      obtain ⟨s4, c4, rfl, _⟩ := S.slice
      have hW := Lib.hid (hW.out.trans (hb.mono hW.out.size))
      clear hb S
      go_wp2_with fail
      refine HD1.out.mono ?_
      rintro e w5 ⟨v5, v5', L5, rfl, _, Q, R, hb⟩
      have T := Lib.hid (T.out.keep hb)
      have X := Lib.hid (X.out.keep hb)
      have HL1 := Lib.hid (HL.out _ _ _ w5 (by have := hL3.out; omega) X.out)
      obtain ⟨s5, c5, rfl, _⟩ := Q.slice
      obtain ⟨s5', c5', rfl, _⟩ := R.slice
      have Q := Lib.hid Q
      have hW := Lib.hid (hW.out.trans (hb.mono hW.out.size))
      clear hb R HD1 X
      go_wp2_with fail
      refine HL1.out.mono ?_
      rintro e w6 ⟨rfl, h6⟩
      subst h6
      clear HL1
      go_wp2_with fail
      refine (HS.out _).mono ?_
      rintro e w7 ⟨v7, rfl, S, hb⟩
      have T := Lib.hid (T.out.keep hb)
      have HD1 := Lib.hid (HD.out _ _ _ _ w7 (by have := hL1.out; omega) T.out S)
      obtain ⟨s7, c7, rfl, _⟩ := S.slice
      have hW := Lib.hid (hW.out.trans (hb.mono hW.out.size))
      clear hb S Q
      go_wp2_with fail
      refine HD1.out.mono ?_
      rintro e w8 ⟨v8, v8', L8, rfl, _, Q, R, hb⟩
      obtain ⟨s8, c8, rfl, _⟩ := Q.slice
      obtain ⟨s8', c8', rfl, _⟩ := R.slice
      have Q := Lib.hid Q
      have hW := Lib.hid (hW.out.trans (hb.mono hW.out.size))
      clear hb R HD1 T
      go_wp2_with fail
      refine (HC.out _).mono ?_
      rintro e w9 ⟨v9, rfl, C, hb⟩
      have HM1 := Lib.hid (HM.out _ _ _ _ w9 (by have := hL1.out; omega) (Q.out.keep hb) C)
      obtain ⟨s9, c9, rfl, _⟩ := C.slice
      have hW := Lib.hid (hW.out.trans (hb.mono hW.out.size))
      clear hb C Q
      go_wp2_with fail
      refine HM1.out.mono ?_
      rintro e w10 ⟨v10, L10, rfl, hL10, Q, hb⟩
      rw [hq] at Q
      have hL10 : Hid (L10 ≤ 2600) := by have := hL1.out; show _ ≤ _; omega
      have HL1 := Lib.hid (HL.out _ _ _ w10 (by have := hL10.out; omega) Q)
      have HLE1 := Lib.hid (HLE.out _ _ w10 (by have := hL10.out; omega) Q)
      have HSQ1 := Lib.hid (fun h => HSQ.out _ _ w10 h (by have := hL10.out; omega) Q)
      obtain ⟨s10, c10, rfl, _⟩ := Q.slice
      have hW := Lib.hid (hW.out.trans (hb.mono hW.out.size))
      clear hb HM1 Q
      go_wp2_with fail
      refine HL1.out.mono ?_
      rintro e w11 ⟨rfl, h11⟩
      subst h11
      clear HL1
      have HSL1 := Lib.hid (HSL.out _ (HB.out.keep hW.out))
      go_wp2_with fail
      refine HSL1.out.mono ?_
      rintro e w12 ⟨rfl, hb⟩
      have hW := hW.out.trans (hb.mono hW.out.size)
      go_wp2_with fail
      exact bodyPost_ret (results_tmp2 rfl _ _ _) rfl ⟨rfl, hW⟩
    · have hdq : decide (256 < (lg q : Int)) = false := decide_eq_false (by omega)
      clear hqM hx hlM hb hl
      go_enter Try.func29, Try.ntmps29
      go_wp2_with fail
      refine (HT.out _).mono ?_
      rintro e w1 ⟨v1, L1, rfl, hL1, T, hb1⟩
      have hL1 := Lib.hid hL1
      obtain ⟨s1, c1, rfl, _⟩ := T.slice
      have T := Lib.hid T
      have hW := Lib.hid hb1
      clear hb1
      go_wp2_with fail
      refine (HC.out _).mono ?_
      rintro e w2 ⟨v2, rfl, C, hb⟩
      have T := Lib.hid (T.out.keep hb)
      have HM1 := Lib.hid (HM.out _ _ _ _ w2 (by have := hL1.out; omega) T.out C)
      obtain ⟨s2, c2, rfl, _⟩ := C.slice
      have hW := Lib.hid (hW.out.trans (hb.mono hW.out.size))
      clear hb C
      go_wp2_with fail
      refine HM1.out.mono ?_
      rintro e w3 ⟨v3, L3, rfl, hL3, X, hb⟩
      have hL3 : Hid (L3 ≤ 2600) := by have := hL1.out; show _ ≤ _; omega
      have T := Lib.hid (T.out.keep hb)
      obtain ⟨s3, c3, rfl, _⟩ := X.slice
      have X := Lib.hid X
      have hW := Lib.hid (hW.out.trans (hb.mono hW.out.size))
      clear hb HM1
      go_wp2_with fail
      refine (HS.out _).mono ?_
      rintro e w4 ⟨v4, rfl, S, hb⟩
      have T := Lib.hid (T.out.keep hb)
      have X := Lib.hid (X.out.keep hb)
      have HD1 := Lib.hid (HD.out _ _ _ _ w4 (by have := hL3.out; omega) X.out S)
      obtain ⟨s4, c4, rfl, _⟩ := S.slice
      have hW := Lib.hid (hW.out.trans (hb.mono hW.out.size))
      clear hb S
      go_wp2_with fail
      refine HD1.out.mono ?_
      rintro e w5 ⟨v5, v5', L5, rfl, _, Q, R, hb⟩
      have T := Lib.hid (T.out.keep hb)
      have X := Lib.hid (X.out.keep hb)
      have HL1 := Lib.hid (HL.out _ _ _ w5 (by have := hL3.out; omega) X.out)
      obtain ⟨s5, c5, rfl, _⟩ := Q.slice
      obtain ⟨s5', c5', rfl, _⟩ := R.slice
      have Q := Lib.hid Q
      have hW := Lib.hid (hW.out.trans (hb.mono hW.out.size))
      clear hb R HD1 X
      go_wp2_with fail
      refine HL1.out.mono ?_
      rintro e w6 ⟨rfl, h6⟩
      subst h6
      clear HL1
      go_wp2_with fail
      refine (HS.out _).mono ?_
      rintro e w7 ⟨v7, rfl, S, hb⟩
      have T := Lib.hid (T.out.keep hb)
      have HD1 := Lib.hid (HD.out _ _ _ _ w7 (by have := hL1.out; omega) T.out S)
      obtain ⟨s7, c7, rfl, _⟩ := S.slice
      have hW := Lib.hid (hW.out.trans (hb.mono hW.out.size))
      clear hb S Q
      go_wp2_with fail
      refine HD1.out.mono ?_
      rintro e w8 ⟨v8, v8', L8, rfl, _, Q, R, hb⟩
      obtain ⟨s8, c8, rfl, _⟩ := Q.slice
      obtain ⟨s8', c8', rfl, _⟩ := R.slice
      have Q := Lib.hid Q
      have hW := Lib.hid (hW.out.trans (hb.mono hW.out.size))
      clear hb R HD1 T
      go_wp2_with fail
      refine (HC.out _).mono ?_
      rintro e w9 ⟨v9, rfl, C, hb⟩
      have HM1 := Lib.hid (HM.out _ _ _ _ w9 (by have := hL1.out; omega) (Q.out.keep hb) C)
      obtain ⟨s9, c9, rfl, _⟩ := C.slice
      have hW := Lib.hid (hW.out.trans (hb.mono hW.out.size))
      clear hb C Q
      go_wp2_with fail
      refine HM1.out.mono ?_
      rintro e w10 ⟨v10, L10, rfl, hL10, Q, hb⟩
      rw [hq] at Q
      have hL10 : Hid (L10 ≤ 2600) := by have := hL1.out; show _ ≤ _; omega
      have HL1 := Lib.hid (HL.out _ _ _ w10 (by have := hL10.out; omega) Q)
      have HLE1 := Lib.hid (HLE.out _ _ w10 (by have := hL10.out; omega) Q)
      have HSQ1 := Lib.hid (fun h => HSQ.out _ _ w10 h (by have := hL10.out; omega) Q)
      obtain ⟨s10, c10, rfl, _⟩ := Q.slice
      have hW := Lib.hid (hW.out.trans (hb.mono hW.out.size))
      clear hb HM1 Q
      go_wp2_with fail
      refine HL1.out.mono ?_
      rintro e w11 ⟨rfl, h11⟩
      subst h11
      clear HL1
      have HLE2 := Lib.hid (HLE1.out (HB.out.keep hW.out))
      have HSL1 := Lib.hid (HSL.out _ (HB.out.keep hW.out))
      rw [hless] at HLE2
      go_wp2_with fail
      refine HLE2.out.mono ?_
      rintro e w12 ⟨rfl, h12⟩
      subst h12
      clear HLE2
      go_wp2_with fail
      refine HSL1.out.mono ?_
      rintro e w13 ⟨rfl, hb⟩
      have hW := hW.out.trans (hb.mono hW.out.size)
      go_wp2_with fail
      exact bodyPost_ret (results_tmp2 rfl _ _ _) rfl ⟨rfl, hW⟩
  · have hless : decide (l < q) = false := decide_eq_false hl
    rw [if_neg hl] at hr
    subst hr
    have hqm : q < M256 := by omega
    have hdq : decide (256 < (lg q : Int)) = false := decide_eq_false (by have := mt hqM.1 (fun h => h hqm); omega)
    have HQM := Lib.hid hqm
    clear hqM hx hlM hl hqm
    go_enter Try.func29, Try.ntmps29
    go_wp2_with fail
    refine (HT.out _).mono ?_
    rintro e w1 ⟨v1, L1, rfl, hL1, T, hb1⟩
    have hL1 := Lib.hid hL1
    obtain ⟨s1, c1, rfl, _⟩ := T.slice
    have T := Lib.hid T
    have hW := Lib.hid hb1
    clear hb1
    go_wp2_with fail
    refine (HC.out _).mono ?_
    rintro e w2 ⟨v2, rfl, C, hb⟩
    have T := Lib.hid (T.out.keep hb)
    have HM1 := Lib.hid (HM.out _ _ _ _ w2 (by have := hL1.out; omega) T.out C)
    obtain ⟨s2, c2, rfl, _⟩ := C.slice
    have hW := Lib.hid (hW.out.trans (hb.mono hW.out.size))
    clear hb C
    go_wp2_with fail
    refine HM1.out.mono ?_
    rintro e w3 ⟨v3, L3, rfl, hL3, X, hb⟩
    have hL3 : Hid (L3 ≤ 2600) := by have := hL1.out; show _ ≤ _; omega
    have T := Lib.hid (T.out.keep hb)
    obtain ⟨s3, c3, rfl, _⟩ := X.slice
    have X := Lib.hid X
    have hW := Lib.hid (hW.out.trans (hb.mono hW.out.size))
    clear hb HM1
    go_wp2_with fail
    refine (HS.out _).mono ?_
    rintro e w4 ⟨v4, rfl, S, hb⟩
    have T := Lib.hid (T.out.keep hb)
    have X := Lib.hid (X.out.keep hb)
    have HD1 := Lib.hid (HD.out _ _ _ _ w4 (by have := hL3.out; omega) X.out S)
    obtain ⟨s4, c4, rfl, _⟩ := S.slice
    have hW := Lib.hid (hW.out.trans (hb.mono hW.out.size))
    clear hb S
    go_wp2_with fail
    refine HD1.out.mono ?_
    rintro e w5 ⟨v5, v5', L5, rfl, _, Q, R, hb⟩
    have T := Lib.hid (T.out.keep hb)
    have X := Lib.hid (X.out.keep hb)
    have HL1 := Lib.hid (HL.out _ _ _ w5 (by have := hL3.out; omega) X.out)
    obtain ⟨s5, c5, rfl, _⟩ := Q.slice
    obtain ⟨s5', c5', rfl, _⟩ := R.slice
    have Q := Lib.hid Q
    have hW := Lib.hid (hW.out.trans (hb.mono hW.out.size))
    clear hb R HD1 X
    go_wp2_with fail
    refine HL1.out.mono ?_
    rintro e w6 ⟨rfl, h6⟩
    subst h6
    clear HL1
    go_wp2_with fail
    refine (HS.out _).mono ?_
    rintro e w7 ⟨v7, rfl, S, hb⟩
    have T := Lib.hid (T.out.keep hb)
    have HD1 := Lib.hid (HD.out _ _ _ _ w7 (by have := hL1.out; omega) T.out S)
    obtain ⟨s7, c7, rfl, _⟩ := S.slice
    have hW := Lib.hid (hW.out.trans (hb.mono hW.out.size))
    clear hb S Q
    go_wp2_with fail
    refine HD1.out.mono ?_
    rintro e w8 ⟨v8, v8', L8, rfl, _, Q, R, hb⟩
    obtain ⟨s8, c8, rfl, _⟩ := Q.slice
    obtain ⟨s8', c8', rfl, _⟩ := R.slice
    have Q := Lib.hid Q
    have hW := Lib.hid (hW.out.trans (hb.mono hW.out.size))
    clear hb R HD1 T
    go_wp2_with fail
    refine (HC.out _).mono ?_
    rintro e w9 ⟨v9, rfl, C, hb⟩
    have HM1 := Lib.hid (HM.out _ _ _ _ w9 (by have := hL1.out; omega) (Q.out.keep hb) C)
    obtain ⟨s9, c9, rfl, _⟩ := C.slice
    have hW := Lib.hid (hW.out.trans (hb.mono hW.out.size))
    clear hb C Q
    go_wp2_with fail
    refine HM1.out.mono ?_
    rintro e w10 ⟨v10, L10, rfl, hL10, Q, hb⟩
    rw [hq] at Q
    have hL10 : Hid (L10 ≤ 2600) := by have := hL1.out; show _ ≤ _; omega
    have HL1 := Lib.hid (HL.out _ _ _ w10 (by have := hL10.out; omega) Q)
    have HLE1 := Lib.hid (HLE.out _ _ w10 (by have := hL10.out; omega) Q)
    have HSQ1 := Lib.hid (fun h => HSQ.out _ _ w10 h (by have := hL10.out; omega) Q)
    obtain ⟨s10, c10, rfl, _⟩ := Q.slice
    have hW := Lib.hid (hW.out.trans (hb.mono hW.out.size))
    clear hb HM1 Q
    go_wp2_with fail
    refine HL1.out.mono ?_
    rintro e w11 ⟨rfl, h11⟩
    subst h11
    clear HL1
    have HLE2 := Lib.hid (HLE1.out (HB.out.keep hW.out))
    have HSL1 := Lib.hid (HSL.out _ (HB.out.keep hW.out))
    rw [hless] at HLE2
    go_wp2_with fail
    refine HLE2.out.mono ?_
    rintro e w12 ⟨rfl, h12⟩
    subst h12
    clear HLE2
    go_wp2_with fail
    refine (HSQ1.out HQM.out).mono ?_
    rintro e w13 ⟨rfl, hb⟩
    have hW := hW.out.trans (hb.mono hW.out.size)
    go_wp2_with fail
    exact bodyPost_ret (results_tmp2 rfl _ _ _) rfl ⟨rfl, hW⟩
set_option maxRecDepth 100000 in
set_option maxHeartbeats 4000000 in
theorem next3_hi_no (b s c t q r l : Nat) (tk : Int) (s0 : Option Addr) (c0 : Nat) (w : World) (HB : Hid (BX w (.slice s0 256 c0) l 256)) (h1 : 1 ≤ s) (h2 : s ≤ 1099511627776) (hcb : c ≤ 4398046511104) (h0 : -9223372036854775808 ≤ tk) (h3 : tk ≤ 9223372036854775807)
    (hlo : ¬ tk < ((s : Int) / 4)) (hhi : 4 * (s : Int) < tk) (hc : 4 * (s : Int) = (c : Int)) (hr : r = if l < q then shortN l else shortN q) (hlM : l < M256)
    (hx : ¬ 256 < lg (t * c)) (hq : t * c / s = q)
    (HT : Hid (∀ W : World, Calls Try.prog 18 #[.int .u32 (b : Int)] W fun e w' => ∃ v L, e = .returned (.tuple #[v, .bool true]) ∧ L ≤ 2300 ∧ BX w' v t L ∧ Below W.heap.size W w'))
    (HC : Hid (∀ W : World, Calls Try.prog 41 #[.int .u64 (c : Int)] W fun e w' => ∃ v, e = .returned v ∧ BX w' v c 256 ∧ Below W.heap.size W w'))
    (HS : Hid (∀ W : World, Calls Try.prog 41 #[.int .u64 (s : Int)] W fun e w' => ∃ v, e = .returned v ∧ BX w' v s 256 ∧ Below W.heap.size W w'))
    (HM : Hid (∀ (u v : Value) (X L : Nat) (W : World), L ≤ 5000 → BX W u X L → BX W v c 256 → Calls Try.prog 10 #[u, v] W fun e w' => ∃ v' L', e = .returned v' ∧ L' ≤ L + 256 ∧ BX w' v' (X * c) L' ∧ Below W.heap.size W w'))
    (HD : Hid (∀ (u v : Value) (X L : Nat) (W : World), L ≤ 5000 → BX W u X L → BX W v s 256 → Calls Try.prog 15 #[u, v] W fun e w' => ∃ q l L', e = .returned (.tuple #[q, l]) ∧ L' ≤ 256 + L ∧ BX w' q (X / s) L ∧ BX w' l (X % s) L' ∧ Below W.heap.size W w'))
    (HL : Hid (∀ (v : Value) (X L : Nat) (W : World), L ≤ 9000 → BX W v X L → Calls Try.prog 42 #[v] W fun e w' => e = .returned (.int .i64 (lg X : Int)) ∧ w' = W))
    (HLE : Hid (∀ (v : Value) (L : Nat) (W : World), L ≤ 9000 → BX W v q L → BX W (.slice s0 256 c0) l 256 → Calls Try.prog 38 #[.slice s0 256 c0, v] W fun e w' => e = .returned (.bool (decide (l < q))) ∧ w' = W))
    (HSL : Hid (∀ (W : World), BX W (.slice s0 256 c0) l 256 → Calls Try.prog 23 #[.slice s0 256 c0] W fun e w' => e = .returned (.int .u32 (shortN l : Int)) ∧ Below W.heap.size W w'))
    (HSQ : Hid (∀ (v : Value) (L : Nat) (W : World), q < M256 → L ≤ 9000 → BX W v q L → Calls Try.prog 23 #[v] W fun e w' => e = .returned (.int .u32 (shortN q : Int)) ∧ Below W.heap.size W w'))
    : Calls Try.prog 29 #[.int .u32 (b : Int), .int .i64 tk, .int .i64 (s : Int), .slice s0 256 c0] w fun e w' => e = .returned (.tuple #[.int .u32 (r : Int), .bool true]) ∧ Below w.heap.size w w' := by
  have hd1 : decide ((s : Int) < 1) = false := decide_eq_false (by omega)
  have hd2 : decide ((1099511627776 : Int) < (s : Int)) = false := decide_eq_false (by omega)
  have hd3 : decide (tk < ((s : Int) / 4)) = false := decide_eq_false hlo
  have hd4 : decide ((c : Int) < tk) = true := decide_eq_true (by omega)
  have hdx : decide (256 < (lg (t * c) : Int)) = false := decide_eq_false (by omega)
  have hqM : (256 < lg q) ↔ ¬ q < M256 := by rw [← lg_256 q]; omega
  by_cases hl : l < q
  · have hless : decide (l < q) = true := decide_eq_true hl
    rw [if_pos hl] at hr
    subst hr
    by_cases hb : 256 < lg q
    · have hdq : decide (256 < (lg q : Int)) = true := decide_eq_true (by omega)
      clear hqM hx hlM hb hl
      go_enter Try.func29, Try.ntmps29
      go_wp2_with fail
      refine (HT.out _).mono ?_
      rintro e w1 ⟨v1, L1, rfl, hL1, T, hb1⟩
      have hL1 := Lib.hid hL1
      obtain ⟨s1, c1, rfl, _⟩ := T.slice
      have T := Lib.hid T
      have hW := Lib.hid hb1
      clear hb1
      go_wp2_with fail
      refine (HC.out _).mono ?_
      rintro e w2 ⟨v2, rfl, C, hb⟩
      have T := Lib.hid (T.out.keep hb)
      have HM1 := Lib.hid (HM.out _ _ _ _ w2 (by have := hL1.out; omega) T.out C)
      obtain ⟨s2, c2, rfl, _⟩ := C.slice
      have hW := Lib.hid (hW.out.trans (hb.mono hW.out.size))
      clear hb C
      go_wp2_with fail
      refine HM1.out.mono ?_
      rintro e w3 ⟨v3, L3, rfl, hL3, X, hb⟩
      have hL3 : Hid (L3 ≤ 2600) := by have := hL1.out; show _ ≤ _; omega
      have T := Lib.hid (T.out.keep hb)
      obtain ⟨s3, c3, rfl, _⟩ := X.slice
      have X := Lib.hid X
      have hW := Lib.hid (hW.out.trans (hb.mono hW.out.size))
      clear hb HM1
      go_wp2_with fail
      refine (HS.out _).mono ?_
      rintro e w4 ⟨v4, rfl, S, hb⟩
      have T := Lib.hid (T.out.keep hb)
      have X := Lib.hid (X.out.keep hb)
      have HD1 := Lib.hid (HD.out _ _ _ _ w4 (by have := hL3.out; omega) X.out S)
      obtain ⟨s4, c4, rfl, _⟩ := S.slice
      have hW := Lib.hid (hW.out.trans (hb.mono hW.out.size))
      clear hb S
      go_wp2_with fail
      refine HD1.out.mono ?_
      rintro e w5 ⟨v5, v5', L5, rfl, _, Q, R, hb⟩
      have T := Lib.hid (T.out.keep hb)
      have X := Lib.hid (X.out.keep hb)
      have HL1 := Lib.hid (HL.out _ _ _ w5 (by have := hL3.out; omega) X.out)
      obtain ⟨s5, c5, rfl, _⟩ := Q.slice
      obtain ⟨s5', c5', rfl, _⟩ := R.slice
      have Q := Lib.hid Q
      have hW := Lib.hid (hW.out.trans (hb.mono hW.out.size))
      clear hb R HD1 X
      go_wp2_with fail
      refine HL1.out.mono ?_
      rintro e w6 ⟨rfl, h6⟩
      subst h6
      clear HL1
      rw [hq] at Q
      have HL1 := Lib.hid (HL.out _ _ _ w6 (by have := hL3.out; omega) Q.out)
      have HLE1 := Lib.hid (HLE.out _ _ w6 (by have := hL3.out; omega) Q.out)
      have HSQ1 := Lib.hid (fun h => HSQ.out _ _ w6 h (by have := hL3.out; omega) Q.out)
      clear T Q
      go_wp2_with fail
      refine HL1.out.mono ?_
      rintro e w11 ⟨rfl, h11⟩
      subst h11
      clear HL1
      have HSL1 := Lib.hid (HSL.out _ (HB.out.keep hW.out))
      go_wp2_with fail
      refine HSL1.out.mono ?_
      rintro e w12 ⟨rfl, hb⟩
      have hW := hW.out.trans (hb.mono hW.out.size)
      go_wp2_with fail
      exact bodyPost_ret (results_tmp2 rfl _ _ _) rfl ⟨rfl, hW⟩
    · have hdq : decide (256 < (lg q : Int)) = false := decide_eq_false (by omega)
      clear hqM hx hlM hb hl
      go_enter Try.func29, Try.ntmps29
      go_wp2_with fail
      refine (HT.out _).mono ?_
      rintro e w1 ⟨v1, L1, rfl, hL1, T, hb1⟩
      have hL1 := Lib.hid hL1
      obtain ⟨s1, c1, rfl, _⟩ := T.slice
      have T := Lib.hid T
      have hW := Lib.hid hb1
      clear hb1
      go_wp2_with fail
      refine (HC.out _).mono ?_
      rintro e w2 ⟨v2, rfl, C, hb⟩
      have T := Lib.hid (T.out.keep hb)
      have HM1 := Lib.hid (HM.out _ _ _ _ w2 (by have := hL1.out; omega) T.out C)
      obtain ⟨s2, c2, rfl, _⟩ := C.slice
      have hW := Lib.hid (hW.out.trans (hb.mono hW.out.size))
      clear hb C
      go_wp2_with fail
      refine HM1.out.mono ?_
      rintro e w3 ⟨v3, L3, rfl, hL3, X, hb⟩
      have hL3 : Hid (L3 ≤ 2600) := by have := hL1.out; show _ ≤ _; omega
      have T := Lib.hid (T.out.keep hb)
      obtain ⟨s3, c3, rfl, _⟩ := X.slice
      have X := Lib.hid X
      have hW := Lib.hid (hW.out.trans (hb.mono hW.out.size))
      clear hb HM1
      go_wp2_with fail
      refine (HS.out _).mono ?_
      rintro e w4 ⟨v4, rfl, S, hb⟩
      have T := Lib.hid (T.out.keep hb)
      have X := Lib.hid (X.out.keep hb)
      have HD1 := Lib.hid (HD.out _ _ _ _ w4 (by have := hL3.out; omega) X.out S)
      obtain ⟨s4, c4, rfl, _⟩ := S.slice
      have hW := Lib.hid (hW.out.trans (hb.mono hW.out.size))
      clear hb S
      go_wp2_with fail
      refine HD1.out.mono ?_
      rintro e w5 ⟨v5, v5', L5, rfl, _, Q, R, hb⟩
      have T := Lib.hid (T.out.keep hb)
      have X := Lib.hid (X.out.keep hb)
      have HL1 := Lib.hid (HL.out _ _ _ w5 (by have := hL3.out; omega) X.out)
      obtain ⟨s5, c5, rfl, _⟩ := Q.slice
      obtain ⟨s5', c5', rfl, _⟩ := R.slice
      have Q := Lib.hid Q
      have hW := Lib.hid (hW.out.trans (hb.mono hW.out.size))
      clear hb R HD1 X
      go_wp2_with fail
      refine HL1.out.mono ?_
      rintro e w6 ⟨rfl, h6⟩
      subst h6
      clear HL1
      rw [hq] at Q
      have HL1 := Lib.hid (HL.out _ _ _ w6 (by have := hL3.out; omega) Q.out)
      have HLE1 := Lib.hid (HLE.out _ _ w6 (by have := hL3.out; omega) Q.out)
      have HSQ1 := Lib.hid (fun h => HSQ.out _ _ w6 h (by have := hL3.out; omega) Q.out)
      clear T Q
      go_wp2_with fail
      refine HL1.out.mono ?_
      rintro e w11 ⟨rfl, h11⟩
      subst h11
      clear HL1
      have HLE2 := Lib.hid (HLE1.out (HB.out.keep hW.out))
      have HSL1 := Lib.hid (HSL.out _ (HB.out.keep hW.out))
      rw [hless] at HLE2
      go_wp2_with fail
      refine HLE2.out.mono ?_
      rintro e w12 ⟨rfl, h12⟩
      subst h12
      clear HLE2
      go_wp2_with fail
      refine HSL1.out.mono ?_
      rintro e w13 ⟨rfl, hb⟩
      have hW := hW.out.trans (hb.mono hW.out.size)
      go_wp2_with fail
      exact bodyPost_ret (results_tmp2 rfl _ _ _) rfl ⟨rfl, hW⟩
  · have hless : decide (l < q) = false := decide_eq_false hl
    rw [if_neg hl] at hr
    subst hr
    have hqm : q < M256 := by omega
    have hdq : decide (256 < (lg q : Int)) = false := decide_eq_false (by have := mt hqM.1 (fun h => h hqm); omega)
    have HQM := Lib.hid hqm
    clear hqM hx hlM hl hqm
    go_enter Try.func29, Try.ntmps29
    go_wp2_with fail
    refine (HT.out _).mono ?_
    rintro e w1 ⟨v1, L1, rfl, hL1, T, hb1⟩
    have hL1 := Lib.hid hL1
    obtain ⟨s1, c1, rfl, _⟩ := T.slice
    have T := Lib.hid T
    have hW := Lib.hid hb1
    clear hb1
    go_wp2_with fail
    refine (HC.out _).mono ?_
    rintro e w2 ⟨v2, rfl, C, hb⟩
    have T := Lib.hid (T.out.keep hb)
    have HM1 := Lib.hid (HM.out _ _ _ _ w2 (by have := hL1.out; omega) T.out C)
    obtain ⟨s2, c2, rfl, _⟩ := C.slice
    have hW := Lib.hid (hW.out.trans (hb.mono hW.out.size))
    clear hb C
    go_wp2_with fail
    refine HM1.out.mono ?_
    rintro e w3 ⟨v3, L3, rfl, hL3, X, hb⟩
    have hL3 : Hid (L3 ≤ 2600) := by have := hL1.out; show _ ≤ _; omega
    have T := Lib.hid (T.out.keep hb)
    obtain ⟨s3, c3, rfl, _⟩ := X.slice
    have X := Lib.hid X
    have hW := Lib.hid (hW.out.trans (hb.mono hW.out.size))
    clear hb HM1
    go_wp2_with fail
    refine (HS.out _).mono ?_
    rintro e w4 ⟨v4, rfl, S, hb⟩
    have T := Lib.hid (T.out.keep hb)
    have X := Lib.hid (X.out.keep hb)
    have HD1 := Lib.hid (HD.out _ _ _ _ w4 (by have := hL3.out; omega) X.out S)
    obtain ⟨s4, c4, rfl, _⟩ := S.slice
    have hW := Lib.hid (hW.out.trans (hb.mono hW.out.size))
    clear hb S
    go_wp2_with fail
    refine HD1.out.mono ?_
    rintro e w5 ⟨v5, v5', L5, rfl, _, Q, R, hb⟩
    have T := Lib.hid (T.out.keep hb)
    have X := Lib.hid (X.out.keep hb)
    have HL1 := Lib.hid (HL.out _ _ _ w5 (by have := hL3.out; omega) X.out)
    obtain ⟨s5, c5, rfl, _⟩ := Q.slice
    obtain ⟨s5', c5', rfl, _⟩ := R.slice
    have Q := Lib.hid Q
    have hW := Lib.hid (hW.out.trans (hb.mono hW.out.size))
    clear hb R HD1 X
    go_wp2_with fail
    refine HL1.out.mono ?_
    rintro e w6 ⟨rfl, h6⟩
    subst h6
    clear HL1
    rw [hq] at Q
    have HL1 := Lib.hid (HL.out _ _ _ w6 (by have := hL3.out; omega) Q.out)
    have HLE1 := Lib.hid (HLE.out _ _ w6 (by have := hL3.out; omega) Q.out)
    have HSQ1 := Lib.hid (fun h => HSQ.out _ _ w6 h (by have := hL3.out; omega) Q.out)
    clear T Q
    go_wp2_with fail
    refine HL1.out.mono ?_
    rintro e w11 ⟨rfl, h11⟩
    subst h11
    clear HL1
    have HLE2 := Lib.hid (HLE1.out (HB.out.keep hW.out))
    have HSL1 := Lib.hid (HSL.out _ (HB.out.keep hW.out))
    rw [hless] at HLE2
    go_wp2_with fail
    refine HLE2.out.mono ?_
    rintro e w12 ⟨rfl, h12⟩
    subst h12
    clear HLE2
    go_wp2_with fail
    refine (HSQ1.out HQM.out).mono ?_
    rintro e w13 ⟨rfl, hb⟩
    have hW := hW.out.trans (hb.mono hW.out.size)
    go_wp2_with fail
    exact bodyPost_ret (results_tmp2 rfl _ _ _) rfl ⟨rfl, hW⟩
set_option maxRecDepth 100000 in
set_option maxHeartbeats 4000000 in
theorem next3_hi_ov (b s c t q r l : Nat) (tk : Int) (s0 : Option Addr) (c0 : Nat) (w : World) (HB : Hid (BX w (.slice s0 256 c0) l 256)) (h1 : 1 ≤ s) (h2 : s ≤ 1099511627776) (hcb : c ≤ 4398046511104) (h0 : -9223372036854775808 ≤ tk) (h3 : tk ≤ 9223372036854775807)
    (hlo : ¬ tk < ((s : Int) / 4)) (hhi : 4 * (s : Int) < tk) (hc : 4 * (s : Int) = (c : Int)) (hr : r = if l < q then shortN l else shortN q) (hlM : l < M256)
    (hx : 256 < lg (t * c)) (hq : t / s * c = q)
    (HT : Hid (∀ W : World, Calls Try.prog 18 #[.int .u32 (b : Int)] W fun e w' => ∃ v L, e = .returned (.tuple #[v, .bool true]) ∧ L ≤ 2300 ∧ BX w' v t L ∧ Below W.heap.size W w'))
    (HC : Hid (∀ W : World, Calls Try.prog 41 #[.int .u64 (c : Int)] W fun e w' => ∃ v, e = .returned v ∧ BX w' v c 256 ∧ Below W.heap.size W w'))
    (HS : Hid (∀ W : World, Calls Try.prog 41 #[.int .u64 (s : Int)] W fun e w' => ∃ v, e = .returned v ∧ BX w' v s 256 ∧ Below W.heap.size W w'))
    (HM : Hid (∀ (u v : Value) (X L : Nat) (W : World), L ≤ 5000 → BX W u X L → BX W v c 256 → Calls Try.prog 10 #[u, v] W fun e w' => ∃ v' L', e = .returned v' ∧ L' ≤ L + 256 ∧ BX w' v' (X * c) L' ∧ Below W.heap.size W w'))
    (HD : Hid (∀ (u v : Value) (X L : Nat) (W : World), L ≤ 5000 → BX W u X L → BX W v s 256 → Calls Try.prog 15 #[u, v] W fun e w' => ∃ q l L', e = .returned (.tuple #[q, l]) ∧ L' ≤ 256 + L ∧ BX w' q (X / s) L ∧ BX w' l (X % s) L' ∧ Below W.heap.size W w'))
    (HL : Hid (∀ (v : Value) (X L : Nat) (W : World), L ≤ 9000 → BX W v X L → Calls Try.prog 42 #[v] W fun e w' => e = .returned (.int .i64 (lg X : Int)) ∧ w' = W))
    (HLE : Hid (∀ (v : Value) (L : Nat) (W : World), L ≤ 9000 → BX W v q L → BX W (.slice s0 256 c0) l 256 → Calls Try.prog 38 #[.slice s0 256 c0, v] W fun e w' => e = .returned (.bool (decide (l < q))) ∧ w' = W))
    (HSL : Hid (∀ (W : World), BX W (.slice s0 256 c0) l 256 → Calls Try.prog 23 #[.slice s0 256 c0] W fun e w' => e = .returned (.int .u32 (shortN l : Int)) ∧ Below W.heap.size W w'))
    (HSQ : Hid (∀ (v : Value) (L : Nat) (W : World), q < M256 → L ≤ 9000 → BX W v q L → Calls Try.prog 23 #[v] W fun e w' => e = .returned (.int .u32 (shortN q : Int)) ∧ Below W.heap.size W w'))
    : Calls Try.prog 29 #[.int .u32 (b : Int), .int .i64 tk, .int .i64 (s : Int), .slice s0 256 c0] w fun e w' => e = .returned (.tuple #[.int .u32 (r : Int), .bool true]) ∧ Below w.heap.size w w' := by
  have hd1 : decide ((s : Int) < 1) = false := decide_eq_false (by omega)
  have hd2 : decide ((1099511627776 : Int) < (s : Int)) = false := decide_eq_false (by omega)
  have hd3 : decide (tk < ((s : Int) / 4)) = false := decide_eq_false hlo
  have hd4 : decide ((c : Int) < tk) = true := decide_eq_true (by omega)
  have hdx : decide (256 < (lg (t * c) : Int)) = true := decide_eq_true (by omega)
  have hqM : (256 < lg q) ↔ ¬ q < M256 := by rw [← lg_256 q]; omega
  by_cases hl : l < q
  · have hless : decide (l < q) = true := decide_eq_true hl
    rw [if_pos hl] at hr
    subst hr
    by_cases hb : 256 < lg q
    · have hdq : decide (256 < (lg q : Int)) = true := decide_eq_true (by omega)
      clear hqM hx hlM hb hl
      go_enter Try.func29, Try.ntmps29
      go_wp2_with fail
      refine (HT.out _).mono ?_
      rintro e w1 ⟨v1, L1, rfl, hL1, T, hb1⟩
      have hL1 := Lib.hid hL1
      obtain ⟨s1, c1, rfl, _⟩ := T.slice
      have T := Lib.hid T
      have hW := Lib.hid hb1
      clear hb1
      go_wp2_with fail
      refine (HC.out _).mono ?_
      rintro e w2 ⟨v2, rfl, C, hb⟩
      have T := Lib.hid (T.out.keep hb)
      have HM1 := Lib.hid (HM.out _ _ _ _ w2 (by have := hL1.out; omega) T.out C)
      obtain ⟨s2, c2, rfl, _⟩ := C.slice
      have hW := Lib.hid (hW.out.trans (hb.mono hW.out.size))
      clear hb C
      go_wp2_with fail
      refine HM1.out.mono ?_
      rintro e w3 ⟨v3, L3, rfl, hL3, X, hb⟩
      have hL3 : Hid (L3 ≤ 2600) := by have := hL1.out; show _ ≤ _; omega
      have T := Lib.hid (T.out.keep hb)
      obtain ⟨s3, c3, rfl, _⟩ := X.slice
      have X := Lib.hid X
      have hW := Lib.hid (hW.out.trans (hb.mono hW.out.size))
      clear hb HM1
      go_wp2_with fail
      refine (HS.out _).mono ?_
      rintro e w4 ⟨v4, rfl, S, hb⟩
      have T := Lib.hid (T.out.keep hb)
      have X := Lib.hid (X.out.keep hb)
      have HD1 := Lib.hid (HD.out _ _ _ _ w4 (by have := hL3.out; omega) X.out S)
      obtain ⟨s4, c4, rfl, _⟩ := S.slice
      have hW := Lib.hid (hW.out.trans (hb.mono hW.out.size))
      clear hb S
      go_wp2_with fail
      refine HD1.out.mono ?_
      rintro e w5 ⟨v5, v5', L5, rfl, _, Q, R, hb⟩
      have T := Lib.hid (T.out.keep hb)
      have X := Lib.hid (X.out.keep hb)
      have HL1 := Lib.hid (HL.out _ _ _ w5 (by have := hL3.out; omega) X.out)
      obtain ⟨s5, c5, rfl, _⟩ := Q.slice
      obtain ⟨s5', c5', rfl, _⟩ := R.slice
      have Q := Lib.hid Q
      have hW := Lib.hid (hW.out.trans (hb.mono hW.out.size))
      clear hb R HD1 X
      go_wp2_with fail
      refine HL1.out.mono ?_
      rintro e w6 ⟨rfl, h6⟩
      subst h6
      clear HL1
      go_wp2_with fail
      refine (HS.out _).mono ?_
      rintro e w7 ⟨v7, rfl, S, hb⟩
      have T := Lib.hid (T.out.keep hb)
      have HD1 := Lib.hid (HD.out _ _ _ _ w7 (by have := hL1.out; omega) T.out S)
      obtain ⟨s7, c7, rfl, _⟩ := S.slice
      have hW := Lib.hid (hW.out.trans (hb.mono hW.out.size))
      clear hb S Q
      go_wp2_with fail
      refine HD1.out.mono ?_
      rintro e w8 ⟨v8, v8', L8, rfl, _, Q, R, hb⟩
      obtain ⟨s8, c8, rfl, _⟩ := Q.slice
      obtain ⟨s8', c8', rfl, _⟩ := R.slice
      have Q := Lib.hid Q
      have hW := Lib.hid (hW.out.trans (hb.mono hW.out.size))
      clear hb R HD1 T
      go_wp2_with fail
      refine (HC.out _).mono ?_
      rintro e w9 ⟨v9, rfl, C, hb⟩
      have HM1 := Lib.hid (HM.out _ _ _ _ w9 (by have := hL1.out; omega) (Q.out.keep hb) C)
      obtain ⟨s9, c9, rfl, _⟩ := C.slice
      have hW := Lib.hid (hW.out.trans (hb.mono hW.out.size))
      clear hb C Q
      go_wp2_with fail
      refine HM1.out.mono ?_
      rintro e w10 ⟨v10, L10, rfl, hL10, Q, hb⟩
      rw [hq] at Q
      have hL10 : Hid (L10 ≤ 2600) := by have := hL1.out; show _ ≤ _; omega
      have HL1 := Lib.hid (HL.out _ _ _ w10 (by have := hL10.out; omega) Q)
      have HLE1 := Lib.hid (HLE.out _ _ w10 (by have := hL10.out; omega) Q)
      have HSQ1 := Lib.hid (fun h => HSQ.out _ _ w10 h (by have := hL10.out; omega) Q)
      obtain ⟨s10, c10, rfl, _⟩ := Q.slice
      have hW := Lib.hid (hW.out.trans (hb.mono hW.out.size))
      clear hb HM1 Q
      go_wp2_with fail
      refine HL1.out.mono ?_
      rintro e w11 ⟨rfl, h11⟩
      subst h11
      clear HL1
      have HSL1 := Lib.hid (HSL.out _ (HB.out.keep hW.out))
      go_wp2_with fail
      refine HSL1.out.mono ?_
      rintro e w12 ⟨rfl, hb⟩
      have hW := hW.out.trans (hb.mono hW.out.size)
      go_wp2_with fail
      exact bodyPost_ret (results_tmp2 rfl _ _ _) rfl ⟨rfl, hW⟩
    · have hdq : decide (256 < (lg q : Int)) = false := decide_eq_false (by omega)
      clear hqM hx hlM hb hl
      go_enter Try.func29, Try.ntmps29
      go_wp2_with fail
      refine (HT.out _).mono ?_
      rintro e w1 ⟨v1, L1, rfl, hL1, T, hb1⟩
      have hL1 := Lib.hid hL1
      obtain ⟨s1, c1, rfl, _⟩ := T.slice
      have T := Lib.hid T
      have hW := Lib.hid hb1
      clear hb1
      go_wp2_with fail
      refine (HC.out _).mono ?_
      rintro e w2 ⟨v2, rfl, C, hb⟩
      have T := Lib.hid (T.out.keep hb)
      have HM1 := Lib.hid (HM.out _ _ _ _ w2 (by have := hL1.out; omega) T.out C)
      obtain ⟨s2, c2, rfl, _⟩ := C.slice
      have hW := Lib.hid (hW.out.trans (hb.mono hW.out.size))
      clear hb C
      go_wp2_with fail
      refine HM1.out.mono ?_
      rintro e w3 ⟨v3, L3, rfl, hL3, X, hb⟩
      have hL3 : Hid (L3 ≤ 2600) := by have := hL1.out; show _ ≤ _; omega
      have T := Lib.hid (T.out.keep hb)
      obtain ⟨s3, c3, rfl, _⟩ := X.slice
      have X := Lib.hid X
      have hW := Lib.hid (hW.out.trans (hb.mono hW.out.size))
      clear hb HM1
      go_wp2_with fail
      refine (HS.out _).mono ?_
      rintro e w4 ⟨v4, rfl, S, hb⟩
      have T := Lib.hid (T.out.keep hb)
      have X := Lib.hid (X.out.keep hb)
      have HD1 := Lib.hid (HD.out _ _ _ _ w4 (by have := hL3.out; omega) X.out S)
      obtain ⟨s4, c4, rfl, _⟩ := S.slice
      have hW := Lib.hid (hW.out.trans (hb.mono hW.out.size))
      clear hb S
      go_wp2_with fail
      refine HD1.out.mono ?_
      rintro e w5 ⟨v5, v5', L5, rfl, _, Q, R, hb⟩
      have T := Lib.hid (T.out.keep hb)
      have X := Lib.hid (X.out.keep hb)
      have HL1 := Lib.hid (HL.out _ _ _ w5 (by have := hL3.out; omega) X.out)
      obtain ⟨s5, c5, rfl, _⟩ := Q.slice
      obtain ⟨s5', c5', rfl, _⟩ := R.slice
      have Q := Lib.hid Q
      have hW := Lib.hid (hW.out.trans (hb.mono hW.out.size))
      clear hb R HD1 X
      go_wp2_with fail
      refine HL1.out.mono ?_
      rintro e w6 ⟨rfl, h6⟩
      subst h6
      clear HL1
      go_wp2_with fail
      refine (HS.out _).mono ?_
      rintro e w7 ⟨v7, rfl, S, hb⟩
      have T := Lib.hid (T.out.keep hb)
      have HD1 := Lib.hid (HD.out _ _ _ _ w7 (by have := hL1.out; omega) T.out S)
      obtain ⟨s7, c7, rfl, _⟩ := S.slice
      have hW := Lib.hid (hW.out.trans (hb.mono hW.out.size))
      clear hb S Q
      go_wp2_with fail
      refine HD1.out.mono ?_
      rintro e w8 ⟨v8, v8', L8, rfl, _, Q, R, hb⟩
      obtain ⟨s8, c8, rfl, _⟩ := Q.slice
      obtain ⟨s8', c8', rfl, _⟩ := R.slice
      have Q := Lib.hid Q
      have hW := Lib.hid (hW.out.trans (hb.mono hW.out.size))
      clear hb R HD1 T
      go_wp2_with fail
      refine (HC.out _).mono ?_
      rintro e w9 ⟨v9, rfl, C, hb⟩
      have HM1 := Lib.hid (HM.out _ _ _ _ w9 (by have := hL1.out; omega) (Q.out.keep hb) C)
      obtain ⟨s9, c9, rfl, _⟩ := C.slice
      have hW := Lib.hid (hW.out.trans (hb.mono hW.out.size))
      clear hb C Q
      go_wp2_with fail
      refine HM1.out.mono ?_
      rintro e w10 ⟨v10, L10, rfl, hL10, Q, hb⟩
      rw [hq] at Q
      have hL10 : Hid (L10 ≤ 2600) := by have := hL1.out; show _ ≤ _; omega
      have HL1 := Lib.hid (HL.out _ _ _ w10 (by have := hL10.out; omega) Q)
      have HLE1 := Lib.hid (HLE.out _ _ w10 (by have := hL10.out; omega) Q)
      have HSQ1 := Lib.hid (fun h => HSQ.out _ _ w10 h (by have := hL10.out; omega) Q)
      obtain ⟨s10, c10, rfl, _⟩ := Q.slice
      have hW := Lib.hid (hW.out.trans (hb.mono hW.out.size))
      clear hb HM1 Q
      go_wp2_with fail
      refine HL1.out.mono ?_
      rintro e w11 ⟨rfl, h11⟩
      subst h11
      clear HL1
      have HLE2 := Lib.hid (HLE1.out (HB.out.keep hW.out))
      have HSL1 := Lib.hid (HSL.out _ (HB.out.keep hW.out))
      rw [hless] at HLE2
      go_wp2_with fail
      refine HLE2.out.mono ?_
      rintro e w12 ⟨rfl, h12⟩
      subst h12
      clear HLE2
      go_wp2_with fail
      refine HSL1.out.mono ?_
      rintro e w13 ⟨rfl, hb⟩
      have hW := hW.out.trans (hb.mono hW.out.size)
      go_wp2_with fail
      exact bodyPost_ret (results_tmp2 rfl _ _ _) rfl ⟨rfl, hW⟩
  · have hless : decide (l < q) = false := decide_eq_false hl
    rw [if_neg hl] at hr
    subst hr
    have hqm : q < M256 := by omega
    have hdq : decide (256 < (lg q : Int)) = false := decide_eq_false (by have := mt hqM.1 (fun h => h hqm); omega)
    have HQM := Lib.hid hqm
    clear hqM hx hlM hl hqm
    go_enter Try.func29, Try.ntmps29
    go_wp2_with fail
    refine (HT.out _).mono ?_
    rintro e w1 ⟨v1, L1, rfl, hL1, T, hb1⟩
    have hL1 := Lib.hid hL1
    obtain ⟨s1, c1, rfl, _⟩ := T.slice
    have T := Lib.hid T
    have hW := Lib.hid hb1
    clear hb1
    go_wp2_with fail
    refine (HC.out _).mono ?_
    rintro e w2 ⟨v2, rfl, C, hb⟩
    have T := Lib.hid (T.out.keep hb)
    have HM1 := Lib.hid (HM.out _ _ _ _ w2 (by have := hL1.out; omega) T.out C)
    obtain ⟨s2, c2, rfl, _⟩ := C.slice
    have hW := Lib.hid (hW.out.trans (hb.mono hW.out.size))
    clear hb C
    go_wp2_with fail
    refine HM1.out.mono ?_
    rintro e w3 ⟨v3, L3, rfl, hL3, X, hb⟩
    have hL3 : Hid (L3 ≤ 2600) := by have := hL1.out; show _ ≤ _; omega
    have T := Lib.hid (T.out.keep hb)
    obtain ⟨s3, c3, rfl, _⟩ := X.slice
    have X := Lib.hid X
    have hW := Lib.hid (hW.out.trans (hb.mono hW.out.size))
    clear hb HM1
    go_wp2_with fail
    refine (HS.out _).mono ?_
    rintro e w4 ⟨v4, rfl, S, hb⟩
    have T := Lib.hid (T.out.keep hb)
    have X := Lib.hid (X.out.keep hb)
    have HD1 := Lib.hid (HD.out _ _ _ _ w4 (by have := hL3.out; omega) X.out S)
    obtain ⟨s4, c4, rfl, _⟩ := S.slice
    have hW := Lib.hid (hW.out.trans (hb.mono hW.out.size))
    clear hb S
    go_wp2_with fail
    refine HD1.out.mono ?_
    rintro e w5 ⟨v5, v5', L5, rfl, _, Q, R, hb⟩
    have T := Lib.hid (T.out.keep hb)
    have X := Lib.hid (X.out.keep hb)
    have HL1 := Lib.hid (HL.out _ _ _ w5 (by have := hL3.out; omega) X.out)
    obtain ⟨s5, c5, rfl, _⟩ := Q.slice
    obtain ⟨s5', c5', rfl, _⟩ := R.slice
    have Q := Lib.hid Q
    have hW := Lib.hid (hW.out.trans (hb.mono hW.out.size))
    clear hb R HD1 X
    go_wp2_with fail
    refine HL1.out.mono ?_
    rintro e w6 ⟨rfl, h6⟩
    subst h6
    clear HL1
    go_wp2_with fail
    refine (HS.out _).mono ?_
    rintro e w7 ⟨v7, rfl, S, hb⟩
    have T := Lib.hid (T.out.keep hb)
    have HD1 := Lib.hid (HD.out _ _ _ _ w7 (by have := hL1.out; omega) T.out S)
    obtain ⟨s7, c7, rfl, _⟩ := S.slice
    have hW := Lib.hid (hW.out.trans (hb.mono hW.out.size))
    clear hb S Q
    go_wp2_with fail
    refine HD1.out.mono ?_
    rintro e w8 ⟨v8, v8', L8, rfl, _, Q, R, hb⟩
    obtain ⟨s8, c8, rfl, _⟩ := Q.slice
    obtain ⟨s8', c8', rfl, _⟩ := R.slice
    have Q := Lib.hid Q
    have hW := Lib.hid (hW.out.trans (hb.mono hW.out.size))
    clear hb R HD1 T
    go_wp2_with fail
    refine (HC.out _).mono ?_
    rintro e w9 ⟨v9, rfl, C, hb⟩
    have HM1 := Lib.hid (HM.out _ _ _ _ w9 (by have := hL1.out; omega) (Q.out.keep hb) C)
    obtain ⟨s9, c9, rfl, _⟩ := C.slice
    have hW := Lib.hid (hW.out.trans (hb.mono hW.out.size))
    clear hb C Q
    go_wp2_with fail
    refine HM1.out.mono ?_
    rintro e w10 ⟨v10, L10, rfl, hL10, Q, hb⟩
    rw [hq] at Q
    have hL10 : Hid (L10 ≤ 2600) := by have := hL1.out; show _ ≤ _; omega
    have HL1 := Lib.hid (HL.out _ _ _ w10 (by have := hL10.out; omega) Q)
    have HLE1 := Lib.hid (HLE.out _ _ w10 (by have := hL10.out; omega) Q)
    have HSQ1 := Lib.hid (fun h => HSQ.out _ _ w10 h (by have := hL10.out; omega) Q)
    obtain ⟨s10, c10, rfl, _⟩ := Q.slice
    have hW := Lib.hid (hW.out.trans (hb.mono hW.out.size))
    clear hb HM1 Q
    go_wp2_with fail
    refine HL1.out.mono ?_
    rintro e w11 ⟨rfl, h11⟩
    subst h11
    clear HL1
    have HLE2 := Lib.hid (HLE1.out (HB.out.keep hW.out))
    have HSL1 := Lib.hid (HSL.out _ (HB.out.keep hW.out))
    rw [hless] at HLE2
    go_wp2_with fail
    refine HLE2.out.mono ?_
    rintro e w12 ⟨rfl, h12⟩
    subst h12
    clear HLE2
    go_wp2_with fail
    refine (HSQ1.out HQM.out).mono ?_
    rintro e w13 ⟨rfl, hb⟩
    have hW := hW.out.trans (hb.mono hW.out.size)
    go_wp2_with fail
    exact bodyPost_ret (results_tmp2 rfl _ _ _) rfl ⟨rfl, hW⟩
set_option maxRecDepth 100000 in
set_option maxHeartbeats 4000000 in
theorem next3_mid_no (b s c t q r l : Nat) (s0 : Option Addr) (c0 : Nat) (w : World) (HB : Hid (BX w (.slice s0 256 c0) l 256)) (h1 : 1 ≤ s) (h2 : s ≤ 1099511627776) (hcb : c ≤ 4398046511104)
    (hlo : ¬ (c : Int) < ((s : Int) / 4)) (hhi : ¬ 4 * (s : Int) < (c : Int)) (hr : r = if l < q then shortN l else shortN q) (hlM : l < M256)
    (hx : ¬ 256 < lg (t * c)) (hq : t * c / s = q)
    (HT : Hid (∀ W : World, Calls Try.prog 18 #[.int .u32 (b : Int)] W fun e w' => ∃ v L, e = .returned (.tuple #[v, .bool true]) ∧ L ≤ 2300 ∧ BX w' v t L ∧ Below W.heap.size W w'))
    (HC : Hid (∀ W : World, Calls Try.prog 41 #[.int .u64 (c : Int)] W fun e w' => ∃ v, e = .returned v ∧ BX w' v c 256 ∧ Below W.heap.size W w'))
    (HS : Hid (∀ W : World, Calls Try.prog 41 #[.int .u64 (s : Int)] W fun e w' => ∃ v, e = .returned v ∧ BX w' v s 256 ∧ Below W.heap.size W w'))
    (HM : Hid (∀ (u v : Value) (X L : Nat) (W : World), L ≤ 5000 → BX W u X L → BX W v c 256 → Calls Try.prog 10 #[u, v] W fun e w' => ∃ v' L', e = .returned v' ∧ L' ≤ L + 256 ∧ BX w' v' (X * c) L' ∧ Below W.heap.size W w'))
    (HD : Hid (∀ (u v : Value) (X L : Nat) (W : World), L ≤ 5000 → BX W u X L → BX W v s 256 → Calls Try.prog 15 #[u, v] W fun e w' => ∃ q l L', e = .returned (.tuple #[q, l]) ∧ L' ≤ 256 + L ∧ BX w' q (X / s) L ∧ BX w' l (X % s) L' ∧ Below W.heap.size W w'))
    (HL : Hid (∀ (v : Value) (X L : Nat) (W : World), L ≤ 9000 → BX W v X L → Calls Try.prog 42 #[v] W fun e w' => e = .returned (.int .i64 (lg X : Int)) ∧ w' = W))
    (HLE : Hid (∀ (v : Value) (L : Nat) (W : World), L ≤ 9000 → BX W v q L → BX W (.slice s0 256 c0) l 256 → Calls Try.prog 38 #[.slice s0 256 c0, v] W fun e w' => e = .returned (.bool (decide (l < q))) ∧ w' = W))
    (HSL : Hid (∀ (W : World), BX W (.slice s0 256 c0) l 256 → Calls Try.prog 23 #[.slice s0 256 c0] W fun e w' => e = .returned (.int .u32 (shortN l : Int)) ∧ Below W.heap.size W w'))
    (HSQ : Hid (∀ (v : Value) (L : Nat) (W : World), q < M256 → L ≤ 9000 → BX W v q L → Calls Try.prog 23 #[v] W fun e w' => e = .returned (.int .u32 (shortN q : Int)) ∧ Below W.heap.size W w'))
    : Calls Try.prog 29 #[.int .u32 (b : Int), .int .i64 (c : Int), .int .i64 (s : Int), .slice s0 256 c0] w fun e w' => e = .returned (.tuple #[.int .u32 (r : Int), .bool true]) ∧ Below w.heap.size w w' := by
  have hd1 : decide ((s : Int) < 1) = false := decide_eq_false (by omega)
  have hd2 : decide ((1099511627776 : Int) < (s : Int)) = false := decide_eq_false (by omega)
  have hd3 : decide ((c : Int) < ((s : Int) / 4)) = false := decide_eq_false hlo
  have hd4 : decide (4 * (s : Int) < (c : Int)) = false := decide_eq_false hhi
  have hdx : decide (256 < (lg (t * c) : Int)) = false := decide_eq_false (by omega)
  have hqM : (256 < lg q) ↔ ¬ q < M256 := by rw [← lg_256 q]; omega
  by_cases hl : l < q
  · have hless : decide (l < q) = true := decide_eq_true hl
    rw [if_pos hl] at hr
    subst hr
    by_cases hb : 256 < lg q
    · have hdq : decide (256 < (lg q : Int)) = true := decide_eq_true (by omega)
      clear hqM hx hlM hb hl
      go_enter Try.func29, Try.ntmps29
      go_wp2_with fail
      refine (HT.out _).mono ?_
      rintro e w1 ⟨v1, L1, rfl, hL1, T, hb1⟩
      have hL1 := Lib.hid hL1
      obtain ⟨s1, c1, rfl, _⟩ := T.slice
      have T := Lib.hid T
      have hW := Lib.hid hb1
      clear hb1
      go_wp2_with fail
      refine (HC.out _).mono ?_
      rintro e w2 ⟨v2, rfl, C, hb⟩
      have T := Lib.hid (T.out.keep hb)
      have HM1 := Lib.hid (HM.out _ _ _ _ w2 (by have := hL1.out; omega) T.out C)
      obtain ⟨s2, c2, rfl, _⟩ := C.slice
      have hW := Lib.hid (hW.out.trans (hb.mono hW.out.size))
      clear hb C
      go_wp2_with fail
      refine HM1.out.mono ?_
      rintro e w3 ⟨v3, L3, rfl, hL3, X, hb⟩
      have hL3 : Hid (L3 ≤ 2600) := by have := hL1.out; show _ ≤ _; omega
      have T := Lib.hid (T.out.keep hb)
      obtain ⟨s3, c3, rfl, _⟩ := X.slice
      have X := Lib.hid X
      have hW := Lib.hid (hW.out.trans (hb.mono hW.out.size))
      clear hb HM1
      go_wp2_with fail
      refine (HS.out _).mono ?_
      rintro e w4 ⟨v4, rfl, S, hb⟩
      have T := Lib.hid (T.out.keep hb)
      have X := Lib.hid (X.out.keep hb)
      have HD1 := Lib.hid (HD.out _ _ _ _ w4 (by have := hL3.out; omega) X.out S)
      obtain ⟨s4, c4, rfl, _⟩ := S.slice
      have hW := Lib.hid (hW.out.trans (hb.mono hW.out.size))
      clear hb S
      go_wp2_with fail
      refine HD1.out.mono ?_
      rintro e w5 ⟨v5, v5', L5, rfl, _, Q, R, hb⟩
      have T := Lib.hid (T.out.keep hb)
      have X := Lib.hid (X.out.keep hb)
      have HL1 := Lib.hid (HL.out _ _ _ w5 (by have := hL3.out; omega) X.out)
      obtain ⟨s5, c5, rfl, _⟩ := Q.slice
      obtain ⟨s5', c5', rfl, _⟩ := R.slice
      have Q := Lib.hid Q
      have hW := Lib.hid (hW.out.trans (hb.mono hW.out.size))
      clear hb R HD1 X
      go_wp2_with fail
      refine HL1.out.mono ?_
      rintro e w6 ⟨rfl, h6⟩
      subst h6
      clear HL1
      rw [hq] at Q
      have HL1 := Lib.hid (HL.out _ _ _ w6 (by have := hL3.out; omega) Q.out)
      have HLE1 := Lib.hid (HLE.out _ _ w6 (by have := hL3.out; omega) Q.out)
      have HSQ1 := Lib.hid (fun h => HSQ.out _ _ w6 h (by have := hL3.out; omega) Q.out)
      clear T Q
      go_wp2_with fail
      refine HL1.out.mono ?_
      rintro e w11 ⟨rfl, h11⟩
      subst h11
      clear HL1
      have HSL1 := Lib.hid (HSL.out _ (HB.out.keep hW.out))
      go_wp2_with fail
      refine HSL1.out.mono ?_
      rintro e w12 ⟨rfl, hb⟩
      have hW := hW.out.trans (hb.mono hW.out.size)
      go_wp2_with fail
      exact bodyPost_ret (results_tmp2 rfl _ _ _) rfl ⟨rfl, hW⟩
    · have hdq : decide (256 < (lg q : Int)) = false := decide_eq_false (by omega)
      clear hqM hx hlM hb hl
      go_enter Try.func29, Try.ntmps29
      go_wp2_with fail
      refine (HT.out _).mono ?_
      rintro e w1 ⟨v1, L1, rfl, hL1, T, hb1⟩
      have hL1 := Lib.hid hL1
      obtain ⟨s1, c1, rfl, _⟩ := T.slice
      have T := Lib.hid T
      have hW := Lib.hid hb1
      clear hb1
      go_wp2_with fail
      refine (HC.out _).mono ?_
      rintro e w2 ⟨v2, rfl, C, hb⟩
      have T := Lib.hid (T.out.keep hb)
      have HM1 := Lib.hid (HM.out _ _ _ _ w2 (by have := hL1.out; omega) T.out C)
      obtain ⟨s2, c2, rfl, _⟩ := C.slice
      have hW := Lib.hid (hW.out.trans (hb.mono hW.out.size))
      clear hb C
      go_wp2_with fail
      refine HM1.out.mono ?_
      rintro e w3 ⟨v3, L3, rfl, hL3, X, hb⟩
      have hL3 : Hid (L3 ≤ 2600) := by have := hL1.out; show _ ≤ _; omega
      have T := Lib.hid (T.out.keep hb)
      obtain ⟨s3, c3, rfl, _⟩ := X.slice
      have X := Lib.hid X
      have hW := Lib.hid (hW.out.trans (hb.mono hW.out.size))
      clear hb HM1
      go_wp2_with fail
      refine (HS.out _).mono ?_
      rintro e w4 ⟨v4, rfl, S, hb⟩
      have T := Lib.hid (T.out.keep hb)
      have X := Lib.hid (X.out.keep hb)
      have HD1 := Lib.hid (HD.out _ _ _ _ w4 (by have := hL3.out; omega) X.out S)
      obtain ⟨s4, c4, rfl, _⟩ := S.slice
      have hW := Lib.hid (hW.out.trans (hb.mono hW.out.size))
      clear hb S
      go_wp2_with fail
      refine HD1.out.mono ?_
      rintro e w5 ⟨v5, v5', L5, rfl, _, Q, R, hb⟩
      have T := Lib.hid (T.out.keep hb)
      have X := Lib.hid (X.out.keep hb)
      have HL1 := Lib.hid (HL.out _ _ _ w5 (by have := hL3.out; omega) X.out)
      obtain ⟨s5, c5, rfl, _⟩ := Q.slice
      obtain ⟨s5', c5', rfl, _⟩ := R.slice
      have Q := Lib.hid Q
      have hW := Lib.hid (hW.out.trans (hb.mono hW.out.size))
      clear hb R HD1 X
      go_wp2_with fail
      refine HL1.out.mono ?_
      rintro e w6 ⟨rfl, h6⟩
      subst h6
      clear HL1
      rw [hq] at Q
      have HL1 := Lib.hid (HL.out _ _ _ w6 (by have := hL3.out; omega) Q.out)
      have HLE1 := Lib.hid (HLE.out _ _ w6 (by have := hL3.out; omega) Q.out)
      have HSQ1 := Lib.hid (fun h => HSQ.out _ _ w6 h (by have := hL3.out; omega) Q.out)
      clear T Q
      go_wp2_with fail
      refine HL1.out.mono ?_
      rintro e w11 ⟨rfl, h11⟩
      subst h11
      clear HL1
      have HLE2 := Lib.hid (HLE1.out (HB.out.keep hW.out))
      have HSL1 := Lib.hid (HSL.out _ (HB.out.keep hW.out))
      rw [hless] at HLE2
      go_wp2_with fail
      refine HLE2.out.mono ?_
      rintro e w12 ⟨rfl, h12⟩
      subst h12
      clear HLE2
      go_wp2_with fail
      refine HSL1.out.mono ?_
      rintro e w13 ⟨rfl, hb⟩
      have hW := hW.out.trans (hb.mono hW.out.size)
      go_wp2_with fail
      exact bodyPost_ret (results_tmp2 rfl _ _ _) rfl ⟨rfl, hW⟩
  · have hless : decide (l < q) = false := decide_eq_false hl
    rw [if_neg hl] at hr
    subst hr
    have hqm : q < M256 := by omega
    have hdq : decide (256 < (lg q : Int)) = false := decide_eq_false (by have := mt hqM.1 (fun h => h hqm); omega)
    have HQM := Lib.hid hqm
    clear hqM hx hlM hl hqm
    go_enter Try.func29, Try.ntmps29
    go_wp2_with fail
    refine (HT.out _).mono ?_
    rintro e w1 ⟨v1, L1, rfl, hL1, T, hb1⟩
    have hL1 := Lib.hid hL1
    obtain ⟨s1, c1, rfl, _⟩ := T.slice
    have T := Lib.hid T
    have hW := Lib.hid hb1
    clear hb1
    go_wp2_with fail
    refine (HC.out _).mono ?_
    rintro e w2 ⟨v2, rfl, C, hb⟩
    have T := Lib.hid (T.out.keep hb)
    have HM1 := Lib.hid (HM.out _ _ _ _ w2 (by have := hL1.out; omega) T.out C)
    obtain ⟨s2, c2, rfl, _⟩ := C.slice
    have hW := Lib.hid (hW.out.trans (hb.mono hW.out.size))
    clear hb C
    go_wp2_with fail
    refine HM1.out.mono ?_
    rintro e w3 ⟨v3, L3, rfl, hL3, X, hb⟩
    have hL3 : Hid (L3 ≤ 2600) := by have := hL1.out; show _ ≤ _; omega
    have T := Lib.hid (T.out.keep hb)
    obtain ⟨s3, c3, rfl, _⟩ := X.slice
    have X := Lib.hid X
    have hW := Lib.hid (hW.out.trans (hb.mono hW.out.size))
    clear hb HM1
    go_wp2_with fail
    refine (HS.out _).mono ?_
    rintro e w4 ⟨v4, rfl, S, hb⟩
    have T := Lib.hid (T.out.keep hb)
    have X := Lib.hid (X.out.keep hb)
    have HD1 := Lib.hid (HD.out _ _ _ _ w4 (by have := hL3.out; omega) X.out S)
    obtain ⟨s4, c4, rfl, _⟩ := S.slice
    have hW := Lib.hid (hW.out.trans (hb.mono hW.out.size))
    clear hb S
    go_wp2_with fail
    refine HD1.out.mono ?_
    rintro e w5 ⟨v5, v5', L5, rfl, _, Q, R, hb⟩
    have T := Lib.hid (T.out.keep hb)
    have X := Lib.hid (X.out.keep hb)
    have HL1 := Lib.hid (HL.out _ _ _ w5 (by have := hL3.out; omega) X.out)
    obtain ⟨s5, c5, rfl, _⟩ := Q.slice
    obtain ⟨s5', c5', rfl, _⟩ := R.slice
    have Q := Lib.hid Q
    have hW := Lib.hid (hW.out.trans (hb.mono hW.out.size))
    clear hb R HD1 X
    go_wp2_with fail
    refine HL1.out.mono ?_
    rintro e w6 ⟨rfl, h6⟩
    subst h6
    clear HL1
    rw [hq] at Q
    have HL1 := Lib.hid (HL.out _ _ _ w6 (by have := hL3.out; omega) Q.out)
    have HLE1 := Lib.hid (HLE.out _ _ w6 (by have := hL3.out; omega) Q.out)
    have HSQ1 := Lib.hid (fun h => HSQ.out _ _ w6 h (by have := hL3.out; omega) Q.out)
    clear T Q
    go_wp2_with fail
    refine HL1.out.mono ?_
    rintro e w11 ⟨rfl, h11⟩
    subst h11
    clear HL1
    have HLE2 := Lib.hid (HLE1.out (HB.out.keep hW.out))
    have HSL1 := Lib.hid (HSL.out _ (HB.out.keep hW.out))
    rw [hless] at HLE2
    go_wp2_with fail
    refine HLE2.out.mono ?_
    rintro e w12 ⟨rfl, h12⟩
    subst h12
    clear HLE2
    go_wp2_with fail
    refine (HSQ1.out HQM.out).mono ?_
    rintro e w13 ⟨rfl, hb⟩
    have hW := hW.out.trans (hb.mono hW.out.size)
    go_wp2_with fail
    exact bodyPost_ret (results_tmp2 rfl _ _ _) rfl ⟨rfl, hW⟩
set_option maxRecDepth 100000 in
set_option maxHeartbeats 4000000 in
theorem next3_mid_ov (b s c t q r l : Nat) (s0 : Option Addr) (c0 : Nat) (w : World) (HB : Hid (BX w (.slice s0 256 c0) l 256)) (h1 : 1 ≤ s) (h2 : s ≤ 1099511627776) (hcb : c ≤ 4398046511104)
    (hlo : ¬ (c : Int) < ((s : Int) / 4)) (hhi : ¬ 4 * (s : Int) < (c : Int)) (hr : r = if l < q then shortN l else shortN q) (hlM : l < M256)
    (hx : 256 < lg (t * c)) (hq : t / s * c = q)
    (HT : Hid (∀ W : World, Calls Try.prog 18 #[.int .u32 (b : Int)] W fun e w' => ∃ v L, e = .returned (.tuple #[v, .bool true]) ∧ L ≤ 2300 ∧ BX w' v t L ∧ Below W.heap.size W w'))
    (HC : Hid (∀ W : World, Calls Try.prog 41 #[.int .u64 (c : Int)] W fun e w' => ∃ v, e = .returned v ∧ BX w' v c 256 ∧ Below W.heap.size W w'))
    (HS : Hid (∀ W : World, Calls Try.prog 41 #[.int .u64 (s : Int)] W fun e w' => ∃ v, e = .returned v ∧ BX w' v s 256 ∧ Below W.heap.size W w'))
    (HM : Hid (∀ (u v : Value) (X L : Nat) (W : World), L ≤ 5000 → BX W u X L → BX W v c 256 → Calls Try.prog 10 #[u, v] W fun e w' => ∃ v' L', e = .returned v' ∧ L' ≤ L + 256 ∧ BX w' v' (X * c) L' ∧ Below W.heap.size W w'))
    (HD : Hid (∀ (u v : Value) (X L : Nat) (W : World), L ≤ 5000 → BX W u X L → BX W v s 256 → Calls Try.prog 15 #[u, v] W fun e w' => ∃ q l L', e = .returned (.tuple #[q, l]) ∧ L' ≤ 256 + L ∧ BX w' q (X / s) L ∧ BX w' l (X % s) L' ∧ Below W.heap.size W w'))
    (HL : Hid (∀ (v : Value) (X L : Nat) (W : World), L ≤ 9000 → BX W v X L → Calls Try.prog 42 #[v] W fun e w' => e = .returned (.int .i64 (lg X : Int)) ∧ w' = W))
    (HLE : Hid (∀ (v : Value) (L : Nat) (W : World), L ≤ 9000 → BX W v q L → BX W (.slice s0 256 c0) l 256 → Calls Try.prog 38 #[.slice s0 256 c0, v] W fun e w' => e = .returned (.bool (decide (l < q))) ∧ w' = W))
    (HSL : Hid (∀ (W : World), BX W (.slice s0 256 c0) l 256 → Calls Try.prog 23 #[.slice s0 256 c0] W fun e w' => e = .returned (.int .u32 (shortN l : Int)) ∧ Below W.heap.size W w'))
    (HSQ : Hid (∀ (v : Value) (L : Nat) (W : World), q < M256 → L ≤ 9000 → BX W v q L → Calls Try.prog 23 #[v] W fun e w' => e = .returned (.int .u32 (shortN q : Int)) ∧ Below W.heap.size W w'))
    : Calls Try.prog 29 #[.int .u32 (b : Int), .int .i64 (c : Int), .int .i64 (s : Int), .slice s0 256 c0] w fun e w' => e = .returned (.tuple #[.int .u32 (r : Int), .bool true]) ∧ Below w.heap.size w w' := by
  have hd1 : decide ((s : Int) < 1) = false := decide_eq_false (by omega)
  have hd2 : decide ((1099511627776 : Int) < (s : Int)) = false := decide_eq_false (by omega)
  have hd3 : decide ((c : Int) < ((s : Int) / 4)) = false := decide_eq_false hlo
  have hd4 : decide (4 * (s : Int) < (c : Int)) = false := decide_eq_false hhi
  have hdx : decide (256 < (lg (t * c) : Int)) = true := decide_eq_true (by omega)
  have hqM : (256 < lg q) ↔ ¬ q < M256 := by rw [← lg_256 q]; omega
  by_cases hl : l < q
  · have hless : decide (l < q) = true := decide_eq_true hl
    rw [if_pos hl] at hr
    subst hr
    by_cases hb : 256 < lg q
    · have hdq : decide (256 < (lg q : Int)) = true := decide_eq_true (by omega)
      clear hqM hx hlM hb hl
      go_enter Try.func29, Try.ntmps29
      go_wp2_with fail
      refine (HT.out _).mono ?_
      rintro e w1 ⟨v1, L1, rfl, hL1, T, hb1⟩
      have hL1 := Lib.hid hL1
      obtain ⟨s1, c1, rfl, _⟩ := T.slice
      have T := Lib.hid T
      have hW := Lib.hid hb1
      clear hb1
      go_wp2_with fail
      refine (HC.out _).mono ?_
      rintro e w2 ⟨v2, rfl, C, hb⟩
      have T := Lib.hid (T.out.keep hb)
      have HM1 := Lib.hid (HM.out _ _ _ _ w2 (by have := hL1.out; omega) T.out C)
      obtain ⟨s2, c2, rfl, _⟩ := C.slice
      have hW := Lib.hid (hW.out.trans (hb.mono hW.out.size))
      clear hb C
      go_wp2_with fail
      refine HM1.out.mono ?_
      rintro e w3 ⟨v3, L3, rfl, hL3, X, hb⟩
      have hL3 : Hid (L3 ≤ 2600) := by have := hL1.out; show _ ≤ _; omega
      have T := Lib.hid (T.out.keep hb)
      obtain ⟨s3, c3, rfl, _⟩ := X.slice
      have X := Lib.hid X
      have hW := Lib.hid (hW.out.trans (hb.mono hW.out.size))
      clear hb HM1
      go_wp2_with fail
      refine (HS.out _).mono ?_
      rintro e w4 ⟨v4, rfl, S, hb⟩
      have T := Lib.hid (T.out.keep hb)
      have X := Lib.hid (X.out.keep hb)
      have HD1 := Lib.hid (HD.out _ _ _ _ w4 (by have := hL3.out; omega) X.out S)
      obtain ⟨s4, c4, rfl, _⟩ := S.slice
      have hW := Lib.hid (hW.out.trans (hb.mono hW.out.size))
      clear hb S
      go_wp2_with fail
      refine HD1.out.mono ?_
      rintro e w5 ⟨v5, v5', L5, rfl, _, Q, R, hb⟩
      have T := Lib.hid (T.out.keep hb)
      have X := Lib.hid (X.out.keep hb)
      have HL1 := Lib.hid (HL.out _ _ _ w5 (by have := hL3.out; omega) X.out)
      obtain ⟨s5, c5, rfl, _⟩ := Q.slice
      obtain ⟨s5', c5', rfl, _⟩ := R.slice
      have Q := Lib.hid Q
      have hW := Lib.hid (hW.out.trans (hb.mono hW.out.size))
      clear hb R HD1 X
      go_wp2_with fail
      refine HL1.out.mono ?_
      rintro e w6 ⟨rfl, h6⟩
      subst h6
      clear HL1
      go_wp2_with fail
      refine (HS.out _).mono ?_
      rintro e w7 ⟨v7, rfl, S, hb⟩
      have T := Lib.hid (T.out.keep hb)
      have HD1 := Lib.hid (HD.out _ _ _ _ w7 (by have := hL1.out; omega) T.out S)
      obtain ⟨s7, c7, rfl, _⟩ := S.slice
      have hW := Lib.hid (hW.out.trans (hb.mono hW.out.size))
      clear hb S Q
      go_wp2_with fail
      refine HD1.out.mono ?_
      rintro e w8 ⟨v8, v8', L8, rfl, _, Q, R, hb⟩
      obtain ⟨s8, c8, rfl, _⟩ := Q.slice
      obtain ⟨s8', c8', rfl, _⟩ := R.slice
      have Q := Lib.hid Q
      have hW := Lib.hid (hW.out.trans (hb.mono hW.out.size))
      clear hb R HD1 T
      go_wp2_with fail
      refine (HC.out _).mono ?_
      rintro e w9 ⟨v9, rfl, C, hb⟩
      have HM1 := Lib.hid (HM.out _ _ _ _ w9 (by have := hL1.out; omega) (Q.out.keep hb) C)
      obtain ⟨s9, c9, rfl, _⟩ := C.slice
      have hW := Lib.hid (hW.out.trans (hb.mono hW.out.size))
      clear hb C Q
      go_wp2_with fail
      refine HM1.out.mono ?_
      rintro e w10 ⟨v10, L10, rfl, hL10, Q, hb⟩
      rw [hq] at Q
      have hL10 : Hid (L10 ≤ 2600) := by have := hL1.out; show _ ≤ _; omega
      have HL1 := Lib.hid (HL.out _ _ _ w10 (by have := hL10.out; omega) Q)
      have HLE1 := Lib.hid (HLE.out _ _ w10 (by have := hL10.out; omega) Q)
      have HSQ1 := Lib.hid (fun h => HSQ.out _ _ w10 h (by have := hL10.out; omega) Q)
      obtain ⟨s10, c10, rfl, _⟩ := Q.slice
      have hW := Lib.hid (hW.out.trans (hb.mono hW.out.size))
      clear hb HM1 Q
      go_wp2_with fail
      refine HL1.out.mono ?_
      rintro e w11 ⟨rfl, h11⟩
      subst h11
      clear HL1
      have HSL1 := Lib.hid (HSL.out _ (HB.out.keep hW.out))
      go_wp2_with fail
      refine HSL1.out.mono ?_
      rintro e w12 ⟨rfl, hb⟩
      have hW := hW.out.trans (hb.mono hW.out.size)
      go_wp2_with fail
      exact bodyPost_ret (results_tmp2 rfl _ _ _) rfl ⟨rfl, hW⟩
    · have hdq : decide (256 < (lg q : Int)) = false := decide_eq_false (by omega)
      clear hqM hx hlM hb hl
      go_enter Try.func29, Try.ntmps29
      go_wp2_with fail
      refine (HT.out _).mono ?_
      rintro e w1 ⟨v1, L1, rfl, hL1, T, hb1⟩
      have hL1 := Lib.hid hL1
      obtain ⟨s1, c1, rfl, _⟩ := T.slice
      have T := Lib.hid T
      have hW := Lib.hid hb1
      clear hb1
      go_wp2_with fail
      refine (HC.out _).mono ?_
      rintro e w2 ⟨v2, rfl, C, hb⟩
      have T := Lib.hid (T.out.keep hb)
      have HM1 := Lib.hid (HM.out _ _ _ _ w2 (by have := hL1.out; omega) T.out C)
      obtain ⟨s2, c2, rfl, _⟩ := C.slice
      have hW := Lib.hid (hW.out.trans (hb.mono hW.out.size))
      clear hb C
      go_wp2_with fail
      refine HM1.out.mono ?_
      rintro e w3 ⟨v3, L3, rfl, hL3, X, hb⟩
      have hL3 : Hid (L3 ≤ 2600) := by have := hL1.out; show _ ≤ _; omega
      have T := Lib.hid (T.out.keep hb)
      obtain ⟨s3, c3, rfl, _⟩ := X.slice
      have X := Lib.hid X
      have hW := Lib.hid (hW.out.trans (hb.mono hW.out.size))
      clear hb HM1
      go_wp2_with fail
      refine (HS.out _).mono ?_
      rintro e w4 ⟨v4, rfl, S, hb⟩
      have T := Lib.hid (T.out.keep hb)
      have X := Lib.hid (X.out.keep hb)
      have HD1 := Lib.hid (HD.out _ _ _ _ w4 (by have := hL3.out; omega) X.out S)
      obtain ⟨s4, c4, rfl, _⟩ := S.slice
      have hW := Lib.hid (hW.out.trans (hb.mono hW.out.size))
      clear hb S
      go_wp2_with fail
      refine HD1.out.mono ?_
      rintro e w5 ⟨v5, v5', L5, rfl, _, Q, R, hb⟩
      have T := Lib.hid (T.out.keep hb)
      have X := Lib.hid (X.out.keep hb)
      have HL1 := Lib.hid (HL.out _ _ _ w5 (by have := hL3.out; omega) X.out)
      obtain ⟨s5, c5, rfl, _⟩ := Q.slice
      obtain ⟨s5', c5', rfl, _⟩ := R.slice
      have Q := Lib.hid Q
      have hW := Lib.hid (hW.out.trans (hb.mono hW.out.size))
      clear hb R HD1 X
      go_wp2_with fail
      refine HL1.out.mono ?_
      rintro e w6 ⟨rfl, h6⟩
      subst h6
      clear HL1
      go_wp2_with fail
      refine (HS.out _).mono ?_
      rintro e w7 ⟨v7, rfl, S, hb⟩
      have T := Lib.hid (T.out.keep hb)
      have HD1 := Lib.hid (HD.out _ _ _ _ w7 (by have := hL1.out; omega) T.out S)
      obtain ⟨s7, c7, rfl, _⟩ := S.slice
      have hW := Lib.hid (hW.out.trans (hb.mono hW.out.size))
      clear hb S Q
      go_wp2_with fail
      refine HD1.out.mono ?_
      rintro e w8 ⟨v8, v8', L8, rfl, _, Q, R, hb⟩
      obtain ⟨s8, c8, rfl, _⟩ := Q.slice
      obtain ⟨s8', c8', rfl, _⟩ := R.slice
      have Q := Lib.hid Q
      have hW := Lib.hid (hW.out.trans (hb.mono hW.out.size))
      clear hb R HD1 T
      go_wp2_with fail
      refine (HC.out _).mono ?_
      rintro e w9 ⟨v9, rfl, C, hb⟩
      have HM1 := Lib.hid (HM.out _ _ _ _ w9 (by have := hL1.out; omega) (Q.out.keep hb) C)
      obtain ⟨s9, c9, rfl, _⟩ := C.slice
      have hW := Lib.hid (hW.out.trans (hb.mono hW.out.size))
      clear hb C Q
      go_wp2_with fail
      refine HM1.out.mono ?_
      rintro e w10 ⟨v10, L10, rfl, hL10, Q, hb⟩
      rw [hq] at Q
      have hL10 : Hid (L10 ≤ 2600) := by have := hL1.out; show _ ≤ _; omega
      have HL1 := Lib.hid (HL.out _ _ _ w10 (by have := hL10.out; omega) Q)
      have HLE1 := Lib.hid (HLE.out _ _ w10 (by have := hL10.out; omega) Q)
      have HSQ1 := Lib.hid (fun h => HSQ.out _ _ w10 h (by have := hL10.out; omega) Q)
      obtain ⟨s10, c10, rfl, _⟩ := Q.slice
      have hW := Lib.hid (hW.out.trans (hb.mono hW.out.size))
      clear hb HM1 Q
      go_wp2_with fail
      refine HL1.out.mono ?_
      rintro e w11 ⟨rfl, h11⟩
      subst h11
      clear HL1
      have HLE2 := Lib.hid (HLE1.out (HB.out.keep hW.out))
      have HSL1 := Lib.hid (HSL.out _ (HB.out.keep hW.out))
      rw [hless] at HLE2
      go_wp2_with fail
      refine HLE2.out.mono ?_
      rintro e w12 ⟨rfl, h12⟩
      subst h12
      clear HLE2
      go_wp2_with fail
      refine HSL1.out.mono ?_
      rintro e w13 ⟨rfl, hb⟩
      have hW := hW.out.trans (hb.mono hW.out.size)
      go_wp2_with fail
      exact bodyPost_ret (results_tmp2 rfl _ _ _) rfl ⟨rfl, hW⟩
  · have hless : decide (l < q) = false := decide_eq_false hl
    rw [if_neg hl] at hr
    subst hr
    have hqm : q < M256 := by omega
    have hdq : decide (256 < (lg q : Int)) = false := decide_eq_false (by have := mt hqM.1 (fun h => h hqm); omega)
    have HQM := Lib.hid hqm
    clear hqM hx hlM hl hqm
    go_enter Try.func29, Try.ntmps29
    go_wp2_with fail
    refine (HT.out _).mono ?_
    rintro e w1 ⟨v1, L1, rfl, hL1, T, hb1⟩
    have hL1 := Lib.hid hL1
    obtain ⟨s1, c1, rfl, _⟩ := T.slice
    have T := Lib.hid T
    have hW := Lib.hid hb1
    clear hb1
    go_wp2_with fail
    refine (HC.out _).mono ?_
    rintro e w2 ⟨v2, rfl, C, hb⟩
    have T := Lib.hid (T.out.keep hb)
    have HM1 := Lib.hid (HM.out _ _ _ _ w2 (by have := hL1.out; omega) T.out C)
    obtain ⟨s2, c2, rfl, _⟩ := C.slice
    have hW := Lib.hid (hW.out.trans (hb.mono hW.out.size))
    clear hb C
    go_wp2_with fail
    refine HM1.out.mono ?_
    rintro e w3 ⟨v3, L3, rfl, hL3, X, hb⟩
    have hL3 : Hid (L3 ≤ 2600) := by have := hL1.out; show _ ≤ _; omega
    have T := Lib.hid (T.out.keep hb)
    obtain ⟨s3, c3, rfl, _⟩ := X.slice
    have X := Lib.hid X
    have hW := Lib.hid (hW.out.trans (hb.mono hW.out.size))
    clear hb HM1
    go_wp2_with fail
    refine (HS.out _).mono ?_
    rintro e w4 ⟨v4, rfl, S, hb⟩
    have T := Lib.hid (T.out.keep hb)
    have X := Lib.hid (X.out.keep hb)
    have HD1 := Lib.hid (HD.out _ _ _ _ w4 (by have := hL3.out; omega) X.out S)
    obtain ⟨s4, c4, rfl, _⟩ := S.slice
    have hW := Lib.hid (hW.out.trans (hb.mono hW.out.size))
    clear hb S
    go_wp2_with fail
    refine HD1.out.mono ?_
    rintro e w5 ⟨v5, v5', L5, rfl, _, Q, R, hb⟩
    have T := Lib.hid (T.out.keep hb)
    have X := Lib.hid (X.out.keep hb)
    have HL1 := Lib.hid (HL.out _ _ _ w5 (by have := hL3.out; omega) X.out)
    obtain ⟨s5, c5, rfl, _⟩ := Q.slice
    obtain ⟨s5', c5', rfl, _⟩ := R.slice
    have Q := Lib.hid Q
    have hW := Lib.hid (hW.out.trans (hb.mono hW.out.size))
    clear hb R HD1 X
    go_wp2_with fail
    refine HL1.out.mono ?_
    rintro e w6 ⟨rfl, h6⟩
    subst h6
    clear HL1
    go_wp2_with fail
    refine (HS.out _).mono ?_
    rintro e w7 ⟨v7, rfl, S, hb⟩
    have T := Lib.hid (T.out.keep hb)
    have HD1 := Lib.hid (HD.out _ _ _ _ w7 (by have := hL1.out; omega) T.out S)
    obtain ⟨s7, c7, rfl, _⟩ := S.slice
    have hW := Lib.hid (hW.out.trans (hb.mono hW.out.size))
    clear hb S Q
    go_wp2_with fail
    refine HD1.out.mono ?_
    rintro e w8 ⟨v8, v8', L8, rfl, _, Q, R, hb⟩
    obtain ⟨s8, c8, rfl, _⟩ := Q.slice
    obtain ⟨s8', c8', rfl, _⟩ := R.slice
    have Q := Lib.hid Q
    have hW := Lib.hid (hW.out.trans (hb.mono hW.out.size))
    clear hb R HD1 T
    go_wp2_with fail
    refine (HC.out _).mono ?_
    rintro e w9 ⟨v9, rfl, C, hb⟩
    have HM1 := Lib.hid (HM.out _ _ _ _ w9 (by have := hL1.out; omega) (Q.out.keep hb) C)
    obtain ⟨s9, c9, rfl, _⟩ := C.slice
    have hW := Lib.hid (hW.out.trans (hb.mono hW.out.size))
    clear hb C Q
    go_wp2_with fail
    refine HM1.out.mono ?_
    rintro e w10 ⟨v10, L10, rfl, hL10, Q, hb⟩
    rw [hq] at Q
    have hL10 : Hid (L10 ≤ 2600) := by have := hL1.out; show _ ≤ _; omega
    have HL1 := Lib.hid (HL.out _ _ _ w10 (by have := hL10.out; omega) Q)
    have HLE1 := Lib.hid (HLE.out _ _ w10 (by have := hL10.out; omega) Q)
    have HSQ1 := Lib.hid (fun h => HSQ.out _ _ w10 h (by have := hL10.out; omega) Q)
    obtain ⟨s10, c10, rfl, _⟩ := Q.slice
    have hW := Lib.hid (hW.out.trans (hb.mono hW.out.size))
    clear hb HM1 Q
    go_wp2_with fail
    refine HL1.out.mono ?_
    rintro e w11 ⟨rfl, h11⟩
    subst h11
    clear HL1
    have HLE2 := Lib.hid (HLE1.out (HB.out.keep hW.out))
    have HSL1 := Lib.hid (HSL.out _ (HB.out.keep hW.out))
    rw [hless] at HLE2
    go_wp2_with fail
    refine HLE2.out.mono ?_
    rintro e w12 ⟨rfl, h12⟩
    subst h12
    clear HLE2
    go_wp2_with fail
    refine (HSQ1.out HQM.out).mono ?_
    rintro e w13 ⟨rfl, hb⟩
    have hW := hW.out.trans (hb.mono hW.out.size)
    go_wp2_with fail
    exact bodyPost_ret (results_tmp2 rfl _ _ _) rfl ⟨rfl, hW⟩
end Go.Proofs.Ytkkkfcdoilojmaa
