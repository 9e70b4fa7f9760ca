/-
  What is proved: for any two numbers the law WireSmall returns true, and its arguments read behind the call as they read before it. No condition.
-/
import Derived.Test.YtkifehabajchhaaWls
import Derived.Test.YtkifehabajchhaaOpen
namespace Go.Proofs.Ytkifehabajchhaa.wireSmall
open Go.ChangeShapes Go.WideShapes Go.ChangeAt Go.RowKit
set_option linter.unusedVariables false

theorem own : ownKnob Try.prog.godebug = none := by kernel_rfl
theorem laidOut : laidOutB Try.prog = true := by kernel_rfl

theorem wp_any2 {P : Program} {c : Code} {Q : Exit → Act → World → Prop} {a : Act} {w : World} (S : World → Prop) (hS : S w) (h : ∀ W, S W → c.wp P Q a W) : c.wp P Q a w := h w hS
theorem len_one (a : Nat) (h1 : a < 253) : ([] ++ countL a).length = 1 := by unfold countL; rw [if_pos h1]; rfl
theorem len_three (a : Nat) (h0 : 253 ≤ a) (h1 : a < 65536) : ([] ++ countL a).length = 3 := by unfold countL; rw [if_neg (by omega), if_pos h1]; rfl
theorem len_five (a : Nat) (h0 : 65536 ≤ a) (h1 : a < 4294967296) : ([] ++ countL a).length = 5 := by unfold countL; rw [if_neg (by omega), if_neg (by omega), if_pos h1]; rfl
theorem len_nine (a : Nat) (h0 : 4294967296 ≤ a) : ([] ++ countL a).length = 9 := by unfold countL; rw [if_neg (by omega), if_neg (by omega), if_neg (by omega)]; rfl
theorem len_mono (a b : Nat) (h : a ≤ b) : ([] ++ countL a).length ≤ ([] ++ countL b).length := by
  by_cases a1 : a < 253
  · rw [len_one a a1]
    by_cases b1 : b < 253
    · rw [len_one b b1]; omega
    by_cases b2 : b < 65536
    · rw [len_three b (by omega) b2]; omega
    by_cases b3 : b < 4294967296
    · rw [len_five b (by omega) b3]; omega
    · rw [len_nine b (by omega)]; omega
  by_cases a2 : a < 65536
  · rw [len_three a (by omega) a2]
    by_cases b2 : b < 65536
    · rw [len_three b (by omega) b2]; omega
    by_cases b3 : b < 4294967296
    · rw [len_five b (by omega) b3]; omega
    · rw [len_nine b (by omega)]; omega
  by_cases a3 : a < 4294967296
  · rw [len_five a (by omega) a3]
    by_cases b3 : b < 4294967296
    · rw [len_five b (by omega) b3]; omega
    · rw [len_nine b (by omega)]; omega
  · rw [len_nine a (by omega), len_nine b (by omega)]; omega
set_option maxRecDepth 100000 in
set_option maxHeartbeats 1000000 in
theorem walk_one_gt (a b : Nat) (w : World) (h1 : a < 253) (hab : b < a) :
    Calls Try.prog 6 #[.int .u64 (a : Int), .int .u64 (b : Int)] w fun e w' => e = .returned (.bool true) ∧ Below w.heap.size w w' := by
  have d0 : decide ((a : Int) < 253) = true := decide_eq_true (by omega)
  have dg : decide ((b : Int) < (a : Int)) = true := decide_eq_true (by omega)
  have HL := Lib.hid (len_one a h1)
  go_enter Try.func6, Try.ntmps6
  go_wp2_with fail
  refine (writes_any _).mono ?_
  rintro e w1 ⟨rfl, hb1⟩
  go_upto_region 4 with fail
  have hA0 : Below w1.heap.size w1 (w1.alloc (.cells #[.slice none 0 0] 54)) := (Below.refl _ _).alloc (Nat.le_refl _) _
  refine wp_any2 (fun W => Below w.heap.size w W ∧ Bk W w1.heap.size 54 #[.slice none 0 0] ∧ Bk W (w1.heap.size + 1) 54 #[.slice none 0 0])
    ⟨hb1.trans ((hA0.alloc (by simp) _).mono hb1.size), (Bk.new _ _ _).alloc _, Bk.new' _ _ _ (by simp)⟩ ?_
  have hgw := hb1.size
  clear hb1 hA0
  generalize w1.heap.size = g at *
  rintro W ⟨hW, G, K⟩
  have hgW := K.lt
  go_wp2_with fail
  have M0 : Mine W (g + 2) (.slice none 0 0) [] := .inl ⟨rfl, rfl⟩
  refine (count_any g (g + 2) a [] _ W G M0 (by omega) (by simp)).mono ?_
  rintro e w2 h
  have hW := hW.trans (h.below M0 (B := w.heap.size) (by omega) hgw hW.size)
  obtain ⟨rfl, v1, G1, M1, B1, O1⟩ := h
  have K1 := B1.keep K (by rintro (h | h); omega; exact slb_none _ _ _ h)
  obtain ⟨s1, c1, e1⟩ := M1.slice
  rw [HL.out] at e1
  subst e1
  clear G K M1 B1 O1 M0
  have hgW := K1.lt
  go_wp2_with fail
  have M0 : Mine w2 (g + 2) (.slice none 0 0) [] := .inl ⟨rfl, rfl⟩
  refine (count_any (g + 1) (g + 2) b [] _ w2 K1 M0 (by omega) (by simp)).mono ?_
  rintro e w3 h
  have hW := hW.trans (h.below M0 (B := w.heap.size) (by omega) (by omega) hW.size)
  obtain ⟨rfl, v2, K2, M2, B2, O2⟩ := h
  have G2 := B2.keep G1 (by rintro (h | h); omega; exact slb_none _ _ _ h)
  obtain ⟨s2, c2, rfl⟩ := M2.slice
  clear G1 K1 M2 B2 O2 M0
  generalize ([] ++ countL b).length = lb at *
  go_wp2_with fail
  refine (wlen_any g 1 s1 c1 w3 G2).mono ?_
  rintro e w4 ⟨rfl, rfl⟩
  go_wp2_with fail
  go_ret
  exact ⟨rfl, hW⟩
set_option maxRecDepth 100000 in
set_option maxHeartbeats 1000000 in
theorem walk_one_le (a b : Nat) (w : World) (h1 : a < 253) (hab : a ≤ b) :
    Calls Try.prog 6 #[.int .u64 (a : Int), .int .u64 (b : Int)] w fun e w' => e = .returned (.bool true) ∧ Below w.heap.size w w' := by
  have d0 : decide ((a : Int) < 253) = true := decide_eq_true (by omega)
  have dg : decide ((b : Int) < (a : Int)) = false := decide_eq_false (by omega)
  have hm := len_mono a b hab
  rw [len_one a h1] at hm
  have HL := Lib.hid (len_one a h1)
  go_enter Try.func6, Try.ntmps6
  go_wp2_with fail
  refine (writes_any _).mono ?_
  rintro e w1 ⟨rfl, hb1⟩
  go_upto_region 4 with fail
  have hA0 : Below w1.heap.size w1 (w1.alloc (.cells #[.slice none 0 0] 54)) := (Below.refl _ _).alloc (Nat.le_refl _) _
  refine wp_any2 (fun W => Below w.heap.size w W ∧ Bk W w1.heap.size 54 #[.slice none 0 0] ∧ Bk W (w1.heap.size + 1) 54 #[.slice none 0 0])
    ⟨hb1.trans ((hA0.alloc (by simp) _).mono hb1.size), (Bk.new _ _ _).alloc _, Bk.new' _ _ _ (by simp)⟩ ?_
  have hgw := hb1.size
  clear hb1 hA0
  generalize w1.heap.size = g at *
  rintro W ⟨hW, G, K⟩
  have hgW := K.lt
  go_wp2_with fail
  have M0 : Mine W (g + 2) (.slice none 0 0) [] := .inl ⟨rfl, rfl⟩
  refine (count_any g (g + 2) a [] _ W G M0 (by omega) (by simp)).mono ?_
  rintro e w2 h
  have hW := hW.trans (h.below M0 (B := w.heap.size) (by omega) hgw hW.size)
  obtain ⟨rfl, v1, G1, M1, B1, O1⟩ := h
  have K1 := B1.keep K (by rintro (h | h); omega; exact slb_none _ _ _ h)
  obtain ⟨s1, c1, e1⟩ := M1.slice
  rw [HL.out] at e1
  subst e1
  clear G K M1 B1 O1 M0
  have hgW := K1.lt
  go_wp2_with fail
  have M0 : Mine w2 (g + 2) (.slice none 0 0) [] := .inl ⟨rfl, rfl⟩
  refine (count_any (g + 1) (g + 2) b [] _ w2 K1 M0 (by omega) (by simp)).mono ?_
  rintro e w3 h
  have hW := hW.trans (h.below M0 (B := w.heap.size) (by omega) (by omega) hW.size)
  obtain ⟨rfl, v2, K2, M2, B2, O2⟩ := h
  have G2 := B2.keep G1 (by rintro (h | h); omega; exact slb_none _ _ _ h)
  obtain ⟨s2, c2, rfl⟩ := M2.slice
  clear G1 K1 M2 B2 O2 M0
  generalize ([] ++ countL b).length = lb at *
  go_wp2_with fail
  refine (wlen_any g 1 s1 c1 w3 G2).mono ?_
  rintro e w4 ⟨rfl, rfl⟩
  go_wp2_with fail
  refine (wlen_any (g + 1) lb s2 c2 w4 K2).mono ?_
  rintro e w5 ⟨rfl, rfl⟩
  have dl : decide ((1 : Int) ≤ (lb : Int)) = true := decide_eq_true (by omega)
  go_wp2_with fail
  go_ret
  exact ⟨rfl, hW⟩
set_option maxRecDepth 100000 in
set_option maxHeartbeats 1000000 in
theorem walk_three_gt (a b : Nat) (w : World) (h0 : 253 ≤ a) (h1 : a < 65536) (hab : b < a) :
    Calls Try.prog 6 #[.int .u64 (a : Int), .int .u64 (b : Int)] w fun e w' => e = .returned (.bool true) ∧ Below w.heap.size w w' := by
  have d0 : decide ((a : Int) < 253) = false := decide_eq_false (by omega)
  have d1 : decide ((a : Int) < 65536) = true := decide_eq_true (by omega)
  have dg : decide ((b : Int) < (a : Int)) = true := decide_eq_true (by omega)
  have HL := Lib.hid (len_three a h0 h1)
  go_enter Try.func6, Try.ntmps6
  go_wp2_with fail
  refine (writes_any _).mono ?_
  rintro e w1 ⟨rfl, hb1⟩
  go_upto_region 4 with fail
  have hA0 : Below w1.heap.size w1 (w1.alloc (.cells #[.slice none 0 0] 54)) := (Below.refl _ _).alloc (Nat.le_refl _) _
  refine wp_any2 (fun W => Below w.heap.size w W ∧ Bk W w1.heap.size 54 #[.slice none 0 0] ∧ Bk W (w1.heap.size + 1) 54 #[.slice none 0 0])
    ⟨hb1.trans ((hA0.alloc (by simp) _).mono hb1.size), (Bk.new _ _ _).alloc _, Bk.new' _ _ _ (by simp)⟩ ?_
  have hgw := hb1.size
  clear hb1 hA0
  generalize w1.heap.size = g at *
  rintro W ⟨hW, G, K⟩
  have hgW := K.lt
  go_wp2_with fail
  have M0 : Mine W (g + 2) (.slice none 0 0) [] := .inl ⟨rfl, rfl⟩
  refine (count_any g (g + 2) a [] _ W G M0 (by omega) (by simp)).mono ?_
  rintro e w2 h
  have hW := hW.trans (h.below M0 (B := w.heap.size) (by omega) hgw hW.size)
  obtain ⟨rfl, v1, G1, M1, B1, O1⟩ := h
  have K1 := B1.keep K (by rintro (h | h); omega; exact slb_none _ _ _ h)
  obtain ⟨s1, c1, e1⟩ := M1.slice
  rw [HL.out] at e1
  subst e1
  clear G K M1 B1 O1 M0
  have hgW := K1.lt
  go_wp2_with fail
  have M0 : Mine w2 (g + 2) (.slice none 0 0) [] := .inl ⟨rfl, rfl⟩
  refine (count_any (g + 1) (g + 2) b [] _ w2 K1 M0 (by omega) (by simp)).mono ?_
  rintro e w3 h
  have hW := hW.trans (h.below M0 (B := w.heap.size) (by omega) (by omega) hW.size)
  obtain ⟨rfl, v2, K2, M2, B2, O2⟩ := h
  have G2 := B2.keep G1 (by rintro (h | h); omega; exact slb_none _ _ _ h)
  obtain ⟨s2, c2, rfl⟩ := M2.slice
  clear G1 K1 M2 B2 O2 M0
  generalize ([] ++ countL b).length = lb at *
  go_wp2_with fail
  refine (wlen_any g 3 s1 c1 w3 G2).mono ?_
  rintro e w4 ⟨rfl, rfl⟩
  go_wp2_with fail
  go_ret
  exact ⟨rfl, hW⟩
set_option maxRecDepth 100000 in
set_option maxHeartbeats 1000000 in
theorem walk_three_le (a b : Nat) (w : World) (h0 : 253 ≤ a) (h1 : a < 65536) (hab : a ≤ b) :
    Calls Try.prog 6 #[.int .u64 (a : Int), .int .u64 (b : Int)] w fun e w' => e = .returned (.bool true) ∧ Below w.heap.size w w' := by
  have d0 : decide ((a : Int) < 253) = false := decide_eq_false (by omega)
  have d1 : decide ((a : Int) < 65536) = true := decide_eq_true (by omega)
  have dg : decide ((b : Int) < (a : Int)) = false := decide_eq_false (by omega)
  have hm := len_mono a b hab
  rw [len_three a h0 h1] at hm
  have HL := Lib.hid (len_three a h0 h1)
  go_enter Try.func6, Try.ntmps6
  go_wp2_with fail
  refine (writes_any _).mono ?_
  rintro e w1 ⟨rfl, hb1⟩
  go_upto_region 4 with fail
  have hA0 : Below w1.heap.size w1 (w1.alloc (.cells #[.slice none 0 0] 54)) := (Below.refl _ _).alloc (Nat.le_refl _) _
  refine wp_any2 (fun W => Below w.heap.size w W ∧ Bk W w1.heap.size 54 #[.slice none 0 0] ∧ Bk W (w1.heap.size + 1) 54 #[.slice none 0 0])
    ⟨hb1.trans ((hA0.alloc (by simp) _).mono hb1.size), (Bk.new _ _ _).alloc _, Bk.new' _ _ _ (by simp)⟩ ?_
  have hgw := hb1.size
  clear hb1 hA0
  generalize w1.heap.size = g at *
  rintro W ⟨hW, G, K⟩
  have hgW := K.lt
  go_wp2_with fail
  have M0 : Mine W (g + 2) (.slice none 0 0) [] := .inl ⟨rfl, rfl⟩
  refine (count_any g (g + 2) a [] _ W G M0 (by omega) (by simp)).mono ?_
  rintro e w2 h
  have hW := hW.trans (h.below M0 (B := w.heap.size) (by omega) hgw hW.size)
  obtain ⟨rfl, v1, G1, M1, B1, O1⟩ := h
  have K1 := B1.keep K (by rintro (h | h); omega; exact slb_none _ _ _ h)
  obtain ⟨s1, c1, e1⟩ := M1.slice
  rw [HL.out] at e1
  subst e1
  clear G K M1 B1 O1 M0
  have hgW := K1.lt
  go_wp2_with fail
  have M0 : Mine w2 (g + 2) (.slice none 0 0) [] := .inl ⟨rfl, rfl⟩
  refine (count_any (g + 1) (g + 2) b [] _ w2 K1 M0 (by omega) (by simp)).mono ?_
  rintro e w3 h
  have hW := hW.trans (h.below M0 (B := w.heap.size) (by omega) (by omega) hW.size)
  obtain ⟨rfl, v2, K2, M2, B2, O2⟩ := h
  have G2 := B2.keep G1 (by rintro (h | h); omega; exact slb_none _ _ _ h)
  obtain ⟨s2, c2, rfl⟩ := M2.slice
  clear G1 K1 M2 B2 O2 M0
  generalize ([] ++ countL b).length = lb at *
  go_wp2_with fail
  refine (wlen_any g 3 s1 c1 w3 G2).mono ?_
  rintro e w4 ⟨rfl, rfl⟩
  go_wp2_with fail
  refine (wlen_any (g + 1) lb s2 c2 w4 K2).mono ?_
  rintro e w5 ⟨rfl, rfl⟩
  have dl : decide ((3 : Int) ≤ (lb : Int)) = true := decide_eq_true (by omega)
  go_wp2_with fail
  go_ret
  exact ⟨rfl, hW⟩
set_option maxRecDepth 100000 in
set_option maxHeartbeats 1000000 in
theorem walk_five_gt (a b : Nat) (w : World) (h0 : 65536 ≤ a) (h1 : a < 4294967296) (hab : b < a) :
    Calls Try.prog 6 #[.int .u64 (a : Int), .int .u64 (b : Int)] w fun e w' => e = .returned (.bool true) ∧ Below w.heap.size w w' := by
  have d0 : decide ((a : Int) < 253) = false := decide_eq_false (by omega)
  have d1 : decide ((a : Int) < 65536) = false := decide_eq_false (by omega)
  have d2 : decide ((a : Int) < 4294967296) = true := decide_eq_true (by omega)
  have dg : decide ((b : Int) < (a : Int)) = true := decide_eq_true (by omega)
  have HL := Lib.hid (len_five a h0 h1)
  go_enter Try.func6, Try.ntmps6
  go_wp2_with fail
  refine (writes_any _).mono ?_
  rintro e w1 ⟨rfl, hb1⟩
  go_upto_region 4 with fail
  have hA0 : Below w1.heap.size w1 (w1.alloc (.cells #[.slice none 0 0] 54)) := (Below.refl _ _).alloc (Nat.le_refl _) _
  refine wp_any2 (fun W => Below w.heap.size w W ∧ Bk W w1.heap.size 54 #[.slice none 0 0] ∧ Bk W (w1.heap.size + 1) 54 #[.slice none 0 0])
    ⟨hb1.trans ((hA0.alloc (by simp) _).mono hb1.size), (Bk.new _ _ _).alloc _, Bk.new' _ _ _ (by simp)⟩ ?_
  have hgw := hb1.size
  clear hb1 hA0
  generalize w1.heap.size = g at *
  rintro W ⟨hW, G, K⟩
  have hgW := K.lt
  go_wp2_with fail
  have M0 : Mine W (g + 2) (.slice none 0 0) [] := .inl ⟨rfl, rfl⟩
  refine (count_any g (g + 2) a [] _ W G M0 (by omega) (by simp)).mono ?_
  rintro e w2 h
  have hW := hW.trans (h.below M0 (B := w.heap.size) (by omega) hgw hW.size)
  obtain ⟨rfl, v1, G1, M1, B1, O1⟩ := h
  have K1 := B1.keep K (by rintro (h | h); omega; exact slb_none _ _ _ h)
  obtain ⟨s1, c1, e1⟩ := M1.slice
  rw [HL.out] at e1
  subst e1
  clear G K M1 B1 O1 M0
  have hgW := K1.lt
  go_wp2_with fail
  have M0 : Mine w2 (g + 2) (.slice none 0 0) [] := .inl ⟨rfl, rfl⟩
  refine (count_any (g + 1) (g + 2) b [] _ w2 K1 M0 (by omega) (by simp)).mono ?_
  rintro e w3 h
  have hW := hW.trans (h.below M0 (B := w.heap.size) (by omega) (by omega) hW.size)
  obtain ⟨rfl, v2, K2, M2, B2, O2⟩ := h
  have G2 := B2.keep G1 (by rintro (h | h); omega; exact slb_none _ _ _ h)
  obtain ⟨s2, c2, rfl⟩ := M2.slice
  clear G1 K1 M2 B2 O2 M0
  generalize ([] ++ countL b).length = lb at *
  go_wp2_with fail
  refine (wlen_any g 5 s1 c1 w3 G2).mono ?_
  rintro e w4 ⟨rfl, rfl⟩
  go_wp2_with fail
  go_ret
  exact ⟨rfl, hW⟩
set_option maxRecDepth 100000 in
set_option maxHeartbeats 1000000 in
theorem walk_five_le (a b : Nat) (w : World) (h0 : 65536 ≤ a) (h1 : a < 4294967296) (hab : a ≤ b) :
    Calls Try.prog 6 #[.int .u64 (a : Int), .int .u64 (b : Int)] w fun e w' => e = .returned (.bool true) ∧ Below w.heap.size w w' := by
  have d0 : decide ((a : Int) < 253) = false := decide_eq_false (by omega)
  have d1 : decide ((a : Int) < 65536) = false := decide_eq_false (by omega)
  have d2 : decide ((a : Int) < 4294967296) = true := decide_eq_true (by omega)
  have dg : decide ((b : Int) < (a : Int)) = false := decide_eq_false (by omega)
  have hm := len_mono a b hab
  rw [len_five a h0 h1] at hm
  have HL := Lib.hid (len_five a h0 h1)
  go_enter Try.func6, Try.ntmps6
  go_wp2_with fail
  refine (writes_any _).mono ?_
  rintro e w1 ⟨rfl, hb1⟩
  go_upto_region 4 with fail
  have hA0 : Below w1.heap.size w1 (w1.alloc (.cells #[.slice none 0 0] 54)) := (Below.refl _ _).alloc (Nat.le_refl _) _
  refine wp_any2 (fun W => Below w.heap.size w W ∧ Bk W w1.heap.size 54 #[.slice none 0 0] ∧ Bk W (w1.heap.size + 1) 54 #[.slice none 0 0])
    ⟨hb1.trans ((hA0.alloc (by simp) _).mono hb1.size), (Bk.new _ _ _).alloc _, Bk.new' _ _ _ (by simp)⟩ ?_
  have hgw := hb1.size
  clear hb1 hA0
  generalize w1.heap.size = g at *
  rintro W ⟨hW, G, K⟩
  have hgW := K.lt
  go_wp2_with fail
  have M0 : Mine W (g + 2) (.slice none 0 0) [] := .inl ⟨rfl, rfl⟩
  refine (count_any g (g + 2) a [] _ W G M0 (by omega) (by simp)).mono ?_
  rintro e w2 h
  have hW := hW.trans (h.below M0 (B := w.heap.size) (by omega) hgw hW.size)
  obtain ⟨rfl, v1, G1, M1, B1, O1⟩ := h
  have K1 := B1.keep K (by rintro (h | h); omega; exact slb_none _ _ _ h)
  obtain ⟨s1, c1, e1⟩ := M1.slice
  rw [HL.out] at e1
  subst e1
  clear G K M1 B1 O1 M0
  have hgW := K1.lt
  go_wp2_with fail
  have M0 : Mine w2 (g + 2) (.slice none 0 0) [] := .inl ⟨rfl, rfl⟩
  refine (count_any (g + 1) (g + 2) b [] _ w2 K1 M0 (by omega) (by simp)).mono ?_
  rintro e w3 h
  have hW := hW.trans (h.below M0 (B := w.heap.size) (by omega) (by omega) hW.size)
  obtain ⟨rfl, v2, K2, M2, B2, O2⟩ := h
  have G2 := B2.keep G1 (by rintro (h | h); omega; exact slb_none _ _ _ h)
  obtain ⟨s2, c2, rfl⟩ := M2.slice
  clear G1 K1 M2 B2 O2 M0
  generalize ([] ++ countL b).length = lb at *
  go_wp2_with fail
  refine (wlen_any g 5 s1 c1 w3 G2).mono ?_
  rintro e w4 ⟨rfl, rfl⟩
  go_wp2_with fail
  refine (wlen_any (g + 1) lb s2 c2 w4 K2).mono ?_
  rintro e w5 ⟨rfl, rfl⟩
  have dl : decide ((5 : Int) ≤ (lb : Int)) = true := decide_eq_true (by omega)
  go_wp2_with fail
  go_ret
  exact ⟨rfl, hW⟩
set_option maxRecDepth 100000 in
set_option maxHeartbeats 1000000 in
theorem walk_nine_gt (a b : Nat) (w : World) (h0 : 4294967296 ≤ a) (hab : b < a) :
    Calls Try.prog 6 #[.int .u64 (a : Int), .int .u64 (b : Int)] w fun e w' => e = .returned (.bool true) ∧ Below w.heap.size w w' := by
  have d0 : decide ((a : Int) < 253) = false := decide_eq_false (by omega)
  have d1 : decide ((a : Int) < 65536) = false := decide_eq_false (by omega)
  have d2 : decide ((a : Int) < 4294967296) = false := decide_eq_false (by omega)
  have dg : decide ((b : Int) < (a : Int)) = true := decide_eq_true (by omega)
  have HL := Lib.hid (len_nine a h0)
  go_enter Try.func6, Try.ntmps6
  go_wp2_with fail
  refine (writes_any _).mono ?_
  rintro e w1 ⟨rfl, hb1⟩
  go_upto_region 4 with fail
  have hA0 : Below w1.heap.size w1 (w1.alloc (.cells #[.slice none 0 0] 54)) := (Below.refl _ _).alloc (Nat.le_refl _) _
  refine wp_any2 (fun W => Below w.heap.size w W ∧ Bk W w1.heap.size 54 #[.slice none 0 0] ∧ Bk W (w1.heap.size + 1) 54 #[.slice none 0 0])
    ⟨hb1.trans ((hA0.alloc (by simp) _).mono hb1.size), (Bk.new _ _ _).alloc _, Bk.new' _ _ _ (by simp)⟩ ?_
  have hgw := hb1.size
  clear hb1 hA0
  generalize w1.heap.size = g at *
  rintro W ⟨hW, G, K⟩
  have hgW := K.lt
  go_wp2_with fail
  have M0 : Mine W (g + 2) (.slice none 0 0) [] := .inl ⟨rfl, rfl⟩
  refine (count_any g (g + 2) a [] _ W G M0 (by omega) (by simp)).mono ?_
  rintro e w2 h
  have hW := hW.trans (h.below M0 (B := w.heap.size) (by omega) hgw hW.size)
  obtain ⟨rfl, v1, G1, M1, B1, O1⟩ := h
  have K1 := B1.keep K (by rintro (h | h); omega; exact slb_none _ _ _ h)
  obtain ⟨s1, c1, e1⟩ := M1.slice
  rw [HL.out] at e1
  subst e1
  clear G K M1 B1 O1 M0
  have hgW := K1.lt
  go_wp2_with fail
  have M0 : Mine w2 (g + 2) (.slice none 0 0) [] := .inl ⟨rfl, rfl⟩
  refine (count_any (g + 1) (g + 2) b [] _ w2 K1 M0 (by omega) (by simp)).mono ?_
  rintro e w3 h
  have hW := hW.trans (h.below M0 (B := w.heap.size) (by omega) (by omega) hW.size)
  obtain ⟨rfl, v2, K2, M2, B2, O2⟩ := h
  have G2 := B2.keep G1 (by rintro (h | h); omega; exact slb_none _ _ _ h)
  obtain ⟨s2, c2, rfl⟩ := M2.slice
  clear G1 K1 M2 B2 O2 M0
  generalize ([] ++ countL b).length = lb at *
  go_wp2_with fail
  refine (wlen_any g 9 s1 c1 w3 G2).mono ?_
  rintro e w4 ⟨rfl, rfl⟩
  go_wp2_with fail
  go_ret
  exact ⟨rfl, hW⟩
set_option maxRecDepth 100000 in
set_option maxHeartbeats 1000000 in
theorem walk_nine_le (a b : Nat) (w : World) (h0 : 4294967296 ≤ a) (hab : a ≤ b) :
    Calls Try.prog 6 #[.int .u64 (a : Int), .int .u64 (b : Int)] w fun e w' => e = .returned (.bool true) ∧ Below w.heap.size w w' := by
  have d0 : decide ((a : Int) < 253) = false := decide_eq_false (by omega)
  have d1 : decide ((a : Int) < 65536) = false := decide_eq_false (by omega)
  have d2 : decide ((a : Int) < 4294967296) = false := decide_eq_false (by omega)
  have dg : decide ((b : Int) < (a : Int)) = false := decide_eq_false (by omega)
  have hm := len_mono a b hab
  rw [len_nine a h0] at hm
  have HL := Lib.hid (len_nine a h0)
  go_enter Try.func6, Try.ntmps6
  go_wp2_with fail
  refine (writes_any _).mono ?_
  rintro e w1 ⟨rfl, hb1⟩
  go_upto_region 4 with fail
  have hA0 : Below w1.heap.size w1 (w1.alloc (.cells #[.slice none 0 0] 54)) := (Below.refl _ _).alloc (Nat.le_refl _) _
  refine wp_any2 (fun W => Below w.heap.size w W ∧ Bk W w1.heap.size 54 #[.slice none 0 0] ∧ Bk W (w1.heap.size + 1) 54 #[.slice none 0 0])
    ⟨hb1.trans ((hA0.alloc (by simp) _).mono hb1.size), (Bk.new _ _ _).alloc _, Bk.new' _ _ _ (by simp)⟩ ?_
  have hgw := hb1.size
  clear hb1 hA0
  generalize w1.heap.size = g at *
  rintro W ⟨hW, G, K⟩
  have hgW := K.lt
  go_wp2_with fail
  have M0 : Mine W (g + 2) (.slice none 0 0) [] := .inl ⟨rfl, rfl⟩
  refine (count_any g (g + 2) a [] _ W G M0 (by omega) (by simp)).mono ?_
  rintro e w2 h
  have hW := hW.trans (h.below M0 (B := w.heap.size) (by omega) hgw hW.size)
  obtain ⟨rfl, v1, G1, M1, B1, O1⟩ := h
  have K1 := B1.keep K (by rintro (h | h); omega; exact slb_none _ _ _ h)
  obtain ⟨s1, c1, e1⟩ := M1.slice
  rw [HL.out] at e1
  subst e1
  clear G K M1 B1 O1 M0
  have hgW := K1.lt
  go_wp2_with fail
  have M0 : Mine w2 (g + 2) (.slice none 0 0) [] := .inl ⟨rfl, rfl⟩
  refine (count_any (g + 1) (g + 2) b [] _ w2 K1 M0 (by omega) (by simp)).mono ?_
  rintro e w3 h
  have hW := hW.trans (h.below M0 (B := w.heap.size) (by omega) (by omega) hW.size)
  obtain ⟨rfl, v2, K2, M2, B2, O2⟩ := h
  have G2 := B2.keep G1 (by rintro (h | h); omega; exact slb_none _ _ _ h)
  obtain ⟨s2, c2, rfl⟩ := M2.slice
  clear G1 K1 M2 B2 O2 M0
  generalize ([] ++ countL b).length = lb at *
  go_wp2_with fail
  refine (wlen_any g 9 s1 c1 w3 G2).mono ?_
  rintro e w4 ⟨rfl, rfl⟩
  go_wp2_with fail
  refine (wlen_any (g + 1) lb s2 c2 w4 K2).mono ?_
  rintro e w5 ⟨rfl, rfl⟩
  have dl : decide ((9 : Int) ≤ (lb : Int)) = true := decide_eq_true (by omega)
  go_wp2_with fail
  go_ret
  exact ⟨rfl, hW⟩
theorem walk (a b : Nat) (w : World) :
    Calls Try.prog 6 #[.int .u64 (a : Int), .int .u64 (b : Int)] w fun e w' => e = .returned (.bool true) ∧ Below w.heap.size w w' := by
  rcases Nat.lt_or_ge b a with hab | hab
  · by_cases a1 : a < 253
    · exact walk_one_gt a b w a1 hab
    by_cases a2 : a < 65536
    · exact walk_three_gt a b w (by omega) a2 hab
    by_cases a3 : a < 4294967296
    · exact walk_five_gt a b w (by omega) a3 hab
    · exact walk_nine_gt a b w (by omega) hab
  · by_cases a1 : a < 253
    · exact walk_one_le a b w a1 hab
    by_cases a2 : a < 65536
    · exact walk_three_le a b w (by omega) a2 hab
    by_cases a3 : a < 4294967296
    · exact walk_five_le a b w (by omega) a3 hab
    · exact walk_nine_le a b w (by omega) hab

set_option maxRecDepth 100000 in
set_option maxHeartbeats 2000000 in
theorem lifted (os : Os) (started : os.Started) (H : Type) (enc : TypeId × Value → H) :
    ReturnsInHanded {} Try.checked os 6 .any (Rows.wireSmallSpec.pre6 enc Try.prog Try.f6 Rows.wireSmallRow.domain false) (Rows.wireSmallSpec.post enc Try.prog Try.f6 false true false false) := by
  refine returnsInHanded_of_change (C := Try.checked) own started (by kernel_rfl) Try.func6
    (ChangeSpec.witness6 (enc := enc) (C := Try.checked) false ⟨#[], #[.int .u64 0, .int .u64 0], []⟩ 8 (by kernel_rfl) (by kernel_rfl) (by kernel_rfl) (by kernel_rfl)) ?_
  intro W base args ds gs before hval0 hW hcnd _
  have hval : ∀ (j : Nat) t v, Try.f6.params[j]? = some t → args[j]? = some v → Value.okWide Try.prog W .any base t v := hval0
  have hW' := hW
  obtain ⟨p, q, hA0, hV, rfl, hfz, hnd⟩ := hW
  have hA : DataW.TrodAll enc Try.prog W 0 (fun _ => true) true Try.f6.params.toList args.toList ds p := hA0
  rw [Try.params6] at hA hval
  obtain ⟨v0, vs0, d0, ds0, p0, q0, hargs, rfl, rfl, h0, r0⟩ := trodAll_cons hA
  obtain ⟨v1, vs1, d1, ds1, p1, q1, rfl, rfl, rfl, h1, r1⟩ := trodAll_cons r0
  obtain ⟨rfl, rfl, rfl⟩ := trodAll_nil r1
  obtain rfl : args = #[v0, v1] := by cases args; simp_all
  obtain ⟨rfl, rfl⟩ := trodVars_none hV
  have lt0 : ∀ x ∈ p0, x.block < W.heap.size := by obtain ⟨m, hm⟩ := h0; exact DataW.trod_lt m _ _ _ hm
  have lt1 : ∀ x ∈ p1, x.block < W.heap.size := by obtain ⟨m, hm⟩ := h1; exact DataW.trod_lt m _ _ _ hm
  obtain ⟨y0, rfl, _, _, hwf0⟩ := open_int (k := .u64) Try.underlying22 (hval 0 22 v0 rfl rfl) h0
  have hy0 := wf_u64 hwf0
  obtain ⟨x0, rfl⟩ := Int.eq_ofNat_of_zero_le hy0.1
  obtain ⟨y1, rfl, _, _, hwf1⟩ := open_int (k := .u64) Try.underlying22 (hval 1 22 v1 rfl rfl) h1
  have hy1 := wf_u64 hwf1
  obtain ⟨x1, rfl⟩ := Int.eq_ofNat_of_zero_le hy1.1
  clear hA0 hval0
  have hwalk := walk x0 x1 W
  refine hwalk.mono fun e W' ⟨he, bel⟩ => ?_
  subst he
  exact ⟨_, rfl, _, _, _, [], _, [], hW', trodAll_mk1 (shut_bool Try.underlying4 _), (trodAll_cons_mk (Below.trod laidOut (by kernel_rfl) (of_decide_eq_true (by kernel_rfl)) h0 bel lt0) (trodAll_cons_mk (Below.trod laidOut (by kernel_rfl) (of_decide_eq_true (by kernel_rfl)) h1 bel lt1) trodAll_mk0)), rfl, bel.frame _, fun h => by cases h⟩

theorem over : Rows.wireSmallRow.holds Try.pinned (OpenSpec.ofChange Rows.wireSmallSpec) :=
  OpenClaim.holds_of_wide 6 Try.f6 rfl rfl rfl rfl rfl rfl rfl ⟨rfl, rfl, rfl, rfl, rfl⟩ rfl rfl rfl rfl rfl (by kernel_rfl) Try.func6 (by kernel_rfl)
    (of_decide_eq_true (by kernel_rfl)) (by unfold Func.isWrapper; first | (rw [if_pos (by decide +kernel)]; kernel_rfl) | (rw [if_neg (by decide +kernel)]; exact ⟨rfl, rfl⟩))
    (fun os started H enc _ => lifted os started H enc)

theorem proved : Rows.WireSmallSaid := over
#print axioms proved
end Go.Proofs.Ytkifehabajchhaa.wireSmall
