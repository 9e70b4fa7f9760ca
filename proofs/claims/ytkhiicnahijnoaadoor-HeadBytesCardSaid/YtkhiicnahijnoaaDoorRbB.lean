/-
  Contracts of the document's at, Of, Words.
-/
import Derived.Test.YtkhiicnahijnoaaDoorRbA
import Derived.Test.YtkhiicnahijnoaaDoorNumZ
import Derived.Test.YtkhiicnahijnoaaDoorIdM
import Derived.Deep.RegionLaw
import Derived.Deep.RegionHeld3
import Derived.Deep.DeepCutAuto
import Derived.Deep.DrawnRows
import Derived.WalkLawsBesides
import Derived.RegionTactic
import Derived.BigRegion
import Derived.Outline
import Derived.LoopN
import Derived.IntWalk
namespace Go.Proofs.YtkhiicnahijnoaaDoor
open Go.RowKit
set_option linter.unusedVariables false

theorem wp_gen {P : Program} {c : Code} {Q : Exit → Act → World → Prop} {a : Act} {w : World} (S : World → Prop) (hS : S w) (h : ∀ W, S W → c.wp P Q a W) : c.wp P Q a w := h w hS
/-- A bit at a place, or none. -/
def atI (X : Nat) (i : Int) : Bool := decide (0 ≤ i) && bit X i.toNat
theorem bit_over {X m k : Nat} (h : X < 2 ^ m) (hk : m ≤ k) : bit X k = false := by
  unfold bit
  rw [Nat.div_eq_of_lt (Nat.lt_of_lt_of_le h (Nat.pow_le_pow_right (by omega) hk))]
  rfl
set_option maxRecDepth 100000 in
set_option maxHeartbeats 1000000 in
theorem at_any (v : Value) (X m : Nat) (i : Int) (w : World) (h : BX w v X m) :
    Calls Tryd.prog 73 #[v, .int .i64 i] w fun e w' => e = .returned (.bool (atI X i)) ∧ w' = w := by
  have hX := h.lt
  have h0 := h
  obtain ⟨s, c, rfl, hmc⟩ := h.slice
  by_cases hi : 0 ≤ i
  · obtain ⟨k, rfl⟩ : ∃ k : Nat, i = (k : Int) := ⟨i.toNat, by omega⟩
    have e1 : atI X (k : Int) = bit X k := by unfold atI; rw [decide_eq_true hi]; rfl
    have hd : decide ((0 : Int) ≤ (k : Int)) = true := decide_eq_true hi
    rw [e1]
    by_cases hk : k < m
    · obtain ⟨b, o, rfl, _, hc⟩ := h0.at_ k hk
      have hd2 : decide ((k : Int) < (m : Int)) = true := decide_eq_true (by omega)
      generalize bit X k = y at *
      clear h h0 hX e1
      go_enter Tryd.func73, Tryd.ntmps73
      go_wp2_with fail
      go_ret
      exact ⟨rfl, rfl⟩
    · have e2 := bit_over hX (show m ≤ k by omega)
      have hd2 : decide (k < m) = false := decide_eq_false hk
      rw [e2]
      clear h h0 hX e1 e2
      go_enter Tryd.func73, Tryd.ntmps73
      go_wp2_with fail
      go_ret
      exact ⟨rfl, rfl⟩
  · have e1 : atI X i = false := by unfold atI; rw [decide_eq_false hi]; rfl
    have hd : decide (0 ≤ i) = false := decide_eq_false hi
    rw [e1]
    clear h h0 hX e1
    go_enter Tryd.func73, Tryd.ntmps73
    go_wp2_with fail
    go_ret
    exact ⟨rfl, rfl⟩
/-- A number's bits, so many. -/
def bitL (X : Nat) (m : Nat) : List Bool := (List.range m).map (bit X)
theorem bitL_length (X m : Nat) : (bitL X m).length = m := by unfold bitL; simp
theorem bitL_succ (X m : Nat) : bitL X (m + 1) = bitL X m ++ [bit X m] := by
  unfold bitL
  rw [List.range_succ, List.map_append]
  rfl
theorem valB_bitL (X m : Nat) : valB (bitL X m) = X % 2 ^ m := by
  induction m with
  | zero => simp [bitL, valB, Nat.mod_one]
  | succ m ih =>
    rw [bitL_succ, valB_append, ih, bitL_length]
    simp only [valB]
    rw [bit_toNat, Nat.mul_zero, Nat.add_zero, Nat.pow_succ, Nat.mod_mul]
theorem bit_test (X k : Nat) : bit X k = X.testBit k := by
  unfold bit
  rw [Nat.testBit_eq_decide_div_mod_eq]
theorem wdi_bit (a j k : Nat) (hk : k < 64) : decide (wdi a j / 2 ^ k % 2 = 1) = bit a (64 * j + k) := by
  show bit (wdi a j) k = _
  unfold wdi
  rw [bit_test, bit_test, B64_pow', Nat.testBit_mod_two_pow, decide_eq_true hk, Bool.true_and, ← Nat.pow_mul, Nat.testBit_div_two_pow, Nat.add_comm]
theorem a4_get (a j : Nat) (hj : j < 4) : (A4 (wd0 a) (wd1 a) (wd2 a) (wd3 a))[j]? = some (.int .u64 ((wdi a j : Nat) : Int)) := by
  have : j = 0 ∨ j = 1 ∨ j = 2 ∨ j = 3 := by omega
  rcases this with rfl | rfl | rfl | rfl
  · rw [← wdi_0]; rfl
  · rw [← wdi_1]; rfl
  · rw [← wdi_2]; rfl
  · rw [← wdi_3]; rfl
set_option maxRecDepth 100000 in
set_option maxHeartbeats 2000000 in
theorem of2_any (a : Nat) (w : World) (ha : a < M256) :
    Calls Tryd.prog 82 #[nv a] w fun e w' => ∃ v, e = .returned v ∧ BX w' v a 256 ∧ Below w.heap.size w w' := by
  have HEND := Lib.hid (show ∀ m, m = 256 → valB (bitL a m) = a from fun m hm => by rw [hm, valB_bitL, ← M256_pow, Nat.mod_eq_of_lt ha])
  clear ha
  go_enter Tryd.func82, Tryd.ntmps82
  go_upto_region 2 with fail
  refine wp_gen (fun W => Below w.heap.size w W ∧ Bk W w.heap.size 33 (A4 (wd0 a) (wd1 a) (wd2 a) (wd3 a))) ⟨(Below.refl _ _).alloc (Nat.le_refl _) _, Bk.new _ _ _⟩ ?_
  rintro W ⟨hW, K⟩
  obtain ⟨C, hC⟩ : ∃ C, C = A4 (wd0 a) (wd1 a) (wd2 a) (wd3 a) := ⟨_, rfl⟩
  have HG := Lib.hid (show ∀ j, j < 4 → C[j]? = some (.int .u64 ((wdi a j : Nat) : Int)) from fun j hj => by rw [hC]; exact a4_get a j hj)
  rw [← hC] at K
  clear hC
  have hKl := K.lt
  go_wp2_with fail
  go_loopw [4, 3] (fun i out wr => ∃ j : Nat, j ≤ 4 ∧ i = .int .i64 j ∧ Hid (Below w.heap.size w wr) ∧ Bk wr w.heap.size 33 C ∧ Hid (MineO wr (w.heap.size + 1) out (bitL a (64 * j)))) (fun i _ _ => 4 - (intOf i).toNat)
  case atStart => exact ⟨0, Nat.zero_le _, rfl, hW, K, .inl ⟨rfl, rfl⟩⟩
  case round =>
    obtain ⟨j, hj, rfl, hWr, Kr, Mr⟩ := hrel
    clear hW K hKl
    by_cases hlt : j < 4
    · have hdj : decide ((j : Int) < 4) = true := decide_eq_true (by omega)
      have hc := (Kr.cell j).trans (HG.out j hlt)
      have hf := Kr.frozen j
      have hz := Kr.lt
      obtain ⟨s3, c3, e3⟩ := Mr.out.slice
      rw [bitL_length] at e3
      subst e3
      obtain ⟨q0, hq0⟩ : ∃ q0, q0 = 64 * j := ⟨_, rfl⟩
      rw [← hq0] at Mr ⊢
      have HQ0 := Lib.hid hq0
      clear hq0
      obtain ⟨x, hx⟩ : ∃ x, x = wdi a j := ⟨_, rfl⟩
      rw [← hx] at hc
      have hxl : x < 18446744073709551616 := by rw [hx]; unfold wdi; exact Nat.mod_lt _ (by decide)
      have HXX := Lib.hid hx
      clear hx
      go_wp2_with fail
      go_loopw [6, 5, 3] (fun i xv out wi => ∃ k : Nat, k ≤ 64 ∧ i = .int .i64 k ∧ xv = .int .u64 ((x / 2 ^ k : Nat) : Int) ∧ Hid (Below w.heap.size w wi) ∧ Bk wi w.heap.size 33 C ∧ Hid (MineO wi (w.heap.size + 1) out (bitL a (q0 + k)))) (fun i _ _ _ => 64 - (intOf i).toNat)
      case atStart => exact ⟨0, Nat.zero_le _, rfl, by simp, hWr, Kr, Mr⟩
      case round =>
        obtain ⟨k, hk, rfl, rfl, hWi, Ki, Mi⟩ := hrel
        clear Mr hWr Kr hc hf hz
        have hq64 : q0 ≤ 192 := by have := HQ0.out; omega
        by_cases hlk : k < 64
        · have hb := wdi_bit a j k hlk
          rw [← HXX.out, ← HQ0.out] at hb
          obtain ⟨s5, c5, e5⟩ := Mi.out.slice
          rw [bitL_length] at e5
          subst e5
          have hzz := Ki.lt
          obtain ⟨s6, c6, W6, hrun, M6, B6⟩ := appO _ (bit a (q0 + k)) _ (w.heap.size + 1) wr Mi.out (by omega) (by rw [bitL_length]; omega)
          rw [bitL_length] at hrun M6
          rw [← bitL_succ] at M6
          have hdiv : x / 2 ^ k / 2 = x / 2 ^ (k + 1) := by rw [Nat.div_div_eq_div_mul, Nat.pow_succ]
          have HD := Lib.hid hdiv
          clear hdiv
          have K6 := Ki.below B6 (Nat.lt_succ_self _)
          have hW6 := Lib.hid (hWi.out.trans (B6.mono (Nat.le_succ _)))
          have M6 : Hid (MineO W6 (w.heap.size + 1) (.slice s6 (q0 + k + 1) c6) (bitL a (q0 + (k + 1)))) := M6
          generalize bit a (q0 + k) = β at *
          obtain ⟨y, hy⟩ : ∃ y, y = x / 2 ^ k := ⟨_, rfl⟩
          rw [← hy] at hb ⊢
          have HDY : Hid (y / 2 = x / 2 ^ (k + 1)) := by rw [hy]; exact HD
          have hβ : ((y : Int) % 2 == 1) = β := by
            rw [← hb]
            have : ((y : Int) % 2 == 1) = decide ((y : Int) % 2 = 1) := rfl
            rw [this]
            by_cases h : y % 2 = 1
            · rw [decide_eq_true h, decide_eq_true (by omega)]
            · rw [decide_eq_false h, decide_eq_false (by omega)]
          have hyl : y < 18446744073709551616 := by rw [hy]; exact Nat.lt_of_le_of_lt (Nat.div_le_self _ _) hxl
          have hwy : IntKind.u64.wrap ((y : Int) / 2) = (y : Int) / 2 := by rw [IntKind.wrap_u64]; omega
          clear hb hy HD
          go_wp2_with (at_builtin; refine wpList_appO (v1 := .slice s5 (q0 + k) c5) (v2 := .slice (some ⟨wr.heap.size, 0, none⟩) 1 1) (v := .slice s6 (q0 + k + 1) c6) rfl (.tmp 18) (.tmp 22) rfl rfl rfl rfl hrun ?_)
          go_roundw
          case rel =>
            have hv : Value.int .u64 ((y : Int) / 2) = .int .u64 ((x / 2 ^ (k + 1) : Nat) : Int) := by
              rw [← HDY.out]
              exact congrArg (Value.int .u64) (by omega)
            have hi : Value.int .i64 ((k : Int) + 1) = .int .i64 ((k + 1 : Nat) : Int) := by go_num
            first | exact ⟨k + 1, by omega, hi, hv, hW6, K6, M6⟩ | ((repeat apply Exists.intro); exact ⟨⟨k + 1, by omega, hi, hv, hW6, K6, M6⟩, rfl⟩)
          case measure => simp [intOf]; omega
        · have hkm : k = 64 := by omega
          have hdk : decide ((k : Int) < 64) = false := decide_eq_false (by omega)
          have HK := Lib.hid hkm
          clear hlk hkm
          go_wp2_with fail
          go_roundw
          case rel =>
            refine ⟨j + 1, by omega, by go_num, hWi, Ki, ?_⟩
            have e : q0 + k = 64 * (j + 1) := by have := HQ0.out; have := HK.out; omega
            rw [← e]
            exact Mi
          case measure => simp [intOf]; omega
    · have hjm : j = 4 := by omega
      have hdj : decide ((j : Int) < 4) = false := decide_eq_false (by omega)
      have HJ := Lib.hid hjm
      obtain ⟨s3, c3, e3⟩ := Mr.out.slice
      clear hlt hjm
      go_wp2_with fail
      go_ret
      refine ⟨_, rfl, ?_, hWr.out⟩
      have e : 64 * j = 256 := by have := HJ.out; omega
      have h := Mr.out.bx
      rw [HEND.out _ e, bitL_length, e] at h
      exact h
end Go.Proofs.YtkhiicnahijnoaaDoor
