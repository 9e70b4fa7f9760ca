/-
  The contract of the document's own Bits: a name's bits as a number.
-/
import Derived.Test.YtkhiicnahijnoaaDoorHeaD
import Derived.Test.YtkhiicnahijnoaaDoorRcCL
namespace Go.Proofs.YtkhiicnahijnoaaDoor
open Go.RowKit
set_option linter.unusedVariables false

theorem byte_bit (xs : List Nat) (j k : Nat) (hj : j < xs.length) (hx : ∀ x ∈ xs, x < 256) (hk : k < 8) : decide (nth xs j / 2 ^ k % 2 = 1) = bit (ofL xs) (8 * j + k) := by
  have e : nth xs j = ofL xs / 256 ^ j % 256 := by
    have h := toL_getD xs.length (ofL xs) j hj
    rw [toL_ofL xs hx] at h
    exact h
  show bit (nth xs j) k = _
  rw [e, bit_test, bit_test, pow256, show (256 : Nat) = 2 ^ 8 from rfl, Nat.testBit_mod_two_pow, decide_eq_true hk, Bool.true_and, Nat.testBit_div_two_pow, Nat.add_comm]
set_option maxRecDepth 100000 in
set_option maxHeartbeats 2000000 in
theorem bits5_any (xs : List Nat) (w : World) (hl : xs.length = 32) (hxs : ∀ x ∈ xs, x < 256) :
    Calls Tryd.prog 50 #[idv xs] w fun e w' => ∃ v, e = .returned v ∧ BX w' v (ofL xs) 256 ∧ Below w.heap.size w w' := by
  obtain ⟨a, haa⟩ : ∃ a, a = ofL xs := ⟨_, rfl⟩
  have ha : a < M256 := by rw [haa]; exact ofL_id hl hxs
  have HEND := Lib.hid (show ∀ m, m = 256 → valB (bitL a m) = a from fun m hm => by rw [hm, valB_bitL, ← M256_pow, Nat.mod_eq_of_lt ha])
  have HBB := Lib.hid (show ∀ j k, j < 32 → k < 8 → decide (nth xs j / 2 ^ k % 2 = 1) = bit a (8 * j + k) from fun j k hj hk => by rw [haa]; exact byte_bit xs j k (by rw [hl]; exact hj) hxs hk)
  have HLT := Lib.hid (show ∀ j, nth xs j < 256 from fun j => nth_mem_lt hxs j)
  rw [← haa]
  have HG0 := Lib.hid (show ∀ j, j < 32 → (idA xs)[j]? = some (.int .u8 ((nth xs j : Nat) : Int)) from fun j hj => idA_get xs j (by rw [hl]; exact hj))
  clear ha haa hl hxs
  go_enter Tryd.func50, Tryd.ntmps50
  go_upto_region 2 with fail
  refine wp_gen (fun W => Below w.heap.size w W ∧ Bk W w.heap.size 23 (idA xs)) ⟨(Below.refl _ _).alloc (Nat.le_refl _) _, Bk.new _ _ _⟩ ?_
  rintro W ⟨hW, K⟩
  obtain ⟨C, hC⟩ : ∃ C, C = idA xs := ⟨_, rfl⟩
  have HG := Lib.hid (show ∀ j, j < 32 → C[j]? = some (.int .u8 ((nth xs j : Nat) : Int)) from fun j hj => by rw [hC]; exact HG0.out j hj)
  rw [← hC] at K
  clear hC
  have hKl := K.lt
  go_wp2_with fail
  go_loopw [4, 3] (fun i out wr => ∃ j : Nat, j ≤ 32 ∧ i = .int .i64 j ∧ Hid (Below w.heap.size w wr) ∧ Bk wr w.heap.size 23 C ∧ Hid (MineO wr (w.heap.size + 1) out (bitL a (8 * j)))) (fun i _ _ => 32 - (intOf i).toNat)
  case atStart => exact ⟨0, Nat.zero_le _, rfl, hW, K, .inl ⟨rfl, rfl⟩⟩
  case round =>
    obtain ⟨j, hj, rfl, hWr, Kr, Mr⟩ := hrel
    clear hW K hKl
    by_cases hlt : j < 32
    · have hdj : decide ((j : Int) < 32) = true := decide_eq_true (by omega)
      have hc := (Kr.cell j).trans (HG.out j hlt)
      have hf := Kr.frozen j
      have hz := Kr.lt
      obtain ⟨s3, c3, e3⟩ := Mr.out.slice
      rw [bitL_length] at e3
      subst e3
      obtain ⟨q0, hq0⟩ : ∃ q0, q0 = 8 * j := ⟨_, rfl⟩
      rw [← hq0] at Mr ⊢
      have HQ0 := Lib.hid hq0
      clear hq0
      obtain ⟨x, hx⟩ : ∃ x, x = nth xs j := ⟨_, rfl⟩
      rw [← hx] at hc
      have hxl : x < 256 := by rw [hx]; exact HLT.out j
      have HXX := Lib.hid hx
      clear hx
      go_wp2_with fail
      go_loopw [6, 5, 3] (fun i xv out wi => ∃ k : Nat, k ≤ 8 ∧ i = .int .i64 k ∧ xv = .int .u8 ((x / 2 ^ k : Nat) : Int) ∧ Hid (Below w.heap.size w wi) ∧ Bk wi w.heap.size 23 C ∧ Hid (MineO wi (w.heap.size + 1) out (bitL a (q0 + k)))) (fun i _ _ _ => 632 - (intOf i).toNat)
      case atStart => exact ⟨0, Nat.zero_le _, rfl, by simp, hWr, Kr, Mr⟩
      case round =>
        obtain ⟨k, hk, rfl, rfl, hWi, Ki, Mi⟩ := hrel
        clear Mr hWr Kr hc hf hz
        have hq64 : q0 ≤ 248 := by have := HQ0.out; omega
        by_cases hlk : k < 8
        · have hb := HBB.out j k hlt hlk
          rw [← HXX.out, ← HQ0.out] at hb
          obtain ⟨s5, c5, e5⟩ := Mi.out.slice
          rw [bitL_length] at e5
          subst e5
          have hzz := Ki.lt
          obtain ⟨s6, c6, W6, hrun, M6, B6⟩ := appO _ (bit a (q0 + k)) _ (w.heap.size + 1) wr Mi.out (by omega) (by rw [bitL_length]; omega)
          rw [bitL_length] at hrun M6
          rw [← bitL_succ] at M6
          have hdiv : x / 2 ^ k / 2 = x / 2 ^ (k + 1) := by rw [Nat.div_div_eq_div_mul, Nat.pow_succ]
          have HD := Lib.hid hdiv
          clear hdiv
          have K6 := Ki.below B6 (Nat.lt_succ_self _)
          have hW6 := Lib.hid (hWi.out.trans (B6.mono (Nat.le_succ _)))
          have M6 : Hid (MineO W6 (w.heap.size + 1) (.slice s6 (q0 + k + 1) c6) (bitL a (q0 + (k + 1)))) := M6
          generalize bit a (q0 + k) = β at *
          obtain ⟨y, hy⟩ : ∃ y, y = x / 2 ^ k := ⟨_, rfl⟩
          rw [← hy] at hb ⊢
          have HDY : Hid (y / 2 = x / 2 ^ (k + 1)) := by rw [hy]; exact HD
          have hβ : ((y : Int) % 2 == 1) = β := by
            rw [← hb]
            have : ((y : Int) % 2 == 1) = decide ((y : Int) % 2 = 1) := rfl
            rw [this]
            by_cases h : y % 2 = 1
            · rw [decide_eq_true h, decide_eq_true (by omega)]
            · rw [decide_eq_false h, decide_eq_false (by omega)]
          have hyl : y < 256 := by rw [hy]; exact Nat.lt_of_le_of_lt (Nat.div_le_self _ _) hxl
          have hwy : IntKind.u8.wrap ((y : Int) / 2) = (y : Int) / 2 := by rw [IntKind.wrap_u8]; omega
          clear hb hy HD
          go_wp2_with (at_builtin; refine wpList_appO (v1 := .slice s5 (q0 + k) c5) (v2 := .slice (some ⟨wr.heap.size, 0, none⟩) 1 1) (v := .slice s6 (q0 + k + 1) c6) rfl (.tmp 18) (.tmp 22) rfl rfl rfl rfl hrun ?_)
          go_roundw
          case rel =>
            have hv : Value.int .u8 ((y : Int) / 2) = .int .u8 ((x / 2 ^ (k + 1) : Nat) : Int) := by
              rw [← HDY.out]
              exact congrArg (Value.int .u8) (by omega)
            have hi : Value.int .i64 ((k : Int) + 1) = .int .i64 ((k + 1 : Nat) : Int) := by go_num
            first | exact ⟨k + 1, by omega, hi, hv, hW6, K6, M6⟩ | ((repeat apply Exists.intro); exact ⟨⟨k + 1, by omega, hi, hv, hW6, K6, M6⟩, rfl⟩)
          case measure => simp [intOf]; omega
        · have hkm : k = 8 := by omega
          have hdk : decide ((k : Int) < 8) = false := decide_eq_false (by omega)
          have HK := Lib.hid hkm
          clear hlk hkm
          go_wp2_with fail
          go_roundw
          case rel =>
            refine ⟨j + 1, by omega, by go_num, hWi, Ki, ?_⟩
            have e : q0 + k = 8 * (j + 1) := by have := HQ0.out; have := HK.out; omega
            rw [← e]
            exact Mi
          case measure => simp [intOf]; omega
    · have hjm : j = 32 := by omega
      have hdj : decide ((j : Int) < 32) = false := decide_eq_false (by omega)
      have HJ := Lib.hid hjm
      obtain ⟨s3, c3, e3⟩ := Mr.out.slice
      clear hlt hjm
      go_wp2_with fail
      go_ret
      refine ⟨_, rfl, ?_, hWr.out⟩
      have e : 8 * j = 256 := by have := HJ.out; omega
      have h := Mr.out.bx
      rw [HEND.out _ e, bitL_length, e] at h
      exact h
end Go.Proofs.YtkhiicnahijnoaaDoor
