/-
  The contract of the document's Rounds.
-/
import Derived.Test.YtecmgojecjenmaaDoorRnE
import Derived.Test.YtecmgojecjenmaaDoorRnL
import Derived.Test.YtecmgojecjenmaaDoorRefY
namespace Go.Proofs.YtecmgojecjenmaaDoor
open Go.RowKit
set_option linter.unusedVariables false

set_option maxRecDepth 100000 in
set_option maxHeartbeats 4000000 in
theorem rounds_any (w : World) :
    Calls Tryd.prog 9 #[] w fun e w' => ∃ v', e = .returned v' ∧ MineW w' w.heap.size v' rkL ∧ Below w.heap.size w w' := by
  go_enter Tryd.func9, Tryd.ntmps9
  go_wp2_with fail
  go_loopw [1, 2] (fun ov pv wr => ∃ j p : Nat, j ≤ 310 ∧ Hid (p = 2 + j) ∧ p ≤ 312 ∧ pv = .int .i64 (p : Int) ∧ Hid (Below w.heap.size w wr) ∧ ∃ L : List Nat, Hid (L = lsF j) ∧ Hid (MineW wr w.heap.size ov L)) (fun _ pv _ => 400 - (intOf pv).toNat)
  case atStart => exact ⟨0, 2, by omega, rfl, by omega, rfl, Below.refl _ _, [], rfl, .inl ⟨rfl, rfl⟩⟩
  case round =>
    obtain ⟨j, p, hj, Hp, hpp, rfl, hWr, L, HL, Mr⟩ := hrel
    obtain ⟨s5, c5, e5⟩ := minew_slice Mr.out
    subst e5
    obtain ⟨n, hn⟩ : ∃ n, n = L.length := ⟨_, rfl⟩
    rw [← hn] at Mr ⊢
    have HN := Lib.hid hn
    clear hn
    by_cases hlt : n < 64
    · have hd : decide ((n : Int) < 64) = true := decide_eq_true (by omega)
      have hj2 : j < 310 := ls_lt j (by rw [← HL.out, ← HN.out]; exact hlt)
      have q1 : IntKind.i64.wrap ((p : Int) + 1) = ((p + 1 : Nat) : Int) := by rw [show (p : Int) + 1 = ((p + 1 : Nat) : Int) by omega]; exact IntWalk.i64_in _ (by omega)
      have hp311 : p ≤ 311 := by have := Hp.out; omega
      go_wp2_with fail
      refine (prime_any p _ (by omega)).mono ?_
      rintro e w1 ⟨rfl, rfl⟩
      cases hpm : pmN p with
      | false =>
        have HPM := Lib.hid hpm
        clear hpm
        go_wp2_with fail
        go_roundw
        case rel =>
          refine ⟨j + 1, p + 1, by omega, ?_, by omega, rfl, hWr.out, L, ?_, Mr.out⟩
          · show _ = _
            rw [Hp.out]; omega
          · show _ = _
            rw [lsF, ← Hp.out, if_neg (by rw [HPM.out]; decide)]
            exact HL.out
        case measure => simp [intOf]; omega
      | true =>
        have HPM := Lib.hid hpm
        clear hpm
        go_wp2_with fail
        obtain ⟨R, hR⟩ : ∃ R, R = rdF p 0 36 := ⟨_, rfl⟩
        have HRR := Lib.hid hR
        clear hR
        go_loopw [3, 4] (fun av bv wr => ∃ a k : Nat, k ≤ 36 ∧ av = .int .u64 (a : Int) ∧ bv = .int .u64 ((2 ^ k / 2 : Nat) : Int) ∧ Hid (a + 2 ^ k ≤ 2 ^ 36) ∧ Hid (R = rdF p a k) ∧ Hid (Below w.heap.size w wr) ∧ Hid (MineW wr w.heap.size (.slice s5 n c5) L)) (fun _ bv _ => (intOf bv).toNat)
        case atStart => exact ⟨0, 36, Nat.le_refl _, rfl, rfl, by show 0 + 2 ^ 36 ≤ 2 ^ 36; omega, HRR.out, hWr.out, Mr.out⟩
        case round =>
          obtain ⟨a, k, hk, rfl, rfl, Ha, Hr, hWr2, Mr2⟩ := hrel
          cases k with
          | zero =>
            have e0 : ((2 ^ 0 / 2 : Nat) : Int) = 0 := rfl
            rw [e0]
            obtain ⟨y, hy⟩ : ∃ y, y = a % 4294967296 := ⟨_, rfl⟩
            have hyi : (a : Int) % 4294967296 = (y : Int) := by omega
            have hyl : y < 4294967296 := by omega
            have qy : IntKind.u32.wrap (y : Int) = (y : Int) := by rw [IntKind.wrap_u32]; omega
            have hyr : y = rdN p := by
              have h := Hr.out
              rw [rdF] at h
              rw [hy, ← h, HRR.out, rdN]
            have HYR := Lib.hid hyr
            have HNL := Lib.hid HN.out
            obtain ⟨s6, c6, W, hrun, M6, B6⟩ := app_one L y (.slice s5 n c5) w.heap.size _ Mr2.out hWr2.out.size hyl (by rw [← HN.out]; omega)
            rw [← HN.out] at hrun M6
            have M6 := Lib.hid M6
            have B6 := Lib.hid B6
            clear hy hyr
            go_wp2_with (refine wpList_appw (v1 := .slice s5 n c5) rfl (.tmp 25) (.tmp 29) rfl rfl rfl rfl hrun ?_)
            go_roundw
            case rel =>
              refine ⟨j + 1, p + 1, by omega, ?_, by omega, rfl, hWr2.out.trans B6.out, L ++ [y], ?_, M6.out⟩
              · show _ = _
                rw [Hp.out]; omega
              · show _ = _
                rw [lsF, ← Hp.out, if_pos HPM.out, ← HL.out, HYR.out]
            case measure => simp [intOf]; omega
          | succ k =>
            obtain ⟨t, ht⟩ : ∃ t, t = 2 ^ k := ⟨_, rfl⟩
            have e0 : (2 ^ (k + 1) / 2 : Nat) = t := by rw [ht, Nat.pow_succ, Nat.mul_div_cancel _ (by omega)]
            have ha := Ha.out
            have htp := Nat.two_pow_pos k
            rw [Nat.pow_succ] at ha
            rw [← ht] at ha htp
            rw [e0]
            have hr := Hr.out
            rw [rdF, ← ht] at hr
            have HT := Lib.hid ht
            obtain ⟨s, hs⟩ : ∃ s, s = a + t := ⟨_, rfl⟩
            rw [← hs] at hr
            have qs : IntKind.u64.wrap ((a : Int) + (t : Int)) = (s : Int) := by rw [IntKind.wrap_u64]; omega
            have qt : IntKind.u64.wrap ((t : Int) / 2) = ((t / 2 : Nat) : Int) := by rw [IntKind.wrap_u64]; omega
            have hd3 : decide ((0 : Int) < (t : Int)) = true := decide_eq_true (by omega)
            have HS := Lib.hid hs
            have HC := Lib.hid (fun W => cube_any s p W (by omega) (by omega))
            have hsl : s ≤ 68719476736 := by omega
            clear ht e0 hs
            cases hc : cuN s p with
            | false =>
              rw [hc] at HC hr
              have HR := Lib.hid hr
              clear hr hc
              go_wp2_with fail
              refine (HC.out _).mono ?_
              rintro e w2 ⟨rfl, B2⟩
              go_wp2_with fail
              go_roundw
              case rel =>
                refine ⟨a, k, by omega, rfl, by rw [← HT.out]; exact congrArg (Value.int .u64) (by omega), ?_, HR.out, hWr2.out.trans (B2.mono hWr2.out.size), Mr2.out.keep B2⟩
                show _ ≤ _
                rw [← HT.out]
                omega
              case measure => simp [intOf]; omega
            | true =>
              rw [hc] at HC hr
              have HR := Lib.hid hr
              clear hr hc
              go_wp2_with fail
              refine (HC.out _).mono ?_
              rintro e w2 ⟨rfl, B2⟩
              go_wp2_with fail
              go_roundw
              case rel =>
                refine ⟨s, k, by omega, rfl, by rw [← HT.out]; exact congrArg (Value.int .u64) (by omega), ?_, HR.out, hWr2.out.trans (B2.mono hWr2.out.size), Mr2.out.keep B2⟩
                show _ ≤ _
                rw [← HT.out]
                have := HS.out; omega
              case measure => simp [intOf]; omega
    · have hd : decide ((n : Int) < 64) = false := decide_eq_false (by omega)
      have hj2 : 310 ≤ j := ls_ge j (by rw [← HL.out, ← HN.out]; exact hlt)
      have hj3 : j = 310 := by omega
      have he := HL.out
      rw [hj3, list_all] at he
      have HE := Lib.hid he
      clear he hj3
      go_wp2_with fail
      go_ret
      exact ⟨_, rfl, by rw [← HE.out]; exact Mr.out, hWr.out⟩
end Go.Proofs.YtecmgojecjenmaaDoor
