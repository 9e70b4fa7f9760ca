/-
  What is proved: for every number a and every int n the law NumTimes returns true, and its arguments read behind the call as they read before it. No condition.
-/
import Derived.Test.YtecbecngdbjagabCnt
import Derived.Test.YtecbecngdbjagabOpen
namespace Go.Proofs.Ytecbecngdbjagab.numTimes
open Go.ChangeShapes Go.WideShapes Go.ChangeAt Go.RowKit
set_option linter.unusedVariables false

theorem own : ownKnob Try.prog.godebug = none := by kernel_rfl
theorem laidOut : laidOutB Try.prog = true := by kernel_rfl

theorem step_word (a k : Nat) : (a * k % M256 + a) % M256 = a * (k + 1) % M256 := by rw [Nat.mod_add_mod, Nat.mul_succ]

set_option maxRecDepth 100000 in
set_option maxHeartbeats 4000000 in
theorem walk_inn (a : Nat) (n : Nat) (w : World) (ha : a < M256) (hn : n ≤ 40) :
    Calls Try.prog 5 #[nv a, .int .i64 (n : Int)] w fun e w' => e = .returned (.bool true) ∧ Below w.heap.size w w' := by
  have hm := fun W => mul_any a n W ha (by unfold B64; omega)
  have HM := Lib.hid hm
  have hcv : IntKind.u64.wrap (n : Int) = (n : Int) := by rw [IntKind.wrap_u64]; omega
  clear hm
  go_enter Try.func5, Try.ntmps5
  go_wp2_with fail
  refine (counts_any _).mono ?_
  rintro e w1 ⟨rfl, hb1⟩
  have A : Bk w1 w.heap.size 26 (A4 (wd0 a) (wd1 a) (wd2 a) (wd3 a)) := Bk.keep (Bk.new _ _ _) hb1
  have hW : Below w.heap.size w w1 := below_step ((Below.refl _ _).alloc (Nat.le_refl _) _) (by simp) hb1
  clear hb1
  obtain ⟨a0, a1, a2, a3, a4, a5, a6, a7, za⟩ := A.f4
  go_wp2_with fail
  refine (HM.out _).mono ?_
  rintro e w2 ⟨rfl, hb2⟩
  have A := A.keep hb2
  have hW : Below w.heap.size w w2 := below_step hW (by omega) hb2
  clear hb2 a0 a1 a2 a3 a4 a5 a6 a7 za HM hcv
  have hT : w.heap.size < w2.heap.size := A.lt
  have hwp : a * n % M256 < M256 := Nat.mod_lt _ M256_pos
  generalize hp : a * n % M256 = p at *
  have HP := Lib.hid hp
  clear hp
  generalize ho : decide (M256 ≤ a * n) = ov at *
  have HO := Lib.hid ho
  clear ho
  go_wp2_with fail
  go_loopw [8, 27] (fun o i wr => ∃ k : Nat, k ≤ n ∧ i = .int .i64 k ∧ (∃ ob : Bool, o = .bool ob ∧ Hid (ob = decide (M256 ≤ a * k))) ∧ Below w.heap.size w wr ∧ Bk wr w.heap.size 26 (A4 (wd0 a) (wd1 a) (wd2 a) (wd3 a)) ∧
    Bk wr w2.heap.size 26 (A4 (wd0 p) (wd1 p) (wd2 p) (wd3 p)) ∧ (∃ q : Nat, Hid (q = a * k % M256) ∧ Bk wr (w2.heap.size + 1) 26 (A4 (wd0 q) (wd1 q) (wd2 q) (wd3 q)))) (fun _ i _ => n - (intOf i).toNat)
  case atStart =>
    refine ⟨0, Nat.zero_le _, rfl, ⟨false, rfl, by have := M256_pos; simp [Hid]; omega⟩, (hW.alloc (by omega) _).alloc (by simp; omega) _, (A.alloc _).alloc _, (Bk.new _ _ _).alloc _, ⟨0, by simp [Hid], Bk.new' _ _ _ (by simp)⟩⟩
  case round =>
    obtain ⟨k, hk, rfl, ⟨ob, rfl, HB⟩, hbe, A, P, ⟨q, HQ, S⟩⟩ := hrel
    obtain ⟨a0, a1, a2, a3, a4, a5, a6, a7, za⟩ := A.f4
    obtain ⟨s0, s1, s2, s3, s4, s5, s6, s7, zs⟩ := S.f4
    have hq : q < M256 := by rw [HQ.out]; exact Nat.mod_lt _ M256_pos
    by_cases hlt : k < n
    · have hadd := fun W => add2 q a W hq ha
      have e1 : (q + a) % M256 = a * (k + 1) % M256 := by rw [HQ.out]; exact step_word a k
      rw [e1] at hadd
      have HA := Lib.hid hadd
      clear hadd e1
      go_wp2_with fail
      refine (HA.out _).mono ?_
      rintro e w5 ⟨rfl, hb5⟩
      have hbe5 := below_step hbe (by omega) hb5
      have A := A.keep hb5
      have P := P.keep hb5
      have S := S.keep hb5
      clear hb5 a0 a1 a2 a3 a4 a5 a6 a7 za s0 s1 s2 s3 s4 s5 s6 s7 zs HA hbe
      obtain ⟨s0, s1, s2, s3, s4, s5, s6, s7, zs⟩ := S.f4
      have HN : Hid ((ob || decide (M256 ≤ q + a)) = decide (M256 ≤ a * (k + 1))) := by
        show _ = _
        rw [HB.out, HQ.out, over_step, Nat.mul_succ]
      generalize decide (M256 ≤ q + a) = oc at *
      generalize hq' : a * (k + 1) % M256 = q' at *
      have HQ' := Lib.hid hq'
      clear hq' hq
      cases ob
      all_goals go_wp2_with fail
      all_goals go_roundw
      case rel => exact ⟨k + 1, by omega, by go_num, ⟨_, rfl, HN⟩, Below.set4 hbe5 (by omega) _ _ _ _, A.far4 (by omega) _ _ _ _, P.far4 (by omega) _ _ _ _, ⟨q', HQ'.out.symm, S.set4 _ _ _ _⟩⟩
      case measure => simp [intOf]; omega
      case rel => exact ⟨k + 1, by omega, by go_num, ⟨_, rfl, HN⟩, Below.set4 hbe5 (by omega) _ _ _ _, A.far4 (by omega) _ _ _ _, P.far4 (by omega) _ _ _ _, ⟨q', HQ'.out.symm, S.set4 _ _ _ _⟩⟩
      case measure => simp [intOf]; omega
    · have hkn : k = n := by omega
      have e1 : q = p := by rw [HQ.out, hkn]; exact HP.out
      have e2 : ob = ov := by rw [HB.out, hkn]; exact HO.out
      subst e1 e2
      have he := nv_eql q q hq hq
      simp only [decide_true] at he
      have HK := Lib.hid hkn
      clear hkn a0 a1 a2 a3 a4 a5 a6 a7
      obtain ⟨p0, p1, p2, p3, p4, p5, p6, p7, zp⟩ := P.f4
      go_wp2_with fail
      go_ret
      exact ⟨by simp, hbe⟩

set_option maxRecDepth 100000 in
set_option maxHeartbeats 4000000 in
theorem walk_out (a : Nat) (n : Int) (w : World) (ha : a < M256) (hn : n < 0 ∨ 40 < n) :
    Calls Try.prog 5 #[nv a, .int .i64 n] w fun e w' => e = .returned (.bool true) ∧ Below w.heap.size w w' := by
  rcases hn with hn | hn
  all_goals
    go_enter Try.func5, Try.ntmps5
    go_wp2_with fail
    refine (counts_any _).mono ?_
    rintro e w1 ⟨rfl, hb1⟩
    have hW : Below w.heap.size w w1 := below_step ((Below.refl _ _).alloc (Nat.le_refl _) _) (by simp) hb1
    go_wp2_with fail
    go_ret
    exact ⟨rfl, hW⟩

theorem walk (a : Nat) (n : Int) (w : World) (ha : a < M256) :
    Calls Try.prog 5 #[nv a, .int .i64 n] w fun e w' => e = .returned (.bool true) ∧ Below w.heap.size w w' := by
  by_cases h : n < 0 ∨ 40 < n
  · exact walk_out a n w ha h
  · obtain ⟨m, rfl⟩ := Int.eq_ofNat_of_zero_le (show 0 ≤ n by omega)
    exact walk_inn a m w ha (by omega)

set_option maxRecDepth 100000 in
theorem lifted (os : Os) (started : os.Started) (H : Type) (enc : TypeId × Value → H) :
    ReturnsInHanded {} Try.checked os 5 .any (Rows.numTimesSpec.pre6 enc Try.prog Try.f5 Rows.numTimesRow.domain false) (Rows.numTimesSpec.post enc Try.prog Try.f5 false true false false) := by
  refine returnsInHanded_of_change (C := Try.checked) own started (by kernel_rfl) Try.func5
    (ChangeSpec.witness6 (enc := enc) (C := Try.checked) false ⟨#[], #[I4 0 0 0 0, .int .i64 0], []⟩ 8 (by kernel_rfl) (by kernel_rfl) (by kernel_rfl) (by kernel_rfl)) ?_
  intro W base args ds gs before hval0 hW hcnd _
  have hval : ∀ (j : Nat) t v, Try.f5.params[j]? = some t → args[j]? = some v → Value.okWide Try.prog W .any base t v := hval0
  have hW' := hW
  obtain ⟨p, q, hA0, hV, rfl, hfz, hnd⟩ := hW
  have hA : DataW.TrodAll enc Try.prog W 0 (fun _ => true) true Try.f5.params.toList args.toList ds p := hA0
  rw [Try.params5] at hA hval
  obtain ⟨v0, vs0, d0, ds0, p0, q0, hargs, rfl, rfl, h0, r0⟩ := trodAll_cons hA
  obtain ⟨v1, vs1, d1, ds1, p1, q1, rfl, rfl, rfl, h1, r1⟩ := trodAll_cons r0
  obtain ⟨rfl, rfl, rfl⟩ := trodAll_nil r1
  obtain rfl : args = #[v0, v1] := by cases args; simp_all
  obtain ⟨rfl, rfl⟩ := trodVars_none hV
  have lt0 : ∀ x ∈ p0, x.block < W.heap.size := by obtain ⟨m, hm⟩ := h0; exact DataW.trod_lt m _ _ _ hm
  have lt1 : ∀ x ∈ p1, x.block < W.heap.size := by obtain ⟨m, hm⟩ := h1; exact DataW.trod_lt m _ _ _ hm
  obtain ⟨zs0, hl0, rfl, hz0⟩ := open_ints_arr (n := 4) (k := .u64) Try.underlying26 Try.underlying24 (by kernel_rfl) (by kernel_rfl) (hval 0 26 v0 rfl rfl) h0
  obtain ⟨a0, ha0, ea0⟩ := num_of_words hl0 hz0
  have k1 := h1
  obtain ⟨a1, rfl, rfl, rfl, w1⟩ := open_int Try.underlying3 (hval 1 3 v1 rfl rfl) h1
  clear hA0 hval0
  have hwalk := walk a0 a1 W ha0
  rw [← ea0] at hwalk
  refine hwalk.mono fun e W' ⟨he, bel⟩ => ?_
  subst he
  exact ⟨_, rfl, _, _, _, [], _, [], hW', trodAll_mk1 (shut_bool Try.underlying4 _), (trodAll_cons_mk (Below.trod laidOut (by kernel_rfl) (of_decide_eq_true (by kernel_rfl)) h0 bel lt0) (trodAll_cons_mk (Below.trod laidOut (by kernel_rfl) (of_decide_eq_true (by kernel_rfl)) k1 bel lt1) trodAll_mk0)), rfl, bel.frame _, fun h => by cases h⟩

theorem over : Rows.numTimesRow.holds Try.pinned (OpenSpec.ofChange Rows.numTimesSpec) :=
  OpenClaim.holds_of_wide 5 Try.f5 rfl rfl rfl rfl rfl rfl rfl ⟨rfl, rfl, rfl, rfl, rfl⟩ rfl rfl rfl rfl rfl (by kernel_rfl) Try.func5 (by kernel_rfl)
    (of_decide_eq_true (by kernel_rfl)) (by unfold Func.isWrapper; first | (rw [if_pos (by decide +kernel)]; kernel_rfl) | (rw [if_neg (by decide +kernel)]; exact ⟨rfl, rfl⟩))
    (fun os started H enc _ => lifted os started H enc)

theorem proved : Rows.NumTimesSaid := over
#print axioms proved
end Go.Proofs.Ytecbecngdbjagab.numTimes
