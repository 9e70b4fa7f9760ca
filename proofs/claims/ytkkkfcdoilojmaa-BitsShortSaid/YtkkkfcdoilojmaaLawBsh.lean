/-
  What is proved: for any number the law BitsShort returns true, and its argument reads behind the call as it read before it. No condition.
-/
import Derived.Test.YtkkkfcdoilojmaaRcD
import Derived.Test.YtkkkfcdoilojmaaBitM
import Derived.Test.YtkkkfcdoilojmaaBitS
import Derived.Test.YtkkkfcdoilojmaaOpen
import Derived.Lib.QuietBelow
namespace Go.Proofs.Ytkkkfcdoilojmaa.bitsShort
open Go.ChangeShapes Go.WideShapes Go.ChangeAt Go.RowKit
set_option linter.unusedVariables false

theorem own : ownKnob Try.prog.godebug = none := by kernel_rfl
theorem laidOut : laidOutB Try.prog = true := by kernel_rfl

set_option maxRecDepth 100000 in
set_option maxHeartbeats 2000000 in
theorem walk_zero (a : Nat) (w : World)
    (HS : Hid (∀ W : World, Calls Try.prog 22 #[nv a] W fun e w' => e = .returned (.int .u32 0) ∧ Below W.heap.size W w'))
    (HO : Hid (∀ W : World, Calls Try.prog 24 #[nv a] W fun e w' => ∃ v, e = .returned v ∧ BX w' v a 256 ∧ Below W.heap.size W w'))
    (HR : Hid (∀ v W, BX W v a 256 → Calls Try.prog 23 #[v] W fun e w' => e = .returned (.int .u32 0) ∧ Below W.heap.size W w'))
    (HZ : Hid (∀ W : World, Calls Try.prog 14 #[nv a] W fun e w' => e = .returned (.bool true) ∧ Below W.heap.size W w'))
    : Calls Try.prog 5 #[nv a] w fun e w' => e = .returned (.bool true) ∧ Below w.heap.size w w' := by
  go_enter Try.func5, Try.ntmps5
  go_wp2_with fail
  refine (means_any _).mono ?_
  rintro e w1 ⟨rfl, hb1⟩
  have A : Bk w1 w.heap.size 24 (A4 (wd0 a) (wd1 a) (wd2 a) (wd3 a)) := Bk.keep (Bk.new _ _ _) hb1
  have hW : Below w.heap.size w w1 := below_step ((Below.refl _ _).alloc (Nat.le_refl _) _) (by simp) hb1
  clear hb1
  obtain ⟨a0, a1, a2, a3, a4, a5, a6, a7, za⟩ := A.f4
  go_wp2_with fail
  refine (HS.out _).mono ?_
  rintro e w2 ⟨rfl, hb⟩
  have A := A.keep hb
  have hW := below_step hW hW.size hb
  clear hb a0 a1 a2 a3 a4 a5 a6 a7 za
  obtain ⟨a0, a1, a2, a3, a4, a5, a6, a7, za⟩ := A.f4
  go_wp2_with fail
  refine (HO.out _).mono ?_
  rintro e w3 ⟨v3, rfl, B3, hb⟩
  have HR := Lib.hid (HR.out _ _ B3)
  obtain ⟨s3, c3, rfl, _⟩ := B3.slice
  have A := A.keep hb
  have hW := below_step hW hW.size hb
  clear hb a0 a1 a2 a3 a4 a5 a6 a7 za B3
  go_wp2_with fail
  refine HR.out.mono ?_
  rintro e w4 ⟨rfl, hb⟩
  have A := A.keep hb
  have hW := below_step hW hW.size hb
  clear hb HR
  obtain ⟨a0, a1, a2, a3, a4, a5, a6, a7, za⟩ := A.f4
  go_wp2_with fail
  refine (HZ.out _).mono ?_
  rintro e w5 ⟨rfl, hb⟩
  have A := A.keep hb
  have hW := below_step hW hW.size hb
  clear hb a0 a1 a2 a3 a4 a5 a6 a7 za
  go_wp2_with fail
  go_ret
  exact ⟨rfl, hW⟩
set_option maxRecDepth 100000 in
set_option maxHeartbeats 4000000 in
theorem walk_some (a s t d r : Nat) (z : Int) (w : World)
    (HS : Hid (∀ W : World, Calls Try.prog 22 #[nv a] W fun e w' => e = .returned (.int .u32 (s : Int)) ∧ Below W.heap.size W w'))
    (HO : Hid (∀ W : World, Calls Try.prog 24 #[nv a] W fun e w' => ∃ v, e = .returned v ∧ BX w' v a 256 ∧ Below W.heap.size W w'))
    (HR : Hid (∀ v W, BX W v a 256 → Calls Try.prog 23 #[v] W fun e w' => e = .returned (.int .u32 (s : Int)) ∧ Below W.heap.size W w'))
    (HZ : Hid (∀ W : World, Calls Try.prog 14 #[nv a] W fun e w' => e = .returned (.bool false) ∧ Below W.heap.size W w'))
    (HT : Hid (∀ W : World, Calls Try.prog 17 #[.int .u32 (s : Int)] W fun e w' => e = .returned (.tuple #[nv t, .bool true]) ∧ Below W.heap.size W w'))
    (HU : Hid (∀ W : World, Calls Try.prog 25 #[nv a, nv t] W fun e w' => e = .returned (.tuple #[nv d, .bool false]) ∧ Below W.heap.size W w'))
    (HH : Hid (∀ W : World, Calls Try.prog 27 #[nv a, .int .i64 15] W fun e w' => e = .returned (nv r) ∧ Below W.heap.size W w'))
    (HC : Hid (∀ W : World, Calls Try.prog 26 #[nv d, nv r] W fun e w' => e = .returned (.int .i64 z) ∧ Below W.heap.size W w'))
    (HS2 : Hid (∀ W : World, Calls Try.prog 22 #[nv t] W fun e w' => e = .returned (.int .u32 (s : Int)) ∧ Below W.heap.size W w'))
    (hz : z ≤ 0)
    : Calls Try.prog 5 #[nv a] w fun e w' => e = .returned (.bool true) ∧ Below w.heap.size w w' := by
  have hd : decide (z ≤ 0) = true := decide_eq_true hz
  go_enter Try.func5, Try.ntmps5
  go_wp2_with fail
  refine (means_any _).mono ?_
  rintro e w1 ⟨rfl, hb1⟩
  have A : Bk w1 w.heap.size 24 (A4 (wd0 a) (wd1 a) (wd2 a) (wd3 a)) := Bk.keep (Bk.new _ _ _) hb1
  have hW : Below w.heap.size w w1 := below_step ((Below.refl _ _).alloc (Nat.le_refl _) _) (by simp) hb1
  clear hb1
  obtain ⟨a0, a1, a2, a3, a4, a5, a6, a7, za⟩ := A.f4
  go_wp2_with fail
  refine (HS.out _).mono ?_
  rintro e w2 ⟨rfl, hb⟩
  have A := A.keep hb
  have hW := below_step hW hW.size hb
  clear hb a0 a1 a2 a3 a4 a5 a6 a7 za
  obtain ⟨a0, a1, a2, a3, a4, a5, a6, a7, za⟩ := A.f4
  go_wp2_with fail
  refine (HO.out _).mono ?_
  rintro e w3 ⟨v3, rfl, B3, hb⟩
  have HR := Lib.hid (HR.out _ _ B3)
  obtain ⟨s3, c3, rfl, _⟩ := B3.slice
  have A := A.keep hb
  have hW := below_step hW hW.size hb
  clear hb a0 a1 a2 a3 a4 a5 a6 a7 za B3
  go_wp2_with fail
  refine HR.out.mono ?_
  rintro e w4 ⟨rfl, hb⟩
  have A := A.keep hb
  have hW := below_step hW hW.size hb
  clear hb HR
  obtain ⟨a0, a1, a2, a3, a4, a5, a6, a7, za⟩ := A.f4
  go_wp2_with fail
  refine (HZ.out _).mono ?_
  rintro e w5 ⟨rfl, hb⟩
  have A := A.keep hb
  have hW := below_step hW hW.size hb
  clear hb a0 a1 a2 a3 a4 a5 a6 a7 za
  go_wp2_with fail
  refine (HT.out _).mono ?_
  rintro e w6 ⟨rfl, hb⟩
  have A := A.keep hb
  have hW := below_step hW hW.size hb
  clear hb
  go_upto_region 9 with fail
  refine wp_gen (fun W => Below w.heap.size w W ∧ Bk W w.heap.size 24 (A4 (wd0 a) (wd1 a) (wd2 a) (wd3 a)) ∧ Bk W w6.heap.size 24 (A4 (wd0 t) (wd1 t) (wd2 t) (wd3 t))) ⟨hW.alloc hW.size _, A.alloc _, Bk.new _ _ _⟩ ?_
  clear hW A
  generalize w6.heap.size = g4 at *
  rintro W ⟨hW, A, T⟩
  obtain ⟨a0, a1, a2, a3, a4, a5, a6, a7, za⟩ := A.f4
  obtain ⟨t0, t1, t2, t3, t4, t5, t6, t7, zt⟩ := T.f4
  go_wp2_with fail
  refine (HU.out _).mono ?_
  rintro e w7 ⟨rfl, hb⟩
  have A := A.keep hb
  have T := T.keep hb
  have hW := below_step hW hW.size hb
  clear hb a0 a1 a2 a3 a4 a5 a6 a7 za t0 t1 t2 t3 t4 t5 t6 t7 zt
  go_upto_region 10 with fail
  refine wp_gen (fun W => Below w.heap.size w W ∧ Bk W w.heap.size 24 (A4 (wd0 a) (wd1 a) (wd2 a) (wd3 a)) ∧ Bk W g4 24 (A4 (wd0 t) (wd1 t) (wd2 t) (wd3 t)) ∧ Bk W w7.heap.size 24 (A4 (wd0 d) (wd1 d) (wd2 d) (wd3 d))) ⟨hW.alloc hW.size _, A.alloc _, T.alloc _, Bk.new _ _ _⟩ ?_
  clear hW A T
  generalize w7.heap.size = g6 at *
  rintro W ⟨hW, A, T, D⟩
  obtain ⟨a0, a1, a2, a3, a4, a5, a6, a7, za⟩ := A.f4
  obtain ⟨t0, t1, t2, t3, t4, t5, t6, t7, zt⟩ := T.f4
  obtain ⟨d0, d1, d2, d3, d4, d5, d6, d7, zd⟩ := D.f4
  have r0 := cell_regrown a0
  have r1 := cell_regrown a1
  have r2 := cell_regrown a2
  have r3 := cell_regrown a3
  have r4 := cell_regrown t0
  have r5 := cell_regrown t1
  have r6 := cell_regrown t2
  have r7 := cell_regrown t3
  have r8 := cell_regrown d0
  have r9 := cell_regrown d1
  have r10 := cell_regrown d2
  have r11 := cell_regrown d3
  go_wp2_with fail
  refine wp_region_quiet_below (by kernel_rfl) (by kernel_rfl) ?_
  quiet_step (fail)
  quiet_step (fail)
  quiet_step (fail)
  quiet_step (fail)
  quiet_step (fail)
  quiet_step (fail)
  quiet_step (fail)
  quiet_step (fail)
  quiet_step (exact Calls.regrown_of (HH.out _))
  quiet_step (exact Calls.regrown_of (HC.out _))
  quiet_step (fail)
  quiet_step (fail)
  quiet_step (fail)
  quiet_step (fail)
  quiet_step (exact Calls.regrown_of (HS2.out _))
  quiet_step (fail)
  quiet_step (fail)
  quiet_step (fail)
  quiet_step (fail)
  refine wpQuiet_nil ?_
  intro _ hw'
  obtain ⟨⟨dq, osq⟩, hw''⟩ := hw'
  subst hw''
  have hG := below_regrown W dq osq
  have hW := below_step hW hW.size hG
  show Exit.then _ _ Exit.normal _ (Go.Sort.grow (redrawn W dq) osq)
  generalize Go.Sort.grow (redrawn W dq) osq = W2 at *
  clear A T D a0 a1 a2 a3 a4 a5 a6 a7 za t0 t1 t2 t3 t4 t5 t6 t7 zt d0 d1 d2 d3 d4 d5 d6 d7 zd r0 r1 r2 r3 r4 r5 r6 r7 r8 r9 r10 r11 hG
  go_wp2_with fail
  go_ret
  exact ⟨rfl, hW⟩

theorem cmp_le_of {a b : Nat} (h : a ≤ b) : cmpI a b ≤ 0 := by unfold cmpI; split <;> (try split) <;> omega
theorem near (a : Nat) (ha : a < M256) : a - trunc a ≤ a / 2 ^ 15 := by
  unfold trunc
  split
  · omega
  · rename_i h
    obtain ⟨h1, h2, h3⟩ := blen_spec a ha
    have h0 : a ≠ 0 := fun h0 => by have := h3 h0; omega
    have h4 := h2 h0
    have hk : 2 ^ (8 * (blen a / 8 - 2)) * 2 ^ 15 ≤ a := by
      rw [← Nat.pow_add]
      have : 2 ^ (8 * (blen a / 8 - 2) + 15) * 2 ≤ 2 ^ blen a := by
        rw [← Nat.pow_succ]
        exact Nat.pow_le_pow_right (by omega) (by omega)
      omega
    generalize 8 * (blen a / 8 - 2) = k at *
    have h5 := Nat.div_add_mod a (2 ^ k)
    have h6 := Nat.mod_lt a (Nat.two_pow_pos k)
    have h7 : 2 ^ k ≤ a / 2 ^ 15 := by rw [Nat.le_div_iff_mul_le (Nat.two_pow_pos _)]; exact hk
    rw [Nat.mul_comm] at h5
    omega
theorem some_trunc (a : Nat) (ha : a < M256) (h0 : a ≠ 0) : trunc a ≠ 0 := by
  intro h
  have h1 := near a ha
  rw [h] at h1
  have : a / 2 ^ 15 ≤ a / 2 := Nat.div_le_div_left (by decide) (by omega)
  omega
theorem walk (a : Nat) (w : World) (ha : a < M256) :
    Calls Try.prog 5 #[nv a] w fun e w' => e = .returned (.bool true) ∧ Below w.heap.size w w' := by
  have HS := fun W => short_any a W ha
  have HO := fun W => of2_any a W ha
  have HR := fun v W (h : BX W v a 256) => short3_any v a 256 W h (by omega) ha
  have HZ := fun W => zero_any a W ha
  by_cases h0 : a = 0
  · rw [decide_eq_true h0] at HZ
    have e : shortN a = 0 := by unfold shortN; rw [if_pos h0]
    rw [e] at HS HR
    exact walk_zero a w HS HO HR HZ
  · rw [decide_eq_false h0] at HZ
    have hsl := shortN_lt a ha
    have htl : trunc a < M256 := Nat.lt_of_le_of_lt (trunc_le a) ha
    have HT := fun W => target_any (shortN a) W hsl
    rw [tgt_short a ha, decide_eq_false (some_trunc a ha h0)] at HT
    have HU := fun W => sub_any a (trunc a) W ha htl
    have hle := trunc_le a
    rw [show (a + M256 - trunc a) % M256 = a - trunc a by rw [show a + M256 - trunc a = (a - trunc a) + M256 by omega, Nat.add_mod_right, Nat.mod_eq_of_lt (by omega)], decide_eq_false (by omega)] at HU
    have HH := fun W => shr_any a 15 W ha (by omega)
    have hrl : a / 2 ^ 15 < M256 := Nat.lt_of_le_of_lt (Nat.div_le_self _ _) ha
    have HC := fun W => cmp_any (a - trunc a) (a / 2 ^ 15) W (by omega) hrl
    have HS2 := fun W => short_any (trunc a) W htl
    rw [short_trunc a ha] at HS2
    exact walk_some a _ _ _ _ _ w HS HO HR HZ HT HU HH HC HS2 (cmp_le_of (near a ha))

set_option maxRecDepth 100000 in
set_option maxHeartbeats 2000000 in
theorem lifted (os : Os) (started : os.Started) (H : Type) (enc : TypeId × Value → H) :
    ReturnsInHanded {} Try.checked os 5 .any (Rows.bitsShortSpec.pre6 enc Try.prog Try.f5 Rows.bitsShortRow.domain false) (Rows.bitsShortSpec.post enc Try.prog Try.f5 false true false false) := by
  refine returnsInHanded_of_change (C := Try.checked) own started (by kernel_rfl) Try.func5
    (ChangeSpec.witness6 (enc := enc) (C := Try.checked) false ⟨#[], #[I4 0 0 0 0], []⟩ 8 (by kernel_rfl) (by kernel_rfl) (by kernel_rfl) (by kernel_rfl)) ?_
  intro W base args ds gs before hval0 hW hcnd _
  have hval : ∀ (j : Nat) t v, Try.f5.params[j]? = some t → args[j]? = some v → Value.okWide Try.prog W .any base t v := hval0
  have hW' := hW
  obtain ⟨p, q, hA0, hV, rfl, hfz, hnd⟩ := hW
  have hA : DataW.TrodAll enc Try.prog W 0 (fun _ => true) true Try.f5.params.toList args.toList ds p := hA0
  rw [Try.params5] at hA hval
  obtain ⟨v0, vs0, d0, ds0, p0, q0, hargs, rfl, rfl, h0, r0⟩ := trodAll_cons hA
  obtain ⟨rfl, rfl, rfl⟩ := trodAll_nil r0
  obtain rfl : args = #[v0] := by cases args; simp_all
  obtain ⟨rfl, rfl⟩ := trodVars_none hV
  have lt0 : ∀ x ∈ p0, x.block < W.heap.size := by obtain ⟨m, hm⟩ := h0; exact DataW.trod_lt m _ _ _ hm
  obtain ⟨zs0, hl0, rfl, hz0⟩ := open_ints_arr (n := 4) (k := .u64) Try.underlying24 Try.underlying22 (by kernel_rfl) (by kernel_rfl) (hval 0 24 v0 rfl rfl) h0
  obtain ⟨x0, hx0, ea0⟩ := num_of_words hl0 hz0
  clear hA0 hval0
  have hwalk := walk x0 W hx0
  rw [← ea0] at hwalk
  refine hwalk.mono fun e W' ⟨he, bel⟩ => ?_
  subst he
  exact ⟨_, rfl, _, _, _, [], _, [], hW', trodAll_mk1 (shut_bool Try.underlying4 _), (trodAll_cons_mk (Below.trod laidOut (by kernel_rfl) (of_decide_eq_true (by kernel_rfl)) h0 bel lt0) trodAll_mk0), rfl, bel.frame _, fun h => by cases h⟩

theorem over : Rows.bitsShortRow.holds Try.pinned (OpenSpec.ofChange Rows.bitsShortSpec) :=
  OpenClaim.holds_of_wide 5 Try.f5 rfl rfl rfl rfl rfl rfl rfl ⟨rfl, rfl, rfl, rfl, rfl⟩ rfl rfl rfl rfl rfl (by kernel_rfl) Try.func5 (by kernel_rfl)
    (of_decide_eq_true (by kernel_rfl)) (by unfold Func.isWrapper; first | (rw [if_pos (by decide +kernel)]; kernel_rfl) | (rw [if_neg (by decide +kernel)]; exact ⟨rfl, rfl⟩))
    (fun os started H enc _ => lifted os started H enc)

theorem proved : Rows.BitsShortSaid := over
#print axioms proved
end Go.Proofs.Ytkkkfcdoilojmaa.bitsShort
