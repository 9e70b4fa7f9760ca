/-
  What is proved: BanSmall holds for every input. No condition.
-/
import Derived.Test.YtckmkbnmbleegaaBanH
namespace Go.Proofs.Ytckmkbnmbleegaa.banSmall
open Go.ChangeShapes Go.WideShapes Go.ChangeAt Go.RowKit
set_option linter.unusedVariables false

theorem own : ownKnob Try.prog.godebug = none := by kernel_rfl
theorem laidOut : laidOutB Try.prog = true := by kernel_rfl
set_option maxRecDepth 100000 in
set_option maxHeartbeats 2000000 in
theorem walk (L : List OpM) (v : Value) (w : World) (h : RowV opR w w.heap.size v L) :
    Calls Try.prog 4 #[v] w fun e w' => e = .returned (.bool true) ∧ Below w.heap.size w w' := by
  have h63 : L.length < 9223372036854775808 := by obtain ⟨_, _, _, h1, h2, _⟩ := h; omega
  obtain ⟨s0, c, rfl⟩ : ∃ s c, v = .slice s L.length c := h.slice
  have hrow := row_at h
  obtain ⟨n, hn⟩ : ∃ n, n = L.length := ⟨_, rfl⟩
  have HN := Lib.hid hn
  rw [← hn] at hrow h63 ⊢
  have HL := Lib.hid hrow
  clear hrow hn h
  by_cases h200 : 200 < n
  · have d0 : decide ((200 : Int) < (n : Int)) = true := decide_eq_true (by omega)
    go_enter Try.func4, Try.ntmps4
    go_wp2_with fail
    refine (bans_any w).mono ?_
    rintro e w1 ⟨rfl, hb1⟩
    go_wp2_with fail
    go_ret
    exact ⟨rfl, hb1⟩
  have d0 : decide ((200 : Int) < (n : Int)) = false := decide_eq_false (by omega)
  go_enter Try.func4, Try.ntmps4
  go_wp2_with fail
  refine (bans_any w).mono ?_
  rintro e w1 ⟨rfl, hb1⟩
  go_upto_region 6 with fail
  refine wp_any (fun W => Below w.heap.size w W ∧ Tab W w1.heap.size (.slice none 0 0) w1.heap.size []) ⟨below_step hb1 hb1.size ((Below.refl _ _).alloc (Nat.le_refl _) _), tab_new w1 _⟩ ?_
  have HT : Hid (w.heap.size ≤ w1.heap.size) := hb1.size
  clear hb1
  generalize w1.heap.size = T at *
  rintro W ⟨hB, hT⟩
  have HB := Lib.hid hB
  have H0 := Lib.hid hT
  have h32 : ((32 : Int) < 32) = False := by simp
  clear hB hT
  go_wp2_with fail
  go_loopw [16] (fun i wr => ∃ (k : Nat) (v : Value) (M : List BanM), k ≤ n ∧ i = .int .i64 k ∧ Hid (Tab wr T v T M) ∧ Hid (M.length ≤ 32) ∧ Hid (Below w.heap.size w wr)) (fun i _ => n - (intOf i).toNat)
  case atStart => exact ⟨0, _, [], Nat.zero_le _, rfl, H0.out, Nat.zero_le 32, HB.out⟩
  case round =>
    clear H0 HB
    obtain ⟨k, v, M, hk, rfl, HTb, HM, HB⟩ := hrel
    by_cases hlt : k < n
    · obtain ⟨⟨xk, xa, xt⟩, b, o, hkx, rfl, hbw, hrg⟩ := HL.out k hlt
      have j1 : decide ((k : Int) < (n : Int)) = true := decide_eq_true (by omega)
      have hrg := rowr_below hrg HB.out hbw
      have r0 := hrg 0 _ rfl
      have r1 := hrg 1 _ rfl
      have r2 := hrg 2 _ rfl
      change wr.cell? ⟨b, o + k * 3 + 0, none⟩ = some (.int .i64 xk) at r0
      change wr.cell? ⟨b, o + k * 3 + 1, none⟩ = some (.int .i64 xa) at r1
      change wr.cell? ⟨b, o + k * 3 + 2, none⟩ = some (.int .i64 xt) at r2
      rw [Nat.add_zero] at r0
      clear hrg hkx
      go_upto_region 9 with fail
      refine wp_any (fun W => Below wr.heap.size wr W ∧ Bk W wr.heap.size 30 #[.int .i64 xk, .int .i64 xa, .int .i64 xt]) ⟨(Below.refl _ _).alloc (Nat.le_refl _) _, Bk.new _ _ _⟩ ?_
      clear r0 r1 r2
      have HS : Hid (T ≤ wr.heap.size) := Nat.le_of_lt HTb.out.G.lt
      have hwz : Hid (w.heap.size ≤ wr.heap.size) := HB.out.size
      generalize hp5 : wr.heap.size = p5 at *
      rintro W1 ⟨hb1, K1⟩
      have HT1 := HTb.out.keep (hp5 ▸ hb1)
      have HB1 := Lib.hid (HB.out.trans (hb1.mono hwz.out))
      have hm := HM.out
      have hl := len_any T v T M W1 HT1
      have hbn := ban_any T v T M xa xt W1 HT1 (Nat.le_of_lt HT1.G.lt) hm
      obtain ⟨t1, t2⟩ := til_ban M xa xt
      have h2 := banF_len M xa xt hm
      obtain ⟨M2, hM2⟩ : ∃ M2, M2 = banF M xa xt := ⟨_, rfl⟩
      rw [← hM2] at t1 t2 h2 hbn
      obtain ⟨m, hm0⟩ : ∃ m, m = M.length := ⟨_, rfl⟩
      rw [← hm0] at hl t1 hm
      obtain ⟨m2, hm2⟩ : ∃ m, m = M2.length := ⟨_, rfl⟩
      rw [← hm2] at h2
      have HM2 := Lib.hid hm2
      have e2 : decide ((32 : Int) < (m2 : Int)) = false := decide_eq_false (by omega)
      have HT1 := Lib.hid HT1
      have c0 := K1.cell 0
      have c1 := K1.cell 1
      have c2 := K1.cell 2
      change W1.cell? _ = some (.int .i64 xk) at c0
      change W1.cell? _ = some (.int .i64 xa) at c1
      change W1.cell? _ = some (.int .i64 xt) at c2
      have z5 := K1.lt
      have HK1 := Lib.hid K1
      obtain ⟨⟨ut, ok⟩, htl⟩ : ∃ r, r = til M2 xa := ⟨_, rfl⟩
      rw [← htl] at t1 t2
      have HTL := Lib.hid htl
      have T1 : Hid (m < 32 → ok = true) := t1
      have T2 : Hid (ok = true → xt ≤ ut) := t2
      have HMM := Lib.hid hm
      have H2M := Lib.hid h2
      clear hb1 hm t1 t2 hM2 hm0 hm2 h2 htl K1 HB HTb HM
      go_wp2_with fail
      refine hl.mono ?_
      rintro e w2 ⟨rfl, rfl⟩
      go_wp2_with fail
      refine hbn.mono ?_
      rintro e w3 ht
      obtain ⟨rfl, v3, hT3, hB3, hBt, _⟩ := ht.go HT1.out (B := w.heap.size) HT.out HT.out (Nat.le_trans HB1.out.size (Nat.le_refl _))
      have hub := until_any T v3 T M2 xa w3 hT3
      rw [← HTL.out] at hub
      have HT3 := Lib.hid hT3
      have HB3 := Lib.hid (HB1.out.trans hB3)
      have hap : ¬ (p5 = T ∨ slb v p5) := by
        rintro (e | e)
        · subst e
          exact absurd (Bk.type_eq HK1.out HT1.out.G) (by decide)
        · exact (HT1.out.M.apart HK1.out (by decide)) e
      have K3 := hBt.keep HK1.out hap
      have c0 := K3.cell 0
      have c1 := K3.cell 1
      have c2 := K3.cell 2
      change w3.cell? _ = some (.int .i64 xk) at c0
      change w3.cell? _ = some (.int .i64 xa) at c1
      change w3.cell? _ = some (.int .i64 xt) at c2
      have z5 := K3.lt
      have HK3 := Lib.hid K3
      clear hl hbn ht hT3 hB3 hBt hap K3
      go_wp2_with fail
      refine hub.mono ?_
      rintro e w4 ⟨rfl, hb4⟩
      have K4 := HK3.out.keep hb4
      have c2 := K4.cell 2
      change w4.cell? _ = some (.int .i64 xt) at c2
      have z5 := K4.lt
      have hT4 := HT3.out.keep hb4
      have HT4 := Lib.hid hT4
      have HB4 := Lib.hid (below_le HB3.out (Nat.le_refl _) hb4)
      have hl2 := len_any T v3 T M2 w4 hT4
      rw [← HM2.out] at hl2
      clear hub hb4 K4 hT4
      cases ok with
      | true =>
        have d1 : decide (ut < xt) = false := decide_eq_false (by have := T2.out rfl; omega)
        go_wp2_with fail
        refine hl2.mono ?_
        rintro e w5 ⟨rfl, rfl⟩
        go_wp2_with fail
        go_roundw
        case rel => exact ⟨k + 1, v3, M2, by omega, by simp, HT4.out, by rw [← HM2.out]; exact H2M.out, HB4.out⟩
        case measure => simp [intOf]; omega
      | false =>
        have d1 : ((m : Int) == 32) = true := by
          have := T1.out
          have h32 := HMM.out
          have : ¬ m < 32 := fun h => by have := this h; cases this
          simp
          omega
        go_wp2_with fail
        refine hl2.mono ?_
        rintro e w5 ⟨rfl, rfl⟩
        go_wp2_with fail
        go_roundw
        case rel => exact ⟨k + 1, v3, M2, by omega, by simp, HT4.out, by rw [← HM2.out]; exact H2M.out, HB4.out⟩
        case measure => simp [intOf]; omega
    · have j1 : decide ((k : Int) < (n : Int)) = false := decide_eq_false (by omega)
      go_wp2_with fail
      go_ret
      exact ⟨rfl, HB.out⟩

set_option maxRecDepth 100000 in
set_option maxHeartbeats 2000000 in
theorem lifted (os : Os) (started : os.Started) (H : Type) (enc : TypeId × Value → H) :
    ReturnsInHanded {} Try.checked os 4 .any (Rows.banSmallSpec.pre6 enc Try.prog Try.f4 Rows.banSmallRow.domain false) (Rows.banSmallSpec.post enc Try.prog Try.f4 false true false false) := by
  refine returnsInHanded_of_change (C := Try.checked) own started (by kernel_rfl) Try.func4
    (ChangeSpec.witness6 (enc := enc) (C := Try.checked) false ⟨#[], #[.slice none 0 0], []⟩ 8 (by kernel_rfl) (by kernel_rfl) (by kernel_rfl) (by kernel_rfl)) ?_
  intro W base args ds gs before hval0 hW hcnd _
  have hval : ∀ (j : Nat) t v, Try.f4.params[j]? = some t → args[j]? = some v → Value.okWide Try.prog W .any base t v := hval0
  have hW' := hW
  obtain ⟨p, q, hA0, hV, rfl, hfz, hnd⟩ := hW
  have hA : DataW.TrodAll enc Try.prog W 0 (fun _ => true) true Try.f4.params.toList args.toList ds p := hA0
  rw [Try.params4] at hA hval
  obtain ⟨v0, vs0, d0, ds0, p0, q0, hargs, rfl, rfl, h0, r0⟩ := trodAll_cons hA
  obtain ⟨rfl, rfl, rfl⟩ := trodAll_nil r0
  obtain rfl : args = #[v0] := by cases args; simp_all
  obtain ⟨rfl, rfl⟩ := trodVars_none hV
  have lt0 : ∀ x ∈ p0, x.block < W.heap.size := by obtain ⟨m, hm⟩ := h0; exact DataW.trod_lt m _ _ _ hm
  obtain ⟨x0, hb0⟩ := ops_arg (hval 0 22 v0 rfl rfl) h0
  clear hA0 hval0
  have hwalk := walk x0 v0 W hb0
  refine hwalk.mono fun e W' ⟨he, bel⟩ => ?_
  subst he
  exact ⟨_, rfl, _, _, _, [], _, [], hW', trodAll_mk1 (shut_bool Try.underlying4 _), (trodAll_cons_mk (Below.trod laidOut (by kernel_rfl) (of_decide_eq_true (by kernel_rfl)) h0 bel lt0) trodAll_mk0), rfl, bel.frame _, fun h => by cases h⟩

theorem over : Rows.banSmallRow.holds Try.pinned (OpenSpec.ofChange Rows.banSmallSpec) :=
  OpenClaim.holds_of_wide 4 Try.f4 rfl rfl rfl rfl rfl rfl rfl ⟨rfl, rfl, rfl, rfl, rfl⟩ rfl rfl rfl rfl rfl (by kernel_rfl) Try.func4 (by kernel_rfl)
    (of_decide_eq_true (by kernel_rfl)) (by unfold Func.isWrapper; first | (rw [if_pos (by decide +kernel)]; kernel_rfl) | (rw [if_neg (by decide +kernel)]; exact ⟨rfl, rfl⟩))
    (fun os started H enc _ => lifted os started H enc)

theorem proved : Rows.BanSmallSaid := over
#print axioms proved
end Go.Proofs.Ytckmkbnmbleegaa.banSmall
