/-
  What is proved: BanApart holds for every input. No condition.
-/
import Derived.Test.YtckmkbnmbleegaaBanJ
namespace Go.Proofs.Ytckmkbnmbleegaa.banApart
open Go.ChangeShapes Go.WideShapes Go.ChangeAt Go.RowKit
set_option linter.unusedVariables false

theorem own : ownKnob Try.prog.godebug = none := by kernel_rfl
theorem laidOut : laidOutB Try.prog = true := by kernel_rfl
set_option maxRecDepth 100000 in
set_option maxHeartbeats 4000000 in
theorem walk (A u0 : Int) (L : List OpM) (v : Value) (w : World) (h : RowV opR w w.heap.size v L) :
    Calls Try.prog 6 #[v, .int .i64 A, .int .i64 u0] w fun e w' => e = .returned (.bool true) ∧ Below w.heap.size w w' := by
  have h63 : L.length < 9223372036854775808 := by obtain ⟨_, _, _, h1, h2, _⟩ := h; omega
  obtain ⟨s0, c, rfl⟩ : ∃ s c, v = .slice s L.length c := h.slice
  have hrow := row_at h
  obtain ⟨n, hn⟩ : ∃ n, n = L.length := ⟨_, rfl⟩
  have HN := Lib.hid hn
  rw [← hn] at hrow h63 ⊢
  have HL := Lib.hid hrow
  clear hrow hn h
  by_cases h200 : 31 < n
  · have d0 : decide ((31 : Int) < (n : Int)) = true := decide_eq_true (by omega)
    go_enter Try.func6, Try.ntmps6
    go_wp2_with fail
    refine (bans_any w).mono ?_
    rintro e w1 ⟨rfl, hb1⟩
    go_wp2_with fail
    go_ret
    exact ⟨rfl, hb1⟩
  have d0 : decide ((31 : Int) < (n : Int)) = false := decide_eq_false (by omega)
  go_enter Try.func6, Try.ntmps6
  go_wp2_with fail
  refine (bans_any w).mono ?_
  rintro e w1 ⟨rfl, hb1⟩
  go_upto_region 6 with fail
  refine wp_any (fun W => Below w.heap.size w W ∧ Tab W w1.heap.size (.slice none 0 0) w1.heap.size [] ∧ Tab W (w1.heap.size + 1) (.slice none 0 0) w1.heap.size [])
    ⟨below_step hb1 hb1.size (((Below.refl _ _).alloc (Nat.le_refl _) _).alloc (by simp) _), (tab_new w1 _).keep ((Below.refl _ _).alloc (Nat.le_refl _) _), tab_new' _ _ (by simp)⟩ ?_
  have HT : Hid (w.heap.size ≤ w1.heap.size) := hb1.size
  clear hb1
  generalize w1.heap.size = T at *
  rintro W ⟨hB, hT, hT2⟩
  have HB := Lib.hid hB
  have H0 := Lib.hid hT
  have H1 := Lib.hid hT2
  have e0 : banF [] A u0 = [⟨A, u0⟩] := rfl
  have hbn := ban_any (T + 1) _ T [] A u0 W hT2 (Nat.le_of_lt hT.G.lt) (Nat.zero_le _)
  rw [e0] at hbn
  clear hB hT hT2
  go_wp2_with fail
  refine hbn.mono ?_
  rintro e w2 ht
  obtain ⟨rfl, vb, hT2, hB2, hBt, hSl⟩ := ht.go H1.out (B := w.heap.size) HT.out (by have := HT.out; omega) HB.out.size
  obtain ⟨hT1, hA⟩ := H0.out.other H1.out (by omega) (fun k hk => absurd hk (slb_none _ _ _)) hBt hSl
  have H0 := Lib.hid hT1
  have H1 := Lib.hid hT2
  have HA := Lib.hid hA
  have HB := Lib.hid (HB.out.trans hB2)
  clear hbn ht hT2 hB2 hBt hSl hT1 hA
  go_wp2_with fail
  go_loopw [29] (fun i wr => ∃ (k : Nat) (va vb : Value) (M : List BanM), k ≤ n ∧ i = .int .i64 k ∧ Hid (Tab wr T va T M) ∧ Hid (Tab wr (T + 1) vb T (⟨A, u0⟩ :: M)) ∧ Hid (ApartV va vb) ∧ Hid (M.length ≤ k) ∧ Hid (Below w.heap.size w wr)) (fun i _ => n - (intOf i).toNat)
  case atStart => exact ⟨0, _, vb, [], Nat.zero_le _, rfl, H0.out, H1.out, HA.out, Nat.zero_le _, HB.out⟩
  case round =>
    clear H0 H1 HA HB
    obtain ⟨k, va, vb, M, hk, rfl, HTb, HTc, HA, HM, HB⟩ := hrel
    by_cases hlt : k < n
    · obtain ⟨⟨xk, xa, xt⟩, b, o, hkx, hse, hbw, hrg⟩ := HL.out k hlt
      subst hse
      have j1 : decide ((k : Int) < (n : Int)) = true := decide_eq_true (by omega)
      have hrg := rowr_below hrg HB.out hbw
      have r0 := hrg 0 _ rfl
      have r1 := hrg 1 _ rfl
      have r2 := hrg 2 _ rfl
      change wr.cell? ⟨b, o + k * 3 + 0, none⟩ = some (.int .i64 xk) at r0
      change wr.cell? ⟨b, o + k * 3 + 1, none⟩ = some (.int .i64 xa) at r1
      change wr.cell? ⟨b, o + k * 3 + 2, none⟩ = some (.int .i64 xt) at r2
      rw [Nat.add_zero] at r0
      have HX := Lib.hid hkx
      clear hrg hkx
      go_upto_region 10 with fail
      refine wp_any (fun W => Below wr.heap.size wr W ∧ Bk W wr.heap.size 30 #[.int .i64 xk, .int .i64 xa, .int .i64 xt]) ⟨(Below.refl _ _).alloc (Nat.le_refl _) _, Bk.new _ _ _⟩ ?_
      clear r0 r1 r2
      have hwz : Hid (w.heap.size ≤ wr.heap.size) := HB.out.size
      generalize hp5 : wr.heap.size = p5 at *
      rintro W1 ⟨hb1, K1⟩
      have HT1 := Lib.hid (HTb.out.keep (hp5 ▸ hb1))
      have HB1 := Lib.hid (HB.out.trans (hb1.mono hwz.out))
      have hB1r : Below wr.heap.size wr W1 := hp5 ▸ hb1
      have HW1 := Lib.hid hB1r
      have c0 := K1.cell 0
      have c1 := K1.cell 1
      have c2 := K1.cell 2
      change W1.cell? _ = some (.int .i64 xk) at c0
      change W1.cell? _ = some (.int .i64 xa) at c1
      change W1.cell? _ = some (.int .i64 xt) at c2
      have z5 := K1.lt
      have HK1 := Lib.hid K1
      clear hb1 K1 hB1r hp5
      have hTc1 := HTc.out.keep HW1.out
      have HTc1 := Lib.hid hTc1
      have HMl : Hid (M.length < 31) := by have := HM.out; show _ < _; omega
      clear hTc1 HTb HTc HB
      by_cases h0 : xk = 0
      · have q0 : (xk == 0) = true := by simp [h0]
        by_cases hA : xa = A
        · have q1 : (xa != A) = false := by simp [hA]
          clear h0 hA
          go_wp2_with fail
          go_roundw
          case rel => exact ⟨k + 1, va, vb, M, by omega, by simp, HT1.out, HTc1.out, HA.out, Nat.le_succ_of_le HM.out, HB1.out⟩
          case measure => simp [intOf]; omega
        · have q1 : (xa != A) = true := by simp [hA]
          obtain ⟨hbc, hbl⟩ := banF_cons (u0 := u0) (u := xt) hA M HMl.out
          have HBC := Lib.hid hbc
          have HBL : Hid ((banF M xa xt).length ≤ k + 1) := by have := HM.out; show _ ≤ _; omega
          have hbn := ban_any T va T M xa xt W1 HT1.out (Nat.le_of_lt HT1.out.G.lt) (by have := HMl.out; omega)
          clear h0 hA hbc hbl
          go_wp2_with fail
          refine hbn.mono ?_
          rintro e w3 ht
          obtain ⟨rfl, v3, hT3, hB3, hBt, hSl⟩ := ht.go HT1.out (B := w.heap.size) HT.out HT.out HB1.out.size
          obtain ⟨hTc3, hA3⟩ := HTc1.out.other HT1.out (by omega) HA.out.symm hBt hSl
          have hap : ¬ (p5 = T ∨ slb va p5) := by
            rintro (e | e)
            · subst e
              exact absurd (Bk.type_eq HK1.out HT1.out.G) (by decide)
            · exact (HT1.out.M.apart HK1.out (by decide)) e
          have K3 := hBt.keep HK1.out hap
          have c1 := K3.cell 1
          have c2 := K3.cell 2
          change w3.cell? _ = some (.int .i64 xa) at c1
          change w3.cell? _ = some (.int .i64 xt) at c2
          have z5 := K3.lt
          have HT3 := Lib.hid hT3
          have HTc3 := Lib.hid hTc3
          have HA3 := Lib.hid hA3
          have HB3 := Lib.hid (HB1.out.trans hB3)
          have hbn := ban_any (T + 1) vb T (⟨A, u0⟩ :: M) xa xt w3 HTc3.out (Nat.le_of_lt HT3.out.G.lt) (by have := HMl.out; rw [List.length_cons]; omega)
          rw [HBC.out] at hbn
          clear ht hT3 hB3 hBt hSl hTc3 hA3 hap K3 c0 HTc1 HT1
          generalize banF M xa xt = M2 at *
          go_wp2_with fail
          refine hbn.mono ?_
          rintro e w4 ht
          obtain ⟨rfl, v4, hT4, hB4, hBt, hSl⟩ := ht.go HTc3.out (B := w.heap.size) HT.out (by have := HT.out; omega) HB3.out.size
          obtain ⟨hTb4, hA4⟩ := HT3.out.other HTc3.out (by omega) HA3.out.symm hBt hSl
          have HT4 := Lib.hid hTb4
          have HTc4 := Lib.hid hT4
          have HA4 := Lib.hid hA4
          have HB4 := Lib.hid (HB3.out.trans hB4)
          clear hbn ht hT4 hB4 hBt hSl hTb4 hA4 c1 c2 z5
          go_wp2_with fail
          go_roundw
          case rel => exact ⟨k + 1, v3, v4, M2, by omega, by simp, HT4.out, HTc4.out, HA4.out, HBL.out, HB4.out⟩
          case measure => simp [intOf]; omega
      · have q0 : (xk == 0) = false := by simp [h0]
        clear h0
        go_wp2_with fail
        go_roundw
        case rel => exact ⟨k + 1, va, vb, M, by omega, by simp, HT1.out, HTc1.out, HA.out, Nat.le_succ_of_le HM.out, HB1.out⟩
        case measure => simp [intOf]; omega
    · have j1 : decide ((k : Int) < (n : Int)) = false := decide_eq_false (by omega)
      have hub := until_any (T + 1) vb T _ A wr HTc.out
      rw [til_self] at hub
      go_wp2_with fail
      clear hlt hk HM
      refine hub.mono ?_
      rintro e w3 ⟨rfl, hb3⟩
      have HT3 := Lib.hid (HTb.out.keep hb3)
      have HTc3 := Lib.hid (HTc.out.keep hb3)
      have HB3 := Lib.hid (below_le HB.out (Nat.le_refl _) hb3)
      clear hub hb3 HTb HTc HB j1
      go_wp2_with fail
      generalize w3 = w0 at *
      go_loopw [60] (fun i wr => ∃ (k : Nat), k ≤ n ∧ i = .int .i64 k ∧ Hid (Tab wr T va T M) ∧ Hid (Tab wr (T + 1) vb T (⟨A, u0⟩ :: M)) ∧ Hid (Below w.heap.size w wr)) (fun i _ => n - (intOf i).toNat)
      case atStart => exact ⟨0, Nat.zero_le _, rfl, HT3.out, HTc3.out, HB3.out⟩
      case round =>
        clear HT3 HTc3 HB3
        obtain ⟨k, hk, rfl, HTb, HTc, HB⟩ := hrel
        by_cases hlt : k < n
        · obtain ⟨⟨xk, xa, xt⟩, b, o, hkx, hse, hbw, hrg⟩ := HL.out k hlt
          subst hse
          have j1 : decide ((k : Int) < (n : Int)) = true := decide_eq_true (by omega)
          have hrg := rowr_below hrg HB.out hbw
          have r0 := hrg 0 _ rfl
          have r1 := hrg 1 _ rfl
          have r2 := hrg 2 _ rfl
          change wr.cell? ⟨b, o + k * 3 + 0, none⟩ = some (.int .i64 xk) at r0
          change wr.cell? ⟨b, o + k * 3 + 1, none⟩ = some (.int .i64 xa) at r1
          change wr.cell? ⟨b, o + k * 3 + 2, none⟩ = some (.int .i64 xt) at r2
          rw [Nat.add_zero] at r0
          have HX := Lib.hid hkx
          clear hrg hkx
          go_upto_region 18 with fail
          refine wp_any (fun W => Below wr.heap.size wr W ∧ Bk W wr.heap.size 30 #[.int .i64 xk, .int .i64 xa, .int .i64 xt]) ⟨(Below.refl _ _).alloc (Nat.le_refl _) _, Bk.new _ _ _⟩ ?_
          clear r0 r1 r2
          have hwz : Hid (w.heap.size ≤ wr.heap.size) := HB.out.size
          generalize hp5 : wr.heap.size = p5 at *
          rintro W1 ⟨hb1, K1⟩
          have HT1 := Lib.hid (HTb.out.keep (hp5 ▸ hb1))
          have HB1 := Lib.hid (HB.out.trans (hb1.mono hwz.out))
          have hB1r : Below wr.heap.size wr W1 := hp5 ▸ hb1
          have HW1 := Lib.hid hB1r
          have c0 := K1.cell 0
          have c1 := K1.cell 1
          have c2 := K1.cell 2
          change W1.cell? _ = some (.int .i64 xk) at c0
          change W1.cell? _ = some (.int .i64 xa) at c1
          change W1.cell? _ = some (.int .i64 xt) at c2
          have z5 := K1.lt
          have HK1 := Lib.hid K1
          clear hb1 K1 hB1r hp5
          have hTc1 := HTc.out.keep HW1.out
          have HTc1 := Lib.hid hTc1
          clear hTc1 HTb HTc HB
          by_cases hA : xa = A
          · have q1 : (xa == A) = true := by simp [hA]
            clear hA
            go_wp2_with fail
            go_roundw
            case rel => exact ⟨k + 1, by omega, by simp, HT1.out, HTc1.out, HB1.out⟩
            case measure => simp [intOf]; omega
          · have q1 : (xa == A) = false := by simp [hA]
            have hub := until_any T va T M xa W1 HT1.out
            have htc := til_cons (u0 := u0) hA M
            have HTC := Lib.hid htc
            clear hA htc
            go_wp2_with fail
            refine hub.mono ?_
            rintro e w3 ⟨rfl, hb3⟩
            have HT3 := Lib.hid (HT1.out.keep hb3)
            have HTc3 := Lib.hid (HTc1.out.keep hb3)
            have HB3 := Lib.hid (below_le HB1.out (Nat.le_refl _) hb3)
            have K3 := HK1.out.keep hb3
            have c1 := K3.cell 1
            change w3.cell? _ = some (.int .i64 xa) at c1
            have z5 := K3.lt
            have hub := until_any (T + 1) vb T _ xa w3 HTc3.out
            rw [HTC.out] at hub
            clear hb3 K3 c0 c2 HT1 HTc1
            generalize til M xa = rr at *
            obtain ⟨ut, ok⟩ := rr
            go_wp2_with fail
            refine hub.mono ?_
            rintro e w4 ⟨rfl, hb4⟩
            have HT4 := Lib.hid (HT3.out.keep hb4)
            have HTc4 := Lib.hid (HTc3.out.keep hb4)
            have HB4 := Lib.hid (below_le HB3.out (Nat.le_refl _) hb4)
            clear hub hb4 c1 z5
            cases ok
            · go_wp2_with fail
              go_roundw
              case rel => exact ⟨k + 1, by omega, by simp, HT4.out, HTc4.out, HB4.out⟩
              case measure => simp [intOf]; omega
            · go_wp2_with fail
              go_roundw
              case rel => exact ⟨k + 1, by omega, by simp, HT4.out, HTc4.out, HB4.out⟩
              case measure => simp [intOf]; omega
        · have j1 : decide ((k : Int) < (n : Int)) = false := decide_eq_false (by omega)
          have hl := len_any (T + 1) vb T _ wr HTc.out
          have hl2 := len_any T va T _ wr HTb.out
          rw [List.length_cons] at hl
          have h63 : M.length < 9223372036854775807 := by
            have := HTc.out.len63
            rw [List.length_cons] at this
            omega
          go_wp2_with fail
          refine hl.mono ?_
          rintro e w6 ⟨rfl, rfl⟩
          go_wp2_with fail
          refine hl2.mono ?_
          rintro e w7 ⟨rfl, rfl⟩
          go_wp2_with fail
          go_ret
          exact ⟨rfl, HB.out⟩

set_option maxRecDepth 100000 in
set_option maxHeartbeats 2000000 in
theorem lifted (os : Os) (started : os.Started) (H : Type) (enc : TypeId × Value → H) :
    ReturnsInHanded {} Try.checked os 6 .any (Rows.banApartSpec.pre6 enc Try.prog Try.f6 Rows.banApartRow.domain false) (Rows.banApartSpec.post enc Try.prog Try.f6 false true false false) := by
  refine returnsInHanded_of_change (C := Try.checked) own started (by kernel_rfl) Try.func6
    (ChangeSpec.witness6 (enc := enc) (C := Try.checked) false ⟨#[], #[.slice none 0 0, .int .i64 0, .int .i64 0], []⟩ 8 (by kernel_rfl) (by kernel_rfl) (by kernel_rfl) (by kernel_rfl)) ?_
  intro W base args ds gs before hval0 hW hcnd _
  have hval : ∀ (j : Nat) t v, Try.f6.params[j]? = some t → args[j]? = some v → Value.okWide Try.prog W .any base t v := hval0
  have hW' := hW
  obtain ⟨p, q, hA0, hV, rfl, hfz, hnd⟩ := hW
  have hA : DataW.TrodAll enc Try.prog W 0 (fun _ => true) true Try.f6.params.toList args.toList ds p := hA0
  rw [Try.params6] at hA hval
  obtain ⟨v0, vs0, d0, ds0, p0, q0, hargs, rfl, rfl, h0, r0⟩ := trodAll_cons hA
  obtain ⟨v1, vs1, d1, ds1, p1, q1, rfl, rfl, rfl, h1, r1⟩ := trodAll_cons r0
  obtain ⟨v2, vs2, d2, ds2, p2, q2, rfl, rfl, rfl, h2, r2⟩ := trodAll_cons r1
  obtain ⟨rfl, rfl, rfl⟩ := trodAll_nil r2
  obtain rfl : args = #[v0, v1, v2] := by cases args; simp_all
  obtain ⟨rfl, rfl⟩ := trodVars_none hV
  have lt0 : ∀ x ∈ p0, x.block < W.heap.size := by obtain ⟨m, hm⟩ := h0; exact DataW.trod_lt m _ _ _ hm
  have lt1 : ∀ x ∈ p1, x.block < W.heap.size := by obtain ⟨m, hm⟩ := h1; exact DataW.trod_lt m _ _ _ hm
  have lt2 : ∀ x ∈ p2, x.block < W.heap.size := by obtain ⟨m, hm⟩ := h2; exact DataW.trod_lt m _ _ _ hm
  obtain ⟨x0, hb0⟩ := ops_arg (hval 0 22 v0 rfl rfl) h0
  obtain ⟨x1, rfl, _, _, hwf1⟩ := open_int (k := .i64) Try.underlying3 (hval 1 3 v1 rfl rfl) h1
  have hy1 := wf_i64r hwf1
  obtain ⟨x2, rfl, _, _, hwf2⟩ := open_int (k := .i64) Try.underlying3 (hval 2 3 v2 rfl rfl) h2
  have hy2 := wf_i64r hwf2
  clear hA0 hval0
  have hwalk := walk x1 x2 x0 v0 W hb0
  refine hwalk.mono fun e W' ⟨he, bel⟩ => ?_
  subst he
  exact ⟨_, rfl, _, _, _, [], _, [], hW', trodAll_mk1 (shut_bool Try.underlying4 _), (trodAll_cons_mk (Below.trod laidOut (by kernel_rfl) (of_decide_eq_true (by kernel_rfl)) h0 bel lt0) (trodAll_cons_mk (Below.trod laidOut (by kernel_rfl) (of_decide_eq_true (by kernel_rfl)) h1 bel lt1) (trodAll_cons_mk (Below.trod laidOut (by kernel_rfl) (of_decide_eq_true (by kernel_rfl)) h2 bel lt2) trodAll_mk0))), rfl, bel.frame _, fun h => by cases h⟩

theorem over : Rows.banApartRow.holds Try.pinned (OpenSpec.ofChange Rows.banApartSpec) :=
  OpenClaim.holds_of_wide 6 Try.f6 rfl rfl rfl rfl rfl rfl rfl ⟨rfl, rfl, rfl, rfl, rfl⟩ rfl rfl rfl rfl rfl (by kernel_rfl) Try.func6 (by kernel_rfl)
    (of_decide_eq_true (by kernel_rfl)) (by unfold Func.isWrapper; first | (rw [if_pos (by decide +kernel)]; kernel_rfl) | (rw [if_neg (by decide +kernel)]; exact ⟨rfl, rfl⟩))
    (fun os started H enc _ => lifted os started H enc)

theorem proved : Rows.BanApartSaid := over
#print axioms proved
end Go.Proofs.Ytckmkbnmbleegaa.banApart
