/-
  What is proved: BanLonger holds for every input. No condition.
-/
import Derived.Test.YtckmkbnmbleegaaBanH
namespace Go.Proofs.Ytckmkbnmbleegaa.banLonger
open Go.ChangeShapes Go.WideShapes Go.ChangeAt Go.RowKit
set_option linter.unusedVariables false

theorem own : ownKnob Try.prog.godebug = none := by kernel_rfl
theorem laidOut : laidOutB Try.prog = true := by kernel_rfl
set_option maxRecDepth 100000 in
set_option maxHeartbeats 4000000 in
theorem walk (a now : Int) (L : List Int) (v : Value) (w : World) (h : RowV intR w w.heap.size v L) :
    Calls Try.prog 5 #[.int .i64 a, v, .int .i64 now] w fun e w' => e = .returned (.bool true) ∧ Below w.heap.size w w' := by
  have h63 : L.length < 9223372036854775808 := by obtain ⟨_, _, _, h1, h2, _⟩ := h; omega
  obtain ⟨s0, c, rfl⟩ : ∃ s c, v = .slice s L.length c := h.slice
  have hrow := row_at h
  obtain ⟨n, hn⟩ : ∃ n, n = L.length := ⟨_, rfl⟩
  have HN := Lib.hid hn
  rw [← hn] at hrow h63 ⊢
  have HL := Lib.hid hrow
  clear hrow hn h
  by_cases h200 : 100 < n
  · have d0 : decide ((100 : Int) < (n : Int)) = true := decide_eq_true (by omega)
    go_enter Try.func5, Try.ntmps5
    go_wp2_with fail
    refine (bans_any w).mono ?_
    rintro e w1 ⟨rfl, hb1⟩
    go_wp2_with fail
    go_ret
    exact ⟨rfl, hb1⟩
  have d0 : decide ((100 : Int) < (n : Int)) = false := decide_eq_false (by omega)
  by_cases hz : n = 0
  · subst hz
    go_enter Try.func5, Try.ntmps5
    go_wp2_with fail
    refine (bans_any w).mono ?_
    rintro e w1 ⟨rfl, hb1⟩
    go_wp2_with fail
    go_ret
    exact ⟨rfl, hb1⟩
  have d00 : ((n : Int) == 0) = false := beq_eq_false_iff_ne.2 (by omega)
  have hn0 : 0 < n := by omega
  obtain ⟨u0, b, o, hk0, rfl, hbw, hrg0⟩ := HL.out 0 hn0
  have HK0 := Lib.hid hk0
  have HRG0 := Lib.hid hrg0
  clear hk0 hrg0
  go_enter Try.func5, Try.ntmps5
  go_wp2_with fail
  refine (bans_any w).mono ?_
  rintro e w1 ⟨rfl, hb1⟩
  go_upto_region 6 with fail
  refine wp_any (fun W => Below w.heap.size w W ∧ Tab W w1.heap.size (.slice none 0 0) w1.heap.size []) ⟨below_step hb1 hb1.size ((Below.refl _ _).alloc (Nat.le_refl _) _), tab_new w1 _⟩ ?_
  have HT : Hid (w.heap.size ≤ w1.heap.size) := hb1.size
  clear hb1
  generalize w1.heap.size = T at *
  rintro W ⟨hB, hT⟩
  have HB := Lib.hid hB
  have H0 := Lib.hid hT
  have r0 := (rowr_below HRG0.out hB hbw) 0 _ rfl
  change W.cell? ⟨b, o + 0 * 1 + 0, none⟩ = some (.int .i64 u0) at r0
  rw [Nat.zero_mul, Nat.add_zero] at r0
  clear hB hT
  go_wp2_with fail
  clear r0
  go_loopw [8, 31] (fun s8 i wr => ∃ (k : Nat) (v : Value) (M : List BanM) (most : Int), k ≤ n ∧ i = .int .i64 k ∧ s8 = .int .i64 most ∧ Hid (Tab wr T v T M) ∧ Hid ((M = [] ∧ k = 0 ∧ most = u0) ∨ M = [⟨a, most⟩]) ∧ Hid (Below w.heap.size w wr)) (fun _ i _ => n - (intOf i).toNat)
  case atStart => exact ⟨0, _, [], u0, Nat.zero_le _, rfl, rfl, H0.out, .inl ⟨rfl, rfl, rfl⟩, HB.out⟩
  case round =>
    clear H0 HB
    obtain ⟨k, v, M, most, hk, rfl, rfl, HTb, HM, HB⟩ := hrel
    by_cases hlt : k < n
    · obtain ⟨u, b', o', hkx, hbe, hbw', hrg⟩ := HL.out k hlt
      cases hbe
      have j1 : decide ((k : Int) < (n : Int)) = true := decide_eq_true (by omega)
      have r0 := (rowr_below hrg HB.out hbw) 0 _ rfl
      change wr.cell? ⟨b, o + k * 1 + 0, none⟩ = some (.int .i64 u) at r0
      rw [Nat.mul_one, Nat.add_zero] at r0
      have hlen : M.length ≤ 32 := by
        rcases HM.out with ⟨e, _⟩ | e
        · rw [e]; exact Nat.zero_le _
        · rw [e]; exact (by decide : 1 ≤ 32)
      have hbn := ban_any T v T M a u wr HTb.out (Nat.le_of_lt HTb.out.G.lt) hlen
      have hM2 : banF M a u = [⟨a, max most u⟩] := by
        rcases HM.out with ⟨e, e2, e3⟩ | e
        · have hu : u = u0 := by
            have h0 := HK0.out
            subst e2
            rw [hkx] at h0
            cases h0
            rfl
          rw [e, e3, hu, show max u0 u0 = u0 by omega]
          rfl
        · rw [e]
          have hf : [(⟨a, most⟩ : BanM)].find? (isA a) = some ⟨a, most⟩ := List.find?_cons_of_pos (isA_self a most)
          rw [banF_hit u hf]
          unfold raise
          rw [if_pos (isA_self a most)]
      rw [hM2] at hbn
      have htl : til [⟨a, max most u⟩] a = (max most u, true) := til_some (List.find?_cons_of_pos (isA_self a _))
      have HTL := Lib.hid htl
      clear hkx hrg hlen hM2 htl
      go_wp2_with fail
      refine hbn.mono ?_
      rintro e w3 ht
      obtain ⟨rfl, v3, hT3, hB3, _, _⟩ := ht.go HTb.out (B := w.heap.size) HT.out HT.out HB.out.size
      have HT3 := Lib.hid hT3
      have HB3 := Lib.hid (HB.out.trans hB3)
      have hub := until_any T v3 T _ a w3 hT3
      rw [HTL.out] at hub
      obtain ⟨m2, hm2⟩ : ∃ m2, m2 = max most u := ⟨_, rfl⟩
      rw [← hm2] at hub
      have HM2 := Lib.hid hm2
      have hT3' := HT3.out
      rw [← hm2] at hT3'
      have HT3' := Lib.hid hT3'
      have e1 : most < u → u = m2 := fun h => by omega
      have e2 : ¬ most < u → most = m2 := fun h => by omega
      have E1 := Lib.hid e1
      have E2 := Lib.hid e2
      clear hbn ht hT3 hB3 r0 hm2 hT3' e1 e2 HT3 E1 E2 HTL
      go_wp2_with fail
      · have hm := HM2.out
        obtain rfl : m2 = u := by omega
        clear hm
        refine hub.mono ?_
        rintro e w4 ⟨rfl, hb4⟩
        have hT4 := HT3'.out.keep hb4
        have hl := len_any T v3 T _ w4 hT4
        have HT4 := Lib.hid hT4
        have HB4 := Lib.hid (below_le HB3.out (Nat.le_refl _) hb4)
        clear hub hb4 hT4
        go_wp2_with fail
        refine hl.mono ?_
        rintro e w5 ⟨rfl, rfl⟩
        go_wp2_with fail
        go_roundw
        case rel => exact ⟨k + 1, v3, _, m2, by omega, by simp, rfl, HT4.out, .inr rfl, HB4.out⟩
        case measure => simp [intOf]; omega
      · have hm := HM2.out
        obtain rfl : m2 = most := by omega
        clear hm
        refine hub.mono ?_
        rintro e w4 ⟨rfl, hb4⟩
        have hT4 := HT3'.out.keep hb4
        have hl := len_any T v3 T _ w4 hT4
        have HT4 := Lib.hid hT4
        have HB4 := Lib.hid (below_le HB3.out (Nat.le_refl _) hb4)
        clear hub hb4 hT4
        go_wp2_with fail
        refine hl.mono ?_
        rintro e w5 ⟨rfl, rfl⟩
        go_wp2_with fail
        go_roundw
        case rel => exact ⟨k + 1, v3, _, m2, by omega, by simp, rfl, HT4.out, .inr rfl, HB4.out⟩
        case measure => simp [intOf]; omega
    · have j1 : decide ((k : Int) < (n : Int)) = false := decide_eq_false (by omega)
      have hM : M = [⟨a, most⟩] := by
        rcases HM.out with ⟨_, e, _⟩ | e
        · omega
        · exact e
      subst hM
      have htl : til [⟨a, most⟩] a = (most, true) := til_some (List.find?_cons_of_pos (isA_self a _))
      have hbd := banned_any T v T _ a now wr HTb.out
      rw [htl] at hbd
      have HTL := Lib.hid htl
      by_cases hnm : now < most
      · have d1 : decide (now < most) = true := decide_eq_true hnm
        rw [d1] at hbd
        have hf : [(⟨a, most⟩ : BanM)].filter (fun x => !decide (x.til ≤ now)) = [⟨a, most⟩] := by
          rw [List.filter_cons_of_pos (by simp; omega)]
          rfl
        have HF := Lib.hid hf
        clear htl hf
        go_wp2_with fail
        refine hbd.mono ?_
        rintro e w2 ⟨rfl, hb2⟩
        have hT2 := HTb.out.keep hb2
        have hsw := sweep_any T v T _ now w2 hT2
        rw [HF.out] at hsw
        have HT2 := Lib.hid hT2
        have HB2 := Lib.hid (below_le HB.out (Nat.le_refl _) hb2)
        clear hbd hb2 hT2
        go_wp2_with fail
        refine hsw.mono ?_
        rintro e w3 ht
        obtain ⟨rfl, v3, hT3, hB3, _, _⟩ := ht.go HT2.out (B := w.heap.size) HT.out HT.out HB2.out.size
        have hub := until_any T v3 T _ a w3 hT3
        rw [HTL.out] at hub
        have HT3 := Lib.hid hT3
        have HB3 := Lib.hid (HB2.out.trans hB3)
        clear hsw ht hT3 hB3
        go_wp2_with fail
        refine hub.mono ?_
        rintro e w4 ⟨rfl, hb4⟩
        have hT4 := HT3.out.keep hb4
        have hbd := banned_any T v3 T _ a now w4 hT4
        rw [HTL.out, d1] at hbd
        have HB4 := Lib.hid (below_le HB3.out (Nat.le_refl _) hb4)
        clear hub hb4 hT4
        go_wp2_with fail
        refine hbd.mono ?_
        rintro e w5 ⟨rfl, hb5⟩
        have HB5 := Lib.hid (below_le HB4.out (Nat.le_refl _) hb5)
        clear hb5 hbd
        go_wp2_with fail
        go_ret
        exact ⟨rfl, HB5.out⟩
      · have d1 : decide (now < most) = false := decide_eq_false hnm
        rw [d1] at hbd
        have hf : [(⟨a, most⟩ : BanM)].filter (fun x => !decide (x.til ≤ now)) = [] := by
          rw [List.filter_cons_of_neg (by simp; omega)]
          rfl
        have HF := Lib.hid hf
        clear htl hf
        go_wp2_with fail
        refine hbd.mono ?_
        rintro e w2 ⟨rfl, hb2⟩
        have hT2 := HTb.out.keep hb2
        have hsw := sweep_any T v T _ now w2 hT2
        rw [HF.out] at hsw
        have HT2 := Lib.hid hT2
        have HB2 := Lib.hid (below_le HB.out (Nat.le_refl _) hb2)
        clear hbd hb2 hT2
        go_wp2_with fail
        refine hsw.mono ?_
        rintro e w3 ht
        obtain ⟨rfl, v3, hT3, hB3, _, _⟩ := ht.go HT2.out (B := w.heap.size) HT.out HT.out HB2.out.size
        have hub := until_any T v3 T _ a w3 hT3
        rw [show til [] a = (0, false) from rfl] at hub
        have HT3 := Lib.hid hT3
        have HB3 := Lib.hid (HB2.out.trans hB3)
        clear hsw ht hT3 hB3
        go_wp2_with fail
        refine hub.mono ?_
        rintro e w4 ⟨rfl, hb4⟩
        have hT4 := HT3.out.keep hb4
        have hbd := banned_any T v3 T _ a now w4 hT4
        rw [show til [] a = (0, false) from rfl] at hbd
        have HB4 := Lib.hid (below_le HB3.out (Nat.le_refl _) hb4)
        clear hub hb4 hT4
        go_wp2_with fail
        refine hbd.mono ?_
        rintro e w5 ⟨rfl, hb5⟩
        have HB5 := Lib.hid (below_le HB4.out (Nat.le_refl _) hb5)
        clear hb5 hbd
        go_wp2_with fail
        go_ret
        exact ⟨rfl, HB5.out⟩

set_option maxRecDepth 100000 in
set_option maxHeartbeats 2000000 in
theorem lifted (os : Os) (started : os.Started) (H : Type) (enc : TypeId × Value → H) :
    ReturnsInHanded {} Try.checked os 5 .any (Rows.banLongerSpec.pre6 enc Try.prog Try.f5 Rows.banLongerRow.domain false) (Rows.banLongerSpec.post enc Try.prog Try.f5 false true false false) := by
  refine returnsInHanded_of_change (C := Try.checked) own started (by kernel_rfl) Try.func5
    (ChangeSpec.witness6 (enc := enc) (C := Try.checked) false ⟨#[], #[.int .i64 0, .slice none 0 0, .int .i64 0], []⟩ 8 (by kernel_rfl) (by kernel_rfl) (by kernel_rfl) (by kernel_rfl)) ?_
  intro W base args ds gs before hval0 hW hcnd _
  have hval : ∀ (j : Nat) t v, Try.f5.params[j]? = some t → args[j]? = some v → Value.okWide Try.prog W .any base t v := hval0
  have hW' := hW
  obtain ⟨p, q, hA0, hV, rfl, hfz, hnd⟩ := hW
  have hA : DataW.TrodAll enc Try.prog W 0 (fun _ => true) true Try.f5.params.toList args.toList ds p := hA0
  rw [Try.params5] at hA hval
  obtain ⟨v0, vs0, d0, ds0, p0, q0, hargs, rfl, rfl, h0, r0⟩ := trodAll_cons hA
  obtain ⟨v1, vs1, d1, ds1, p1, q1, rfl, rfl, rfl, h1, r1⟩ := trodAll_cons r0
  obtain ⟨v2, vs2, d2, ds2, p2, q2, rfl, rfl, rfl, h2, r2⟩ := trodAll_cons r1
  obtain ⟨rfl, rfl, rfl⟩ := trodAll_nil r2
  obtain rfl : args = #[v0, v1, v2] := by cases args; simp_all
  obtain ⟨rfl, rfl⟩ := trodVars_none hV
  have lt0 : ∀ x ∈ p0, x.block < W.heap.size := by obtain ⟨m, hm⟩ := h0; exact DataW.trod_lt m _ _ _ hm
  have lt1 : ∀ x ∈ p1, x.block < W.heap.size := by obtain ⟨m, hm⟩ := h1; exact DataW.trod_lt m _ _ _ hm
  have lt2 : ∀ x ∈ p2, x.block < W.heap.size := by obtain ⟨m, hm⟩ := h2; exact DataW.trod_lt m _ _ _ hm
  obtain ⟨x0, rfl, _, _, hwf0⟩ := open_int (k := .i64) Try.underlying3 (hval 0 3 v0 rfl rfl) h0
  have hy0 := wf_i64r hwf0
  obtain ⟨x1, hb1⟩ := ints_arg (hval 1 39 v1 rfl rfl) h1
  obtain ⟨x2, rfl, _, _, hwf2⟩ := open_int (k := .i64) Try.underlying3 (hval 2 3 v2 rfl rfl) h2
  have hy2 := wf_i64r hwf2
  clear hA0 hval0
  have hwalk := walk x0 x2 x1 v1 W hb1.1
  refine hwalk.mono fun e W' ⟨he, bel⟩ => ?_
  subst he
  exact ⟨_, rfl, _, _, _, [], _, [], hW', trodAll_mk1 (shut_bool Try.underlying4 _), (trodAll_cons_mk (Below.trod laidOut (by kernel_rfl) (of_decide_eq_true (by kernel_rfl)) h0 bel lt0) (trodAll_cons_mk (Below.trod laidOut (by kernel_rfl) (of_decide_eq_true (by kernel_rfl)) h1 bel lt1) (trodAll_cons_mk (Below.trod laidOut (by kernel_rfl) (of_decide_eq_true (by kernel_rfl)) h2 bel lt2) trodAll_mk0))), rfl, bel.frame _, fun h => by cases h⟩

theorem over : Rows.banLongerRow.holds Try.pinned (OpenSpec.ofChange Rows.banLongerSpec) :=
  OpenClaim.holds_of_wide 5 Try.f5 rfl rfl rfl rfl rfl rfl rfl ⟨rfl, rfl, rfl, rfl, rfl⟩ rfl rfl rfl rfl rfl (by kernel_rfl) Try.func5 (by kernel_rfl)
    (of_decide_eq_true (by kernel_rfl)) (by unfold Func.isWrapper; first | (rw [if_pos (by decide +kernel)]; kernel_rfl) | (rw [if_neg (by decide +kernel)]; exact ⟨rfl, rfl⟩))
    (fun os started H enc _ => lifted os started H enc)

theorem proved : Rows.BanLongerSaid := over
#print axioms proved
end Go.Proofs.Ytckmkbnmbleegaa.banLonger
