/-
  What is proved: for any short bits the law BitsMean returns true, and its argument reads behind the call as it read before it. No condition.
-/
import Derived.Test.YtkkkfcdoilojmaaRcD
import Derived.Test.YtkkkfcdoilojmaaBitM
import Derived.Test.YtkkkfcdoilojmaaOpen
namespace Go.Proofs.Ytkkkfcdoilojmaa.bitsMean
open Go.ChangeShapes Go.WideShapes Go.ChangeAt Go.RowKit
set_option linter.unusedVariables false

theorem own : ownKnob Try.prog.godebug = none := by kernel_rfl
theorem laidOut : laidOutB Try.prog = true := by kernel_rfl

theorem wf_u32 {z : Int} (h : (Lit.int .u32 z).wf = true) : 0 ≤ z ∧ z < 4294967296 := by
  simp [Lit.wf, IntKind.min, IntKind.max, IntKind.signed, IntKind.bits] at h
  omega
theorem two_of {zs : List Int} (hl : zs.length = 2) : ∃ s0 s1, zs = [s0, s1] := by
  match zs, hl with
  | [a, b], _ => exact ⟨a, b, rfl⟩
theorem work_lt (t : Nat) (h : t + 1 < M256) (h0 : t ≠ 0) : workV t < M256 := by rw [(work_ref t h h0).1]; exact (work_ref t h h0).2
set_option maxRecDepth 100000 in
set_option maxHeartbeats 2000000 in
theorem walk (b : Nat) (w : World) (hb : b < 4294967296) :
    Calls Try.prog 4 #[.int .u32 (b : Int)] w fun e w' => e = .returned (.bool true) ∧ Below w.heap.size w w' := by
  have HT := Lib.hid (fun W => target_any b W hb)
  have HR := Lib.hid (fun W => target3_any b W hb)
  have ht := tgtV_lt b
  have HZ := Lib.hid (fun W => zero_any (tgtV b) W ht)
  have hs : tgtV b ≠ 0 → tgtV b + 1 < M256 := by
    intro h
    by_cases h1 : 8388608 ≤ b % 16777216 ∨ b % 16777216 = 0
    · exact absurd (tgt_none b h1) h
    · obtain ⟨h2, h3⟩ := tgt_some b (by omega) (by omega)
      by_cases h4 : lg (tw b) = 0 ∨ 256 < lg (tw b)
      · exact absurd (h2 h4) h
      · obtain ⟨e1, e2, e3⟩ := h3 (by omega) (by omega)
        rw [e1]
        exact e3
  generalize tgtV b = t at *
  by_cases h0 : t = 0
  · rw [decide_eq_true h0] at HT HR HZ
    subst h0
    clear hs ht
    go_enter Try.func4, Try.ntmps4
    go_wp2_with fail
    refine (means_any _).mono ?_
    rintro e w1 ⟨rfl, hb1⟩
    have hW1 := Lib.hid hb1
    clear hb1
    go_wp2_with fail
    refine (HT.out _).mono ?_
    rintro e w2 ⟨rfl, hb2⟩
    have hW2 := Lib.hid (hW1.out.trans (hb2.mono hW1.out.size))
    clear hb2
    go_upto_region 4 with fail
    refine wp_gen (fun W => Below w.heap.size w W ∧ Bk W w2.heap.size 24 (A4 (wd0 0) (wd1 0) (wd2 0) (wd3 0))) ⟨hW2.out.alloc hW2.out.size _, Bk.new _ _ _⟩ ?_
    clear hW2 hW1
    generalize w2.heap.size = g at *
    rintro W ⟨hW, T⟩
    have hW := Lib.hid hW
    go_wp2_with fail
    refine (HR.out _).mono ?_
    rintro e w3 ⟨v3, L3, rfl, _, B3, hb3⟩
    obtain ⟨s3, c3, rfl, _⟩ := B3.slice
    have T := T.keep hb3
    have hW3 := Lib.hid (hW.out.trans (hb3.mono hW.out.size))
    clear hb3 B3
    obtain ⟨t0, t1, t2, t3, t4, t5, t6, t7, tz⟩ := T.f4
    go_wp2_with fail
    refine (HZ.out _).mono ?_
    rintro e w4 ⟨rfl, hb4⟩
    have hW4 := Lib.hid (hW3.out.trans (hb4.mono hW3.out.size))
    clear hb4 t0 t1 t2 t3 t4 t5 t6 t7 tz
    go_wp2_with fail
    go_ret
    exact ⟨rfl, hW4.out⟩
  · have h1 := hs h0
    have hwl := work_lt t h1 h0
    rw [decide_eq_false h0] at HT HR HZ
    have HI := Lib.hid (fun L v W (h : BX W v t L) (hL : L ≤ 2300) => is3_any t L v W h (by omega) ht)
    have HIW := Lib.hid (fun L v W (h : BX W v (workV t) L) (hL : L ≤ 10000) => is3_any (workV t) L v W h (by omega) hwl)
    have HW3 := Lib.hid (fun L v W (h : BX W v t L) (hL : L ≤ 2300) => work3_any v t L W h (by omega) h0 h1)
    have HWK := Lib.hid (fun W => work_any t W ht)
    clear hs ht h0 h1 hwl
    generalize workV t = wk at *
    go_enter Try.func4, Try.ntmps4
    go_wp2_with fail
    refine (means_any _).mono ?_
    rintro e w1 ⟨rfl, hb1⟩
    have hW1 := Lib.hid hb1
    clear hb1
    go_wp2_with fail
    refine (HT.out _).mono ?_
    rintro e w2 ⟨rfl, hb2⟩
    have hW2 := Lib.hid (hW1.out.trans (hb2.mono hW1.out.size))
    clear hb2
    go_upto_region 4 with fail
    refine wp_gen (fun W => Below w.heap.size w W ∧ Bk W w2.heap.size 24 (A4 (wd0 t) (wd1 t) (wd2 t) (wd3 t))) ⟨hW2.out.alloc hW2.out.size _, Bk.new _ _ _⟩ ?_
    clear hW2 hW1
    generalize w2.heap.size = g at *
    rintro W ⟨hW, T⟩
    have hW := Lib.hid hW
    go_wp2_with fail
    refine (HR.out _).mono ?_
    rintro e w3 ⟨v3, L3, rfl, hL3, B3, hb3⟩
    obtain ⟨s3, c3, rfl, _⟩ := B3.slice
    have T := T.keep hb3
    have hW3 := Lib.hid (hW.out.trans (hb3.mono hW.out.size))
    have HI3 := Lib.hid (HI.out _ _ _ B3 hL3)
    have HL3 := Lib.hid hL3
    have B3 := Lib.hid B3
    clear hb3 hL3
    obtain ⟨t0, t1, t2, t3, t4, t5, t6, t7, tz⟩ := T.f4
    go_wp2_with fail
    refine HI3.out.mono ?_
    rintro e w4 ⟨rfl, hb4⟩
    have hW4 := Lib.hid (hW3.out.trans (hb4.mono hW3.out.size))
    have T := T.keep hb4
    have B4 := Lib.hid (B3.out.keep hb4)
    clear hb4 t0 t1 t2 t3 t4 t5 t6 t7 tz HI3 B3
    obtain ⟨t0, t1, t2, t3, t4, t5, t6, t7, tz⟩ := T.f4
    go_wp2_with fail
    refine (HWK.out _).mono ?_
    rintro e w5 ⟨rfl, hb5⟩
    have hW5 := Lib.hid (hW4.out.trans (hb5.mono hW4.out.size))
    have B5 := Lib.hid (B4.out.keep hb5)
    have HW5 := Lib.hid (HW3.out _ _ _ B5.out HL3.out)
    clear hb5 t0 t1 t2 t3 t4 t5 t6 t7 tz B4
    go_wp2_with fail
    refine HW5.out.mono ?_
    rintro e w6 ⟨v6, L6, rfl, hL6, B6, hb6⟩
    have HI6 := Lib.hid (HIW.out _ _ _ B6 hL6)
    obtain ⟨s6, c6, rfl, _⟩ := B6.slice
    have hW6 := Lib.hid (hW5.out.trans (hb6.mono hW5.out.size))
    clear hb6 B6 HW5 hL6
    go_wp2_with fail
    refine HI6.out.mono ?_
    rintro e w7 ⟨rfl, hb7⟩
    have hW7 := Lib.hid (hW6.out.trans (hb7.mono hW6.out.size))
    clear hb7 HI6
    go_wp2_with fail
    go_ret
    exact ⟨rfl, hW7.out⟩

set_option maxRecDepth 100000 in
set_option maxHeartbeats 2000000 in
theorem lifted (os : Os) (started : os.Started) (H : Type) (enc : TypeId × Value → H) :
    ReturnsInHanded {} Try.checked os 4 .any (Rows.bitsMeanSpec.pre6 enc Try.prog Try.f4 Rows.bitsMeanRow.domain false) (Rows.bitsMeanSpec.post enc Try.prog Try.f4 false true false false) := by
  refine returnsInHanded_of_change (C := Try.checked) own started (by kernel_rfl) Try.func4
    (ChangeSpec.witness6 (enc := enc) (C := Try.checked) false ⟨#[], #[.int .u32 0], []⟩ 8 (by kernel_rfl) (by kernel_rfl) (by kernel_rfl) (by kernel_rfl)) ?_
  intro W base args ds gs before hval0 hW hcnd _
  have hval : ∀ (j : Nat) t v, Try.f4.params[j]? = some t → args[j]? = some v → Value.okWide Try.prog W .any base t v := hval0
  have hW' := hW
  obtain ⟨p, q, hA0, hV, rfl, hfz, hnd⟩ := hW
  have hA : DataW.TrodAll enc Try.prog W 0 (fun _ => true) true Try.f4.params.toList args.toList ds p := hA0
  rw [Try.params4] at hA hval
  obtain ⟨v0, vs0, d0, ds0, p0, q0, hargs, rfl, rfl, h0, r0⟩ := trodAll_cons hA
  obtain ⟨rfl, rfl, rfl⟩ := trodAll_nil r0
  obtain rfl : args = #[v0] := by cases args; simp_all
  obtain ⟨rfl, rfl⟩ := trodVars_none hV
  have lt0 : ∀ x ∈ p0, x.block < W.heap.size := by obtain ⟨m, hm⟩ := h0; exact DataW.trod_lt m _ _ _ hm
  obtain ⟨y0, rfl, _, _, hwf0⟩ := open_int (k := .u32) Try.underlying40 (hval 0 40 v0 rfl rfl) h0
  have hy0 := wf_u32 hwf0
  obtain ⟨x0, rfl⟩ := Int.eq_ofNat_of_zero_le hy0.1
  clear hA0 hval0
  have hwalk := walk x0 W (by omega)
  refine hwalk.mono fun e W' ⟨he, bel⟩ => ?_
  subst he
  exact ⟨_, rfl, _, _, _, [], _, [], hW', trodAll_mk1 (shut_bool Try.underlying4 _), (trodAll_cons_mk (Below.trod laidOut (by kernel_rfl) (of_decide_eq_true (by kernel_rfl)) h0 bel lt0) trodAll_mk0), rfl, bel.frame _, fun h => by cases h⟩

theorem over : Rows.bitsMeanRow.holds Try.pinned (OpenSpec.ofChange Rows.bitsMeanSpec) :=
  OpenClaim.holds_of_wide 4 Try.f4 rfl rfl rfl rfl rfl rfl rfl ⟨rfl, rfl, rfl, rfl, rfl⟩ rfl rfl rfl rfl rfl (by kernel_rfl) Try.func4 (by kernel_rfl)
    (of_decide_eq_true (by kernel_rfl)) (by unfold Func.isWrapper; first | (rw [if_pos (by decide +kernel)]; kernel_rfl) | (rw [if_neg (by decide +kernel)]; exact ⟨rfl, rfl⟩))
    (fun os started H enc _ => lifted os started H enc)

theorem proved : Rows.BitsMeanSaid := over
#print axioms proved
end Go.Proofs.Ytkkkfcdoilojmaa.bitsMean
