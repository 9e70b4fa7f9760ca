/-
  What is proved: for any two numbers and every slice of bytes the law WireMost returns true, and its arguments read behind the call as they read before it. No condition.
-/
import Derived.Test.YtkifehabajchhaaWma
import Derived.Test.YtkifehabajchhaaByA
import Derived.Test.YtkifehabajchhaaOpen
namespace Go.Proofs.Ytkifehabajchhaa.wireMost
open Go.ChangeShapes Go.WideShapes Go.ChangeAt Go.RowKit
set_option linter.unusedVariables false

theorem own : ownKnob Try.prog.godebug = none := by kernel_rfl
theorem laidOut : laidOutB Try.prog = true := by kernel_rfl

theorem wp_any2 {P : Program} {c : Code} {Q : Exit → Act → World → Prop} {a : Act} {w : World} (S : World → Prop) (hS : S w) (h : ∀ W, S W → c.wp P Q a W) : c.wp P Q a w := h w hS
theorem rt_ne : 85 ≠ 5 := by decide
set_option maxRecDepth 100000 in
set_option maxHeartbeats 1000000 in
theorem walk_big (n most : Nat) (s : Option Addr) (len cap : Nat) (w : World) (h : 300 < len) :
    Calls Try.prog 8 #[.int .u64 (n : Int), .int .u64 (most : Int), .slice s len cap] w fun e w' => e = .returned (.bool true) ∧ Below w.heap.size w w' := by
  have hz : (300 : Int) < (len : Int) := by omega
  go_enter Try.func8, Try.ntmps8
  go_wp2_with fail
  refine (writes_any _).mono ?_
  rintro e w1 ⟨rfl, hb1⟩
  go_wp2_with fail
  go_ret
  exact ⟨rfl, hb1⟩
set_option maxRecDepth 100000 in
set_option maxHeartbeats 1000000 in
theorem walk_over (n most : Nat) (xs : List Nat) (s : Option Addr) (cap : Nat) (w : World) (hb : BsV w w.heap.size (.slice s xs.length cap) xs) (hn : n < 18446744073709551616) (hl : xs.length ≤ 300) (hm : most < n) :
    Calls Try.prog 8 #[.int .u64 (n : Int), .int .u64 (most : Int), .slice s xs.length cap] w fun e w' => e = .returned (.bool true) ∧ Below w.heap.size w w' := by
  have HB := Lib.hid hb
  have HX := Lib.hid (show ∀ x ∈ xs, x < 256 by obtain ⟨_, _, _, _, _, h, _⟩ := hb; exact h)
  have dm : decide (most < n) = true := decide_eq_true (by omega)
  have HCC := Lib.hid (rdCount_over n most [] hn hm)
  have HCL := Lib.hid (countL_len n)
  have HCX := Lib.hid (countL_lt n)
  obtain ⟨m, hmm⟩ : ∃ m, m = xs.length := ⟨_, rfl⟩
  rw [← hmm] at hl ⊢
  have HB : Hid (BsV w w.heap.size (.slice s m cap) xs) := by rw [hmm]; exact HB
  have HMM := Lib.hid hmm
  have hz : decide ((300 : Int) < (m : Int)) = false := decide_eq_false (by omega)
  clear hb hn hm hmm
  go_enter Try.func8, Try.ntmps8
  go_wp2_with fail
  refine (writes_any _).mono ?_
  rintro e w1 ⟨rfl, hb1⟩
  go_upto_region 6 with fail
  refine wp_any2 (fun W => Below w.heap.size w W ∧ Bk W w1.heap.size 54 #[.slice none 0 0]) ⟨hb1.alloc hb1.size _, Bk.new _ _ _⟩ ?_
  have hgw := hb1.size
  clear hb1
  generalize w1.heap.size = g at *
  rintro W ⟨hW, G⟩
  go_wp2_with fail
  have hA : Below W.heap.size W (W.alloc (.cells #[.slice s m cap] 52)) := (Below.refl _ _).alloc (Nat.le_refl _) _
  have hgl := G.lt
  have M0 : Mine (W.alloc (.cells #[.slice s m cap] 52)) g (.slice none 0 0) [] := .inl ⟨rfl, rfl⟩
  have hU : BsN W (fun k => k = g ∨ slb (.slice none 0 0) k) (.slice s m cap) xs := BsN.of_bs (HB.out.keep hW (Nat.le_refl _)) hW.size (by
    rintro k hk (h | h)
    · omega
    · exact slb_none _ _ _ h)
  refine (raw_any g g (some ⟨W.heap.size, 0, none⟩) 1 [xs] [] (.slice none 0 0) _ (G.alloc _) M0 (Nat.le_trans (Nat.le_of_lt hgl) hA.size) (by have := HMM.out; simp; omega) (by simp) (partsN_one (hU.keep hA) (Bk.new _ _ _) (by
    rintro (h | h)
    · omega
    · exact slb_none _ _ _ h))).mono ?_
  rintro e w2 h
  have hW := (hW.alloc hW.size _).trans (h.below M0 (B := w.heap.size) hgw hgw (by have := hW.size; simp; omega))
  simp only [List.flatten_cons, List.flatten_nil, List.append_nil, List.nil_append] at h
  obtain ⟨rfl, v2, G2, M2, B2, O2⟩ := h
  have M2 := Lib.hid M2
  clear B2 O2 hU M0 hA G hgl
  go_wp2_with fail
  have hgl := G2.lt
  refine (count_any g g n xs v2 w2 G2 M2.out (Nat.le_of_lt hgl) (by have := HMM.out; omega)).mono ?_
  rintro e w3 h
  have hW := hW.trans (h.below M2.out (B := w.heap.size) hgw hgw hW.size)
  obtain ⟨rfl, v3, G3, M3, B3, O3⟩ := h
  have hlen : (xs ++ countL n).length ≤ 1000000 := by rw [List.length_append]; have := HMM.out; have := HCL.out; omega
  have hx3 : ∀ x ∈ xs ++ countL n, x < 256 := by
    intro x hx
    rcases List.mem_append.1 hx with h | h
    · exact HX.out x h
    · exact HCX.out x h
  have HLEN := Lib.hid hlen
  have HX3 := Lib.hid hx3
  have M3 := Lib.hid M3
  clear B3 O3 M2 G2 hgl hlen hx3
  go_wp2_with fail
  refine (bytes_any g g _ v3 w3 G3 M3.out HX3.out HLEN.out).mono ?_
  rintro e w4 ⟨v4, rfl, M4, B4⟩
  have hW := hW.trans (B4.mono hW.size)
  obtain ⟨s4, c4, e4⟩ := M4.slice
  generalize (xs ++ countL n).length = q4 at e4
  subst e4
  have M4 := Lib.hid M4
  clear B4 G3 M3
  go_wp2_with fail
  refine (read_any _ _ w4 (M4.out.bs HX3.out) HLEN.out HX3.out).mono ?_
  rintro e w5 ⟨p, v5, rfl, R5, B5, hp, hv5⟩
  have R5 : Hid (RdS w5 p v5 (xs ++ countL n, 0)) := R5
  have hgp : w.heap.size ≤ p := Nat.le_trans hW.size hp
  have hW := hW.trans (B5.mono hW.size)
  clear B5 M4 hp hv5
  go_wp2_with fail
  have H := rraw_any p (m : Int) v5 (xs ++ countL n, 0) w5 R5.out ⟨HLEN.out, (show (0 : Nat) < 1000 by omega)⟩
  rw [rdTake_app xs (countL n) 0 (m : Int) (by rw [HMM.out])] at H
  refine H.mono ?_
  rintro e w6 ⟨x6, rfl, M6, v6, T6⟩
  clear H
  have M6 := Lib.hid M6
  have T6 := Lib.hid T6
  obtain ⟨s6, c6, e6⟩ := M6.out.slice
  rw [← HMM.out] at e6
  subst e6
  go_wp2_with fail
  have H := rcount_any p most v6 (countL n, 0) w6 T6.out.1 ⟨by have := HCL.out; show (countL n).length ≤ _; omega, (show (0 : Nat) < 1000 by omega)⟩
  have HCC2 := HCC.out
  rw [List.append_nil] at HCC2
  rw [HCC2] at H
  refine H.mono ?_
  rintro e w7 ⟨rfl, v7, T7⟩
  clear H HCC2
  have M7 := M6.out.but T7.2.1 (fun k hk e => M6.out.apart T6.out.1.1 rt_ne (by have e : k = p := e; rw [← e]; exact hk))
  have T7 := Lib.hid (T6.out.trans T7)
  have hW := hW.trans (T7.out.2.1.below hW.size (fun k hk => by have e : k = p := hk; omega))
  have hc1 := conv_bs (M7.bs HX.out)
  have hc2 := conv_bs (HB.out.keep hW (Nat.le_refl _))
  generalize strN xs = str at *
  have hst : (str.toList == str.toList) = true := by simp
  clear M7
  go_wp2_with fail
  have H := err_any p v7 ([], 2) w7 T7.out.1
  refine H.mono ?_
  rintro e w8 ⟨rfl, rfl⟩
  clear H
  go_wp2_with fail
  have H := end_any p v7 ([], 2) w8 T7.out.1
  refine H.mono ?_
  rintro e w9 ⟨rfl, rfl⟩
  clear H
  have he : rdEnd ([], 2) = 2 := rfl
  rw [he]
  go_wp2_with fail
  go_ret
  exact ⟨rfl, hW⟩
set_option maxRecDepth 100000 in
set_option maxHeartbeats 1000000 in
theorem walk_fits (n most : Nat) (xs : List Nat) (s : Option Addr) (cap : Nat) (w : World) (hb : BsV w w.heap.size (.slice s xs.length cap) xs) (hn : n < 18446744073709551616) (hl : xs.length ≤ 300) (hm : n ≤ most) :
    Calls Try.prog 8 #[.int .u64 (n : Int), .int .u64 (most : Int), .slice s xs.length cap] w fun e w' => e = .returned (.bool true) ∧ Below w.heap.size w w' := by
  have HB := Lib.hid hb
  have HX := Lib.hid (show ∀ x ∈ xs, x < 256 by obtain ⟨_, _, _, _, _, h, _⟩ := hb; exact h)
  have dm : decide (most < n) = false := decide_eq_false (by omega)
  have HCC := Lib.hid (rdCount_fits n most [] hn hm)
  have HCL := Lib.hid (countL_len n)
  have HCX := Lib.hid (countL_lt n)
  obtain ⟨m, hmm⟩ : ∃ m, m = xs.length := ⟨_, rfl⟩
  rw [← hmm] at hl ⊢
  have HB : Hid (BsV w w.heap.size (.slice s m cap) xs) := by rw [hmm]; exact HB
  have HMM := Lib.hid hmm
  have hz : decide ((300 : Int) < (m : Int)) = false := decide_eq_false (by omega)
  clear hb hn hm hmm
  go_enter Try.func8, Try.ntmps8
  go_wp2_with fail
  refine (writes_any _).mono ?_
  rintro e w1 ⟨rfl, hb1⟩
  go_upto_region 6 with fail
  refine wp_any2 (fun W => Below w.heap.size w W ∧ Bk W w1.heap.size 54 #[.slice none 0 0]) ⟨hb1.alloc hb1.size _, Bk.new _ _ _⟩ ?_
  have hgw := hb1.size
  clear hb1
  generalize w1.heap.size = g at *
  rintro W ⟨hW, G⟩
  go_wp2_with fail
  have hA : Below W.heap.size W (W.alloc (.cells #[.slice s m cap] 52)) := (Below.refl _ _).alloc (Nat.le_refl _) _
  have hgl := G.lt
  have M0 : Mine (W.alloc (.cells #[.slice s m cap] 52)) g (.slice none 0 0) [] := .inl ⟨rfl, rfl⟩
  have hU : BsN W (fun k => k = g ∨ slb (.slice none 0 0) k) (.slice s m cap) xs := BsN.of_bs (HB.out.keep hW (Nat.le_refl _)) hW.size (by
    rintro k hk (h | h)
    · omega
    · exact slb_none _ _ _ h)
  refine (raw_any g g (some ⟨W.heap.size, 0, none⟩) 1 [xs] [] (.slice none 0 0) _ (G.alloc _) M0 (Nat.le_trans (Nat.le_of_lt hgl) hA.size) (by have := HMM.out; simp; omega) (by simp) (partsN_one (hU.keep hA) (Bk.new _ _ _) (by
    rintro (h | h)
    · omega
    · exact slb_none _ _ _ h))).mono ?_
  rintro e w2 h
  have hW := (hW.alloc hW.size _).trans (h.below M0 (B := w.heap.size) hgw hgw (by have := hW.size; simp; omega))
  simp only [List.flatten_cons, List.flatten_nil, List.append_nil, List.nil_append] at h
  obtain ⟨rfl, v2, G2, M2, B2, O2⟩ := h
  have M2 := Lib.hid M2
  clear B2 O2 hU M0 hA G hgl
  go_wp2_with fail
  have hgl := G2.lt
  refine (count_any g g n xs v2 w2 G2 M2.out (Nat.le_of_lt hgl) (by have := HMM.out; omega)).mono ?_
  rintro e w3 h
  have hW := hW.trans (h.below M2.out (B := w.heap.size) hgw hgw hW.size)
  obtain ⟨rfl, v3, G3, M3, B3, O3⟩ := h
  have hlen : (xs ++ countL n).length ≤ 1000000 := by rw [List.length_append]; have := HMM.out; have := HCL.out; omega
  have hx3 : ∀ x ∈ xs ++ countL n, x < 256 := by
    intro x hx
    rcases List.mem_append.1 hx with h | h
    · exact HX.out x h
    · exact HCX.out x h
  have HLEN := Lib.hid hlen
  have HX3 := Lib.hid hx3
  have M3 := Lib.hid M3
  clear B3 O3 M2 G2 hgl hlen hx3
  go_wp2_with fail
  refine (bytes_any g g _ v3 w3 G3 M3.out HX3.out HLEN.out).mono ?_
  rintro e w4 ⟨v4, rfl, M4, B4⟩
  have hW := hW.trans (B4.mono hW.size)
  obtain ⟨s4, c4, e4⟩ := M4.slice
  generalize (xs ++ countL n).length = q4 at e4
  subst e4
  have M4 := Lib.hid M4
  clear B4 G3 M3
  go_wp2_with fail
  refine (read_any _ _ w4 (M4.out.bs HX3.out) HLEN.out HX3.out).mono ?_
  rintro e w5 ⟨p, v5, rfl, R5, B5, hp, hv5⟩
  have R5 : Hid (RdS w5 p v5 (xs ++ countL n, 0)) := R5
  have hgp : w.heap.size ≤ p := Nat.le_trans hW.size hp
  have hW := hW.trans (B5.mono hW.size)
  clear B5 M4 hp hv5
  go_wp2_with fail
  have H := rraw_any p (m : Int) v5 (xs ++ countL n, 0) w5 R5.out ⟨HLEN.out, (show (0 : Nat) < 1000 by omega)⟩
  rw [rdTake_app xs (countL n) 0 (m : Int) (by rw [HMM.out])] at H
  refine H.mono ?_
  rintro e w6 ⟨x6, rfl, M6, v6, T6⟩
  clear H
  have M6 := Lib.hid M6
  have T6 := Lib.hid T6
  obtain ⟨s6, c6, e6⟩ := M6.out.slice
  rw [← HMM.out] at e6
  subst e6
  go_wp2_with fail
  have H := rcount_any p most v6 (countL n, 0) w6 T6.out.1 ⟨by have := HCL.out; show (countL n).length ≤ _; omega, (show (0 : Nat) < 1000 by omega)⟩
  have HCC2 := HCC.out
  rw [List.append_nil] at HCC2
  rw [HCC2] at H
  refine H.mono ?_
  rintro e w7 ⟨rfl, v7, T7⟩
  clear H HCC2
  have M7 := M6.out.but T7.2.1 (fun k hk e => M6.out.apart T6.out.1.1 rt_ne (by have e : k = p := e; rw [← e]; exact hk))
  have T7 := Lib.hid (T6.out.trans T7)
  have hW := hW.trans (T7.out.2.1.below hW.size (fun k hk => by have e : k = p := hk; omega))
  have hc1 := conv_bs (M7.bs HX.out)
  have hc2 := conv_bs (HB.out.keep hW (Nat.le_refl _))
  generalize strN xs = str at *
  have hst : (str.toList == str.toList) = true := by simp
  clear M7
  go_wp2_with fail
  have H := end_any p v7 ([], 0) w7 T7.out.1
  refine H.mono ?_
  rintro e w9 ⟨rfl, rfl⟩
  clear H
  have he : rdEnd ([], 0) = 0 := rfl
  rw [he]
  go_wp2_with fail
  go_ret
  exact ⟨rfl, hW⟩
theorem walk (n most : Nat) (xs : List Nat) (v : Value) (w : World) (hb : BsV w w.heap.size v xs) (hn : n < 18446744073709551616) :
    Calls Try.prog 8 #[.int .u64 (n : Int), .int .u64 (most : Int), v] w fun e w' => e = .returned (.bool true) ∧ Below w.heap.size w w' := by
  have hb0 := hb
  obtain ⟨s, cap, rfl, _⟩ := hb
  rcases Nat.lt_or_ge 300 xs.length with h | h
  · exact walk_big n most _ _ _ w h
  rcases Nat.lt_or_ge most n with hm | hm
  · exact walk_over n most xs s cap w hb0 hn h hm
  · exact walk_fits n most xs s cap w hb0 hn h hm

set_option maxRecDepth 100000 in
set_option maxHeartbeats 2000000 in
theorem lifted (os : Os) (started : os.Started) (H : Type) (enc : TypeId × Value → H) :
    ReturnsInHanded {} Try.checked os 8 .any (Rows.wireMostSpec.pre6 enc Try.prog Try.f8 Rows.wireMostRow.domain false) (Rows.wireMostSpec.post enc Try.prog Try.f8 false true false false) := by
  refine returnsInHanded_of_change (C := Try.checked) own started (by kernel_rfl) Try.func8
    (ChangeSpec.witness6 (enc := enc) (C := Try.checked) false ⟨#[], #[.int .u64 0, .int .u64 0, .slice none 0 0], []⟩ 8 (by kernel_rfl) (by kernel_rfl) (by kernel_rfl) (by kernel_rfl)) ?_
  intro W base args ds gs before hval0 hW hcnd _
  have hval : ∀ (j : Nat) t v, Try.f8.params[j]? = some t → args[j]? = some v → Value.okWide Try.prog W .any base t v := hval0
  have hW' := hW
  obtain ⟨p, q, hA0, hV, rfl, hfz, hnd⟩ := hW
  have hA : DataW.TrodAll enc Try.prog W 0 (fun _ => true) true Try.f8.params.toList args.toList ds p := hA0
  rw [Try.params8] at hA hval
  obtain ⟨v0, vs0, d0, ds0, p0, q0, hargs, rfl, rfl, h0, r0⟩ := trodAll_cons hA
  obtain ⟨v1, vs1, d1, ds1, p1, q1, rfl, rfl, rfl, h1, r1⟩ := trodAll_cons r0
  obtain ⟨v2, vs2, d2, ds2, p2, q2, rfl, rfl, rfl, h2, r2⟩ := trodAll_cons r1
  obtain ⟨rfl, rfl, rfl⟩ := trodAll_nil r2
  obtain rfl : args = #[v0, v1, v2] := by cases args; simp_all
  obtain ⟨rfl, rfl⟩ := trodVars_none hV
  have lt0 : ∀ x ∈ p0, x.block < W.heap.size := by obtain ⟨m, hm⟩ := h0; exact DataW.trod_lt m _ _ _ hm
  have lt1 : ∀ x ∈ p1, x.block < W.heap.size := by obtain ⟨m, hm⟩ := h1; exact DataW.trod_lt m _ _ _ hm
  have lt2 : ∀ x ∈ p2, x.block < W.heap.size := by obtain ⟨m, hm⟩ := h2; exact DataW.trod_lt m _ _ _ hm
  obtain ⟨y0, rfl, _, _, hwf0⟩ := open_int (k := .u64) Try.underlying22 (hval 0 22 v0 rfl rfl) h0
  have hy0 := wf_u64 hwf0
  obtain ⟨x0, rfl⟩ := Int.eq_ofNat_of_zero_le hy0.1
  obtain ⟨y1, rfl, _, _, hwf1⟩ := open_int (k := .u64) Try.underlying22 (hval 1 22 v1 rfl rfl) h1
  have hy1 := wf_u64 hwf1
  obtain ⟨x1, rfl⟩ := Int.eq_ofNat_of_zero_le hy1.1
  obtain ⟨x2, hb2⟩ := bytes_arg (hval 2 52 v2 rfl rfl) h2
  clear hA0 hval0
  have hwalk := walk x0 x1 x2 _ W hb2 (by omega)
  refine hwalk.mono fun e W' ⟨he, bel⟩ => ?_
  subst he
  exact ⟨_, rfl, _, _, _, [], _, [], hW', trodAll_mk1 (shut_bool Try.underlying4 _), (trodAll_cons_mk (Below.trod laidOut (by kernel_rfl) (of_decide_eq_true (by kernel_rfl)) h0 bel lt0) (trodAll_cons_mk (Below.trod laidOut (by kernel_rfl) (of_decide_eq_true (by kernel_rfl)) h1 bel lt1) (trodAll_cons_mk (Below.trod laidOut (by kernel_rfl) (of_decide_eq_true (by kernel_rfl)) h2 bel lt2) trodAll_mk0))), rfl, bel.frame _, fun h => by cases h⟩

theorem over : Rows.wireMostRow.holds Try.pinned (OpenSpec.ofChange Rows.wireMostSpec) :=
  OpenClaim.holds_of_wide 8 Try.f8 rfl rfl rfl rfl rfl rfl rfl ⟨rfl, rfl, rfl, rfl, rfl⟩ rfl rfl rfl rfl rfl (by kernel_rfl) Try.func8 (by kernel_rfl)
    (of_decide_eq_true (by kernel_rfl)) (by unfold Func.isWrapper; first | (rw [if_pos (by decide +kernel)]; kernel_rfl) | (rw [if_neg (by decide +kernel)]; exact ⟨rfl, rfl⟩))
    (fun os started H enc _ => lifted os started H enc)

theorem proved : Rows.WireMostSaid := over
#print axioms proved
end Go.Proofs.Ytkifehabajchhaa.wireMost
