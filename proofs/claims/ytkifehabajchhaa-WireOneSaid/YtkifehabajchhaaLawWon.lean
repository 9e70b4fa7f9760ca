/-
  What is proved: for every slice of bytes the law WireOne returns true, and its argument reads behind the call as it read before it. No condition.
-/
import Derived.Test.YtkifehabajchhaaWmb
import Derived.Test.YtkifehabajchhaaByA
import Derived.Test.YtkifehabajchhaaOpen
namespace Go.Proofs.Ytkifehabajchhaa.wireOne
open Go.ChangeShapes Go.WideShapes Go.ChangeAt Go.RowKit
set_option linter.unusedVariables false

theorem own : ownKnob Try.prog.godebug = none := by kernel_rfl
theorem laidOut : laidOutB Try.prog = true := by kernel_rfl

theorem wp_any2 {P : Program} {c : Code} {Q : Exit → Act → World → Prop} {a : Act} {w : World} (S : World → Prop) (hS : S w) (h : ∀ W, S W → c.wp P Q a W) : c.wp P Q a w := h w hS
set_option maxRecDepth 100000 in
set_option maxHeartbeats 1000000 in
theorem left_cell (p q : Nat) (s : Option Addr) (c : Nat) (e : Value) (w : World) (hP : Bk w p 85 #[.slice s q c, e]) :
    Calls Try.prog 36 #[.pointer (some ⟨p, 0, none⟩)] w fun r w' => r = .returned (.int .i64 (q : Nat)) ∧ w' = w := by
  have c0 := hP.cell 0
  have f0 := hP.frozen 0
  have z0 := hP.lt
  go_enter Try.func36, Try.ntmps36
  go_wp2_with fail
  go_ret
  exact ⟨rfl, rfl⟩
set_option maxRecDepth 100000 in
set_option maxHeartbeats 1000000 in
theorem walk_big (s : Option Addr) (len cap : Nat) (w : World) (h : 100 < len) :
    Calls Try.prog 7 #[.slice s len cap] w fun e w' => e = .returned (.bool true) ∧ Below w.heap.size w w' := by
  have hz : (100 : Int) < (len : Int) := by omega
  go_enter Try.func7, Try.ntmps7
  go_wp2_with fail
  refine (writes_any _).mono ?_
  rintro e w1 ⟨rfl, hb1⟩
  go_wp2_with fail
  go_ret
  exact ⟨rfl, hb1⟩
set_option maxRecDepth 100000 in
set_option maxHeartbeats 1000000 in
theorem walk_bad (xs : List Nat) (s : Option Addr) (cap n : Nat) (t : St) (w : World) (hb : BsV w w.heap.size (.slice s xs.length cap) xs) (hl : xs.length ≤ 100)
    (ht : rdCount (xs, 0) 18446744073709551615 = (n, t)) (h2 : t.2 ≠ 0) (h0 : n = 0) (h1 : t.1 = []) :
    Calls Try.prog 7 #[.slice s xs.length cap] w fun e w' => e = .returned (.bool true) ∧ Below w.heap.size w w' := by
  have HB := Lib.hid hb
  have HX := Lib.hid (show ∀ x ∈ xs, x < 256 by obtain ⟨_, _, _, _, _, h, _⟩ := hb; exact h)
  have HCO : Hid (∀ p v W, RdS W p v (xs, 0) → Calls Try.prog 34 #[.pointer (some ⟨p, 0, none⟩), .int .u64 18446744073709551615] W fun r w' => r = .returned (.int .u64 (n : Int)) ∧ ∃ v', Took p v t W w' v') := fun p v W h => by
    have H := rcount_any p 18446744073709551615 v (xs, 0) W h ⟨show xs.length ≤ 1000000 by omega, (show (0 : Nat) < 1000 by omega)⟩
    rw [ht] at H
    exact H
  have d1 : ((t.2 : Int) != 0) = true := by simp; omega
  have d2 : t.1.length = 0 := by rw [h1]; rfl
  subst h0
  obtain ⟨m, hmm⟩ : ∃ m, m = xs.length := ⟨_, rfl⟩
  rw [← hmm] at hl ⊢
  have HB : Hid (BsV w w.heap.size (.slice s m cap) xs) := by rw [hmm]; exact HB
  have HMM := Lib.hid hmm
  have hz : decide ((100 : Int) < (m : Int)) = false := decide_eq_false (by omega)
  clear hb hmm ht
  go_enter Try.func7, Try.ntmps7
  go_wp2_with fail
  refine (writes_any _).mono ?_
  rintro e w1 ⟨rfl, hW⟩
  go_wp2_with fail
  refine (read_any xs _ w1 ((HB.out.keep hW (Nat.le_refl _)).mono hW.size) (by have := HMM.out; omega) HX.out).mono ?_
  rintro e w2 ⟨p, v2, rfl, R2, B2, hp, hv2⟩
  have R2 : Hid (RdS w2 p v2 (xs, 0)) := R2
  have hgp : w.heap.size ≤ p := Nat.le_trans hW.size hp
  have hW := hW.trans (B2.mono hW.size)
  clear B2 hp hv2
  go_wp2_with fail
  refine (HCO.out p v2 w2 R2.out).mono ?_
  rintro e w3 ⟨rfl, v3, T3⟩
  have hW := hW.trans (T3.2.1.below hW.size (fun k hk => by have e : k = p := hk; omega))
  have P3 := T3.1.1
  have R3 : Hid (RdS w3 p v3 t) := T3.1
  have hsl : ∃ s3 c3, v3 = .slice s3 t.1.length c3 := by obtain ⟨_, ⟨s3, c3, e, _⟩, _⟩ := T3.1; exact ⟨s3, c3, e⟩
  obtain ⟨s3, c3, rfl⟩ := hsl
  clear T3 R2 HCO
  go_wp2_with fail
  refine (err_any p _ t w3 R3.out).mono ?_
  rintro e w4 ⟨rfl, h4⟩
  subst h4
  go_wp2_with fail
  refine (left_any p _ t w4 R3.out).mono ?_
  rintro e w5 ⟨rfl, h5⟩
  subst h5
  rw [d2]
  go_wp2_with fail
  go_ret
  exact ⟨rfl, hW⟩
set_option maxRecDepth 100000 in
set_option maxHeartbeats 1000000 in
theorem walk_good (xs : List Nat) (s : Option Addr) (cap n : Nat) (t : St) (w : World) (hb : BsV w w.heap.size (.slice s xs.length cap) xs) (hl : xs.length ≤ 100)
    (ht : rdCount (xs, 0) 18446744073709551615 = (n, t)) (h2 : t.2 = 0) (hx : xs = countL n ++ t.1) (hn : n < 18446744073709551616) :
    Calls Try.prog 7 #[.slice s xs.length cap] w fun e w' => e = .returned (.bool true) ∧ Below w.heap.size w w' := by
  have HB := Lib.hid hb
  have HX := Lib.hid (show ∀ x ∈ xs, x < 256 by obtain ⟨_, _, _, _, _, h, _⟩ := hb; exact h)
  have HCO : Hid (∀ p v W, RdS W p v (xs, 0) → Calls Try.prog 34 #[.pointer (some ⟨p, 0, none⟩), .int .u64 18446744073709551615] W fun r w' => r = .returned (.int .u64 (n : Int)) ∧ ∃ v', Took p v t W w' v') := fun p v W h => by
    have H := rcount_any p 18446744073709551615 v (xs, 0) W h ⟨show xs.length ≤ 1000000 by omega, (show (0 : Nat) < 1000 by omega)⟩
    rw [ht] at H
    exact H
  have HXS := Lib.hid hx
  have d1 : ((t.2 : Int) != 0) = false := by simp; omega
  obtain ⟨q, hq⟩ : ∃ q, q = t.1.length := ⟨_, rfl⟩
  obtain ⟨k, hk⟩ : ∃ k, k = (countL n).length := ⟨_, rfl⟩
  have hkq : xs.length = k + q := by rw [hx, List.length_append, ← hk, ← hq]
  have hk0 : 0 < k := by
    rw [hk]
    unfold countL
    split
    · rw [toL_length]; omega
    · split
      · rw [List.length_append, toL_length, toL_length]; omega
      · split
        · rw [List.length_append, toL_length, toL_length]; omega
        · rw [List.length_append, toL_length, toL_length]; omega
  have htk : xs.take k = countL n := by rw [hx, hk]; simp
  obtain ⟨sa, hsa⟩ : ∃ a, s = some a := by
    obtain ⟨s', c', e, _, _, _, h⟩ := hb
    cases e
    obtain ⟨b, o, e, _⟩ := h (by intro e; rw [e] at hkq; simp at hkq; omega)
    exact ⟨_, e⟩
  subst hsa
  have hbk : BsV w w.heap.size (.slice (some sa) k cap) (countL n) := by
    rw [← htk]
    exact (bsn_take (S := fun _ => False) (BsN.of_bs hb (Nat.le_refl _) (fun _ _ h => h)) (by omega)).bs
  have HBK := Lib.hid hbk
  have hkc : k ≤ cap := by
    obtain ⟨s', c', e, h, _⟩ := hbk
    cases e
    rw [← hk] at h
    exact h
  clear hbk

  have HQ := Lib.hid hq
  have HK := Lib.hid hk
  have HHX := Lib.hid hx
  have HHN := Lib.hid hn
  have HKQ := Lib.hid hkq
  clear hq hk hx htk hkq
  obtain ⟨m, hmm⟩ : ∃ m, m = xs.length := ⟨_, rfl⟩
  rw [← hmm] at hl ⊢
  have HB : Hid (BsV w w.heap.size (.slice (some sa) m cap) xs) := by rw [hmm]; exact HB
  have HMM := Lib.hid hmm
  have hz : decide ((100 : Int) < (m : Int)) = false := decide_eq_false (by omega)
  clear hb hmm ht
  go_enter Try.func7, Try.ntmps7
  go_wp2_with fail
  refine (writes_any _).mono ?_
  rintro e w1 ⟨rfl, hW⟩
  go_wp2_with fail
  refine (read_any xs _ w1 ((HB.out.keep hW (Nat.le_refl _)).mono hW.size) (by have := HMM.out; omega) HX.out).mono ?_
  rintro e w2 ⟨p, v2, rfl, R2, B2, hp, hv2⟩
  have R2 : Hid (RdS w2 p v2 (xs, 0)) := R2
  have hgp : w.heap.size ≤ p := Nat.le_trans hW.size hp
  have hW := hW.trans (B2.mono hW.size)
  clear B2 hp hv2
  go_wp2_with fail
  refine (HCO.out p v2 w2 R2.out).mono ?_
  rintro e w3 ⟨rfl, v3, T3⟩
  have hW := hW.trans (T3.2.1.below hW.size (fun k hk => by have e : k = p := hk; omega))
  have P3 := T3.1.1
  have R3 : Hid (RdS w3 p v3 t) := T3.1
  have hsl : ∃ s3 c3, v3 = .slice s3 t.1.length c3 := by obtain ⟨_, ⟨s3, c3, e, _⟩, _⟩ := T3.1; exact ⟨s3, c3, e⟩
  obtain ⟨s3, c3, rfl⟩ := hsl
  clear T3 R2 HCO
  go_wp2_with fail
  refine (err_any p _ t w3 R3.out).mono ?_
  rintro e w4 ⟨rfl, h4⟩
  subst h4
  go_upto_region 10 with fail
  refine wp_any2 (fun W => Below w.heap.size w W ∧ Bk W p 85 #[.slice s3 q c3, .int .i64 (t.2 : Int)] ∧ Bk W w4.heap.size 54 #[.slice none 0 0]) ⟨hW.alloc hW.size _, by rw [HQ.out]; exact P3.alloc _, Bk.new _ _ _⟩ ?_
  have hgw := hW.size
  have hpg : p < w4.heap.size := P3.lt
  clear hW P3 R3
  generalize w4.heap.size = g at *
  rintro W ⟨hW, P, G⟩
  go_wp2_with fail
  have M0 : Mine W g (.slice none 0 0) [] := .inl ⟨rfl, rfl⟩
  refine (count_any g g n [] _ W G M0 (Nat.le_of_lt G.lt) (by simp)).mono ?_
  rintro e w5 h
  have hW := hW.trans (h.below M0 (B := w.heap.size) hgw hgw hW.size)
  rw [List.nil_append] at h
  obtain ⟨rfl, v5, G5, M5, B5, O5⟩ := h
  have P5 := B5.keep P (by rintro (h | h); omega; exact slb_none _ _ _ h)
  have HBY : Hid (∀ W, Bk W g 54 #[v5] → Mine W g v5 (countL n) → Calls Try.prog 37 #[.pointer (some ⟨g, 0, none⟩)] W fun e w' => ∃ v', e = .returned v' ∧ Mine w' W.heap.size v' (countL n) ∧ Below W.heap.size W w') := fun W h1 h2 => bytes_any g g (countL n) v5 W h1 h2 (countL_lt n) (by have := countL_len n; omega)
  have HLE : Hid (∀ W, Bk W p 85 #[.slice s3 q c3, .int .i64 (t.2 : Int)] → Calls Try.prog 36 #[.pointer (some ⟨p, 0, none⟩)] W fun r w' => r = .returned (.int .i64 (q : Nat)) ∧ w' = W) := fun W h => left_cell p q s3 c3 _ W h
  have M5 := Lib.hid (M5.keep ((Below.refl _ _).drew))
  have G5 := G5.drew
  have P5 := P5.drew
  have hW := hW.drew
  have HW := Lib.hid hW
  have hq1 : IntKind.i64.wrap ((m : Int) - (q : Int)) = (k : Int) := by
    have h1 := HKQ.out
    have h2 := HMM.out
    rw [IntWalk.i64_in _ (by omega)]
    omega
  have hk1 : (k : Int) ≤ (cap : Int) := by omega
  have hcb := conv_bs (HBK.out.keep hW (Nat.le_refl _))
  have HCB : Hid (∀ W', Below w5.drew.heap.size w5.drew W' → (convert 52 9 (.slice (some sa) k cap)).run Try.prog W' = .ok (.string (strN (countL n))) W') := fun W' h => conv_bs (HBK.out.keep (HW.out.trans (h.mono HW.out.size)) (Nat.le_refl _))
  have HCX := Lib.hid (countL_lt n)
  generalize hstr : strN (countL n) = str at *
  have HSTR := Lib.hid hstr
  have hst : (str.toList == str.toList) = true := by simp
  clear G P B5 O5 M0 hstr hW hk0 hkc
  go_upto_region 11 with fail
  go_region_law (first
    | (go_simp; go_at_call 37; refine (HBY.out _ G5 M5.out).mono ?_; rintro e w6 ⟨v6, rfl, M6, B6⟩; have hcv := conv_bs (M6.bs HCX.out); rw [HSTR.out] at hcv; have hcb6 := HCB.out w6 B6; have P6 := P5.keep B6; obtain ⟨s6, c6, e6⟩ := M6.slice; rw [← HK.out] at e6; subst e6)
    | (go_simp; go_at_call 36; first | (refine (HLE.out _ P5).mono ?_; rintro e w7 ⟨rfl, h7⟩; subst h7) | (refine (HLE.out _ P6).mono ?_; rintro e w7 ⟨rfl, h7⟩; subst h7)))
  all_goals
    go_wp2_with fail
    go_ret
    exact ⟨rfl, HW.out.trans (B6.mono HW.out.size)⟩
theorem walk (xs : List Nat) (v : Value) (w : World) (hb : BsV w w.heap.size v xs) :
    Calls Try.prog 7 #[v] w fun e w' => e = .returned (.bool true) ∧ Below w.heap.size w w' := by
  have hb0 := hb
  have hx : ∀ x ∈ xs, x < 256 := by obtain ⟨_, _, _, _, _, h, _⟩ := hb; exact h
  obtain ⟨s, cap, rfl, _⟩ := hb
  rcases Nat.lt_or_ge 100 xs.length with h | h
  · exact walk_big _ _ _ w h
  have hle := rdCount_le (xs, 0) 18446744073709551615
  have hcb := count_back xs 18446744073709551615 hx
  have hcd := count_bad (xs, 0) 18446744073709551615 (fun h => absurd rfl h)
  generalize hr : rdCount (xs, 0) 18446744073709551615 = r at *
  obtain ⟨n, t⟩ := r
  simp only at hle hcb hcd
  by_cases h2 : t.2 = 0
  · exact walk_good xs s cap n t w hb0 h hr h2 (hcb h2) (by omega)
  · obtain ⟨h3, h4⟩ := hcd h2
    exact walk_bad xs s cap n t w hb0 h hr h2 h3 h4

set_option maxRecDepth 100000 in
set_option maxHeartbeats 2000000 in
theorem lifted (os : Os) (started : os.Started) (H : Type) (enc : TypeId × Value → H) :
    ReturnsInHanded {} Try.checked os 7 .any (Rows.wireOneSpec.pre6 enc Try.prog Try.f7 Rows.wireOneRow.domain false) (Rows.wireOneSpec.post enc Try.prog Try.f7 false true false false) := by
  refine returnsInHanded_of_change (C := Try.checked) own started (by kernel_rfl) Try.func7
    (ChangeSpec.witness6 (enc := enc) (C := Try.checked) false ⟨#[], #[.slice none 0 0], []⟩ 8 (by kernel_rfl) (by kernel_rfl) (by kernel_rfl) (by kernel_rfl)) ?_
  intro W base args ds gs before hval0 hW hcnd _
  have hval : ∀ (j : Nat) t v, Try.f7.params[j]? = some t → args[j]? = some v → Value.okWide Try.prog W .any base t v := hval0
  have hW' := hW
  obtain ⟨p, q, hA0, hV, rfl, hfz, hnd⟩ := hW
  have hA : DataW.TrodAll enc Try.prog W 0 (fun _ => true) true Try.f7.params.toList args.toList ds p := hA0
  rw [Try.params7] at hA hval
  obtain ⟨v0, vs0, d0, ds0, p0, q0, hargs, rfl, rfl, h0, r0⟩ := trodAll_cons hA
  obtain ⟨rfl, rfl, rfl⟩ := trodAll_nil r0
  obtain rfl : args = #[v0] := by cases args; simp_all
  obtain ⟨rfl, rfl⟩ := trodVars_none hV
  have lt0 : ∀ x ∈ p0, x.block < W.heap.size := by obtain ⟨m, hm⟩ := h0; exact DataW.trod_lt m _ _ _ hm
  obtain ⟨x0, hb0⟩ := bytes_arg (hval 0 52 v0 rfl rfl) h0
  clear hA0 hval0
  have hwalk := walk x0 _ W hb0
  refine hwalk.mono fun e W' ⟨he, bel⟩ => ?_
  subst he
  exact ⟨_, rfl, _, _, _, [], _, [], hW', trodAll_mk1 (shut_bool Try.underlying4 _), (trodAll_cons_mk (Below.trod laidOut (by kernel_rfl) (of_decide_eq_true (by kernel_rfl)) h0 bel lt0) trodAll_mk0), rfl, bel.frame _, fun h => by cases h⟩

theorem over : Rows.wireOneRow.holds Try.pinned (OpenSpec.ofChange Rows.wireOneSpec) :=
  OpenClaim.holds_of_wide 7 Try.f7 rfl rfl rfl rfl rfl rfl rfl ⟨rfl, rfl, rfl, rfl, rfl⟩ rfl rfl rfl rfl rfl (by kernel_rfl) Try.func7 (by kernel_rfl)
    (of_decide_eq_true (by kernel_rfl)) (by unfold Func.isWrapper; first | (rw [if_pos (by decide +kernel)]; kernel_rfl) | (rw [if_neg (by decide +kernel)]; exact ⟨rfl, rfl⟩))
    (fun os started H enc _ => lifted os started H enc)

theorem proved : Rows.WireOneSaid := over
#print axioms proved
end Go.Proofs.Ytkifehabajchhaa.wireOne
