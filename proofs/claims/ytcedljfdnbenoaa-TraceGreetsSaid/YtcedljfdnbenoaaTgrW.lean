/-
  What is proved: TraceGreets holds for every input. No condition.
-/
import Derived.Test.YtcedljfdnbenoaaTrJ
namespace Go.Proofs.Ytcedljfdnbenoaa.traceGreets
open Go.ChangeShapes Go.WideShapes Go.ChangeAt Go.RowKit
set_option linter.unusedVariables false

theorem own : ownKnob Try.prog.godebug = none := by kernel_rfl
theorem laidOut : laidOutB Try.prog = true := by kernel_rfl
set_option linter.unusedSimpArgs false

def gM (d0 d1 d2 d3 : Bool) : BkM := ⟨updT (fun _ => none) 4 (some ⟨d2, d3, d0, d1⟩), 1, fun _ => none, fun _ => []⟩
theorem gM_T (d0 d1 d2 d3 : Bool) : (gM d0 d1 d2 d3).T 4 = some ⟨d2, d3, d0, d1⟩ := rfl
theorem gM_set (d0 d1 d2 d3 : Bool) (h1 h2 s1 s2 : Bool) : setT (gM d0 d1 d2 d3) 4 ⟨h1, h2, s1, s2⟩ = gM s1 s2 h1 h2 := by
  unfold setT gM
  simp only [updT_two]
theorem came0 : cameM bk0 4 = gM false false false false := rfl
theorem saidE1 (d0 d1 d2 d3 : Bool) : saidE (gM d0 d1 d2 d3) 4 1 [] = if d0 = true then 5 else 0 := by
  unfold saidE
  rw [gM_T]
  rfl
theorem saidM1 (d0 d1 d2 d3 : Bool) : saidM (gM d0 d1 d2 d3) 4 1 [] = gM true d1 d2 d3 := by
  unfold saidM
  rw [gM_T]
  exact gM_set d0 d1 d2 d3 d2 d3 true d1
theorem saidE2 (d0 d1 d2 d3 : Bool) : saidE (gM d0 d1 d2 d3) 4 2 [] = if d1 = true then 5 else if (!d0 || !d2) = true then 7 else 0 := by
  unfold saidE
  rw [gM_T]
  cases d0 <;> cases d1 <;> cases d2 <;> rfl
theorem saidM2 (d0 d1 d2 d3 : Bool) : saidM (gM d0 d1 d2 d3) 4 2 [] = gM d0 (d1 || (d0 && d2)) d2 d3 := by
  unfold saidM
  rw [gM_T]
  cases d0 <;> cases d1 <;> cases d2 <;> first | exact gM_set _ _ _ _ _ _ _ _
theorem saidE5 (d0 d1 d2 d3 : Bool) : saidE (gM d0 d1 d2 d3) 4 5 [] = if (!d1 || !d3) = true then 7 else 0 := by
  unfold saidE
  rw [gM_T]
  cases d1 <;> cases d3 <;> rfl
theorem saidM5 (d0 d1 d2 d3 : Bool) : saidM (gM d0 d1 d2 d3) 4 5 [] = gM d0 d1 d2 d3 := by
  unfold saidM
  rw [gM_T]
  cases d1 <;> cases d3 <;> rfl
theorem heardM1 (d0 d1 d2 d3 : Bool) (x : I32) : heardM (gM d0 d1 d2 d3) 4 1 x [] = gM d0 d1 true d3 := by
  unfold heardM
  rw [gM_T]
  exact gM_set d0 d1 d2 d3 true d3 d0 d1
theorem heardM2 (d0 d1 d2 d3 : Bool) (x : I32) : heardM (gM d0 d1 d2 d3) 4 2 x [] = gM d0 d1 d2 d2 := by
  unfold heardM
  rw [gM_T]
  exact gM_set d0 d1 d2 d3 d2 d2 d0 d1
theorem _root_.Go.Proofs.Ytcedljfdnbenoaa.HasF.mono {w W : World} {F : Nat → Prop} {g N N' : Nat} {M : BkM} (h : HasF w W F g N M) (hN : N ≤ N') : HasF w W F g N' M := by
  obtain ⟨S, r1, r2, r3, r4⟩ := h
  exact ⟨S, r1.mono hN, r2, r3, r4⟩
def Inv (d0 d1 d2 d3 : Bool) : Prop := (d1 = true → d0 = true ∧ d2 = true) ∧ (d3 = true → d2 = true)
set_option maxRecDepth 100000 in
set_option maxHeartbeats 16000000 in
theorem walk (L : List Int) (v : Value) (w : World) (h : RowV intR w w.heap.size v L) :
    Calls Try.prog 3 #[v] w fun e w' => e = .returned (.bool true) ∧ Below w.heap.size w w' := by
  have h63 : L.length < 9223372036854775808 := by obtain ⟨_, _, _, h1, h2, _⟩ := h; omega
  obtain ⟨s0, c, rfl⟩ : ∃ s c, v = .slice s L.length c := h.slice
  have hrow := row_at h
  obtain ⟨n, hn⟩ : ∃ n, n = L.length := ⟨_, rfl⟩
  rw [← hn] at hrow h63 ⊢
  have HL : Hid (∀ k, k < n → ∃ (z : Int) (b o : Nat), s0 = some ⟨b, o, none⟩ ∧ b < w.heap.size ∧ w.cell? ⟨b, o + k, none⟩ = some (.int .i64 z)) := fun k hk => by
    obtain ⟨z, b, o, _, e2, e3, e4⟩ := hrow k hk
    have := e4 0 _ rfl
    change w.cell? ⟨b, o + k * 1 + 0, none⟩ = some (.int .i64 z) at this
    rw [Nat.mul_one, Nat.add_zero] at this
    exact ⟨z, b, o, e2, e3, this⟩
  clear hrow hn h
  have hlk := looks_any w
  have hz := msz_zero
  have hne := msz_ne
  have hzi := idz_zero
  by_cases h30 : 30 < n
  · have d0 : decide ((30 : Int) < (n : Int)) = true := decide_eq_true (by omega)
    go_enter Try.func3, Try.ntmps3
    go_wp2_with fail
    refine hlk.mono ?_
    rintro e w1 ⟨rfl, hb1⟩
    go_wp2_with fail
    go_ret
    exact ⟨rfl, hb1⟩
  have d0 : decide ((30 : Int) < (n : Int)) = false := decide_eq_false (by omega)
  go_enter Try.func3, Try.ntmps3
  go_wp2_with fail
  refine hlk.mono ?_
  rintro e w1 ⟨rfl, hb1⟩
  have H0 := HasF.new w1 0
  have hc1 := H0.came 4 (by unfold InI; omega) (by decide)
  rw [came0] at hc1
  unfold bkP at hc1
  have HB1 := Lib.hid hb1
  clear hlk hb1 H0
  obtain ⟨g, hg⟩ : ∃ g, g = w1.heap.size := ⟨_, rfl⟩
  rw [← hg] at hc1
  go_upto_region 6 with fail
  rw [← hg]
  refine wp_any (fun W => Calls Try.prog 8 #[.pointer (some ⟨g, 0, none⟩), .int .i64 4] W fun e W' => e = .returned (.int .i64 (cameE bk0 4)) ∧ HasF w1 W' (fun _ => False) g 0 (gM false false false false) ∧ SameF (fun _ => False) W W') hc1 ?_
  clear hc1 hg
  intro W hc1
  go_wp2_with fail
  refine hc1.mono ?_
  rintro e W1 ⟨rfl, h1, hq⟩
  clear hc1 hq
  clear W
  have HF1 : Hid (HasF w W1 (fun _ => False) g 0 (gM false false false false)) := by
    obtain ⟨S, r1, r2, r3, r4⟩ := h1
    exact ⟨S, r1, fun k hk => Nat.le_trans HB1.out.size (r2 k hk), r3, HB1.out.trans (r4.mono HB1.out.size)⟩
  clear h1 HB1
  clear w1
  go_upto_region 8 with fail
  obtain ⟨dg, hdg⟩ : ∃ dg, dg = W1.heap.size := ⟨_, rfl⟩
  rw [← hdg]
  refine wp_any (fun W => HasF w W (fun q => q = dg) g 0 (gM false false false false) ∧ Bk W dg 30 #[.bool false, .bool false, .bool false, .bool false]) ⟨HF1.out.more ((Below.refl _ _).alloc (Nat.le_refl _) _) (fun k hk => .inr ⟨by rw [hk, hdg]; exact Nat.le_refl _, by rw [hk, hdg]; simp⟩), by rw [hdg]; exact Bk.new _ _ _⟩ ?_
  rintro W2 ⟨h2, K2⟩
  have HF2 := Lib.hid h2
  have HK2 := Lib.hid K2
  have HDG : Hid (w.heap.size ≤ dg) := by show _ ≤ _; rw [hdg]; exact HF1.out.below.size
  clear h2 K2 HF1 hdg
  clear W1
  go_wp2_with fail
  go_loopw [17] (fun i wr => ∃ (k : Nat) (d0 d1 d2 d3 : Bool), k ≤ n ∧ i = .int .i64 k ∧ Hid (Inv d0 d1 d2 d3) ∧ Hid (HasF w wr (fun q => q = dg) g (32 * k) (gM d0 d1 d2 d3)) ∧ Hid (Bk wr dg 30 #[.bool d0, .bool d1, .bool d2, .bool d3])) (fun i _ => n - (intOf i).toNat)
  case atStart => exact ⟨0, false, false, false, false, Nat.zero_le _, rfl, ⟨fun h => (by cases h), fun h => (by cases h)⟩, HF2, HK2⟩
  case round =>
    obtain ⟨k, b0, b1, b2, b3, hk, rfl, HI, HF, HK⟩ := hrel
    clear HF2 HK2
    by_cases hlt : k < n
    · obtain ⟨z, b, o, rfl, hbw, hcz⟩ := HL.out k hlt
      have j1 : decide ((k : Int) < (n : Int)) = true := decide_eq_true (by omega)
      have hcz : wr.cell? ⟨b, o + k, none⟩ = some (.int .i64 z) := (HF.out.below.cell (p := ⟨b, o + k, none⟩) hbw).trans hcz
      have hbr : b < wr.heap.size := Nat.lt_of_lt_of_le hbw HF.out.below.size
      -- behind the switch
      have HREST : Hid (∀ (W : World) (a0 a1 a2 a3 : Bool), HasF w W (fun q => q = dg) g (32 * k + 16) (gM a0 a1 a2 a3) → Calls Try.prog 9 #[.pointer (some ⟨g, 0, none⟩), .int .i64 4, .agg (msz.setIfInBounds 0 (.int .i64 5))] W fun e W' => e = .returned (.int .i64 (if (!a1 || !a3) = true then 7 else 0)) ∧ HasF w W' (fun q => q = dg) g (32 * (k + 1)) (gM a0 a1 a2 a3) ∧ SameF (fun q => q = dg) W W') := by
        show ∀ W a0 a1 a2 a3, _
        intro W a0 a1 a2 a3 hW
        have := hW.said 4 (by unfold InI; omega) (ms1 5) 5 _ [] (ms1_0 5) (ms1_3 5) (fun e => absurd e (by decide)) (by omega) (by show ([] : List I32).length ≤ _; decide)
        rw [saidE5, saidM5] at this
        exact this
      by_cases e0 : z = 0
      · have q0 : (z == 0) = true := by simp [e0]
        have hc := HF.out.said 4 (by unfold InI; omega) (ms1 1) 1 _ [] (ms1_0 1) (ms1_3 1) (fun e => absurd e (by decide)) (by omega) (by show ([] : List I32).length ≤ _; decide)
        rw [saidE1, saidM1] at hc
        unfold ms1 bkP at hc
        have HC := Lib.hid hc
        clear hc e0
        cases b0 <;> cases b1 <;> cases b2 <;> cases b3 <;> first
          | (refine absurd HI.out ?_; unfold Inv; simp; done)
          | (have hc := HC.out
             try simp only [Bool.not_true, Bool.not_false, Bool.or_true, Bool.or_false, Bool.true_or, Bool.false_or, Bool.and_true, Bool.and_false, Bool.true_and, Bool.false_and, Bool.or_self, Bool.and_self, if_true, if_false, reduceCtorEq, Bool.false_eq_true] at hc
             clear HC
             go_wp2_with fail
             refine hc.mono ?_
             rintro e W3 ⟨rfl, hf3, hs3⟩
             have K3 := hs3.keep (k := dg) rfl HK.out
             have c0 := K3.cell 0
             have c1 := K3.cell 1
             have c2 := K3.cell 2
             have c3 := K3.cell 3
             have f0 := K3.frozen 0
             have zz := K3.lt
             have HK3 := Lib.hid K3
             have HF3 := Lib.hid hf3
             clear hc hf3 hs3 K3
             change W3.cell? _ = some (.bool _) at c0 c1 c2 c3
             go_upto_region 29 with fail
             refine wp_any (fun W => HasF w W (fun q => q = dg) g (32 * k + 16) (gM _ _ _ _) ∧ Bk W dg 30 #[.bool _, .bool _, .bool _, .bool _]) ⟨(HF3.out.but ((But.refl (fun q => q = dg) W3).set_ (.inl rfl) 0 none _) (fun q hq _ => ⟨hq, by rw [hq]; exact HDG.out⟩)).mono (by omega), HK3.out.set_ 0 _⟩ ?_
             rintro W5 ⟨hW, K5⟩
             clear HK3 HF3 c0 c1 c2 c3 f0 zz
             clear W3
             have hc2 := HREST.out W5 _ _ _ _ hW
             simp only [Bool.not_true, Bool.not_false, Bool.or_true, Bool.or_false, Bool.true_or, Bool.false_or, Bool.and_true, Bool.and_false, Bool.true_and, Bool.false_and, Bool.or_self, Bool.and_self, if_true, if_false, reduceCtorEq, Bool.false_eq_true] at hc2
             have c0 := K5.cell 0
             have c1 := K5.cell 1
             have c2 := K5.cell 2
             have c3 := K5.cell 3
             change W5.cell? _ = some (.bool _) at c0 c1 c2 c3
             have zz := K5.lt
             have HK5 := Lib.hid K5
             clear hW K5
             go_wp2_with fail
             refine hc2.mono ?_
             rintro e W6 ⟨rfl, hf6, hs6⟩
             have HF6 := Lib.hid hf6
             have HK6 := Lib.hid (hs6.keep (k := dg) rfl HK5.out)
             clear hc2 hf6 hs6
             go_wp2_with fail
             go_roundw
             case rel => exact ⟨k + 1, _, _, _, _, by omega, by go_num, by (show Inv _ _ _ _; unfold Inv; simp), HF6, HK6⟩
             case measure => simp [intOf]; omega
             )
      have q0 : (z == 0) = false := by simp [e0]
      by_cases e1 : z = 1
      · have q1 : (z == 1) = true := by simp [e1]
        have hc := HF.out.said 4 (by unfold InI; omega) (ms1 2) 2 _ [] (ms1_0 2) (ms1_3 2) (fun e => absurd e (by decide)) (by omega) (by show ([] : List I32).length ≤ _; decide)
        rw [saidE2, saidM2] at hc
        unfold ms1 bkP at hc
        have HC := Lib.hid hc
        clear hc e1
        cases b0 <;> cases b1 <;> cases b2 <;> cases b3 <;> first
          | (refine absurd HI.out ?_; unfold Inv; simp; done)
          | (have hc := HC.out
             try simp only [Bool.not_true, Bool.not_false, Bool.or_true, Bool.or_false, Bool.true_or, Bool.false_or, Bool.and_true, Bool.and_false, Bool.true_and, Bool.false_and, Bool.or_self, Bool.and_self, if_true, if_false, reduceCtorEq, Bool.false_eq_true] at hc
             clear HC
             go_wp2_with fail
             refine hc.mono ?_
             rintro e W3 ⟨rfl, hf3, hs3⟩
             have K3 := hs3.keep (k := dg) rfl HK.out
             have c0 := K3.cell 0
             have c1 := K3.cell 1
             have c2 := K3.cell 2
             have c3 := K3.cell 3
             have f0 := K3.frozen 1
             have zz := K3.lt
             have HK3 := Lib.hid K3
             have HF3 := Lib.hid hf3
             clear hc hf3 hs3 K3
             change W3.cell? _ = some (.bool _) at c0 c1 c2 c3
             go_upto_region 29 with fail
             refine wp_any (fun W => HasF w W (fun q => q = dg) g (32 * k + 16) (gM _ _ _ _) ∧ Bk W dg 30 #[.bool _, .bool _, .bool _, .bool _]) ⟨(HF3.out.but ((But.refl (fun q => q = dg) W3).set_ (.inl rfl) 1 none _) (fun q hq _ => ⟨hq, by rw [hq]; exact HDG.out⟩)).mono (by omega), HK3.out.set_ 1 _⟩ ?_
             rintro W5 ⟨hW, K5⟩
             clear HK3 HF3 c0 c1 c2 c3 f0 zz
             clear W3
             have hc2 := HREST.out W5 _ _ _ _ hW
             simp only [Bool.not_true, Bool.not_false, Bool.or_true, Bool.or_false, Bool.true_or, Bool.false_or, Bool.and_true, Bool.and_false, Bool.true_and, Bool.false_and, Bool.or_self, Bool.and_self, if_true, if_false, reduceCtorEq, Bool.false_eq_true] at hc2
             have c0 := K5.cell 0
             have c1 := K5.cell 1
             have c2 := K5.cell 2
             have c3 := K5.cell 3
             change W5.cell? _ = some (.bool _) at c0 c1 c2 c3
             have zz := K5.lt
             have HK5 := Lib.hid K5
             clear hW K5
             go_wp2_with fail
             refine hc2.mono ?_
             rintro e W6 ⟨rfl, hf6, hs6⟩
             have HF6 := Lib.hid hf6
             have HK6 := Lib.hid (hs6.keep (k := dg) rfl HK5.out)
             clear hc2 hf6 hs6
             go_wp2_with fail
             go_roundw
             case rel => exact ⟨k + 1, _, _, _, _, by omega, by go_num, by (show Inv _ _ _ _; unfold Inv; simp), HF6, HK6⟩
             case measure => simp [intOf]; omega
             )
      have q1 : (z == 1) = false := by simp [e1]
      by_cases e2 : z = 2
      · have q2 : (z == 2) = true := by simp [e2]
        have hc := HF.out.heard 4 (by unfold InI; omega) (ms1 1) 1 _ i0 [] (ms1_0 1) (ms1_3 1) (fun e => absurd e (by decide))
        rw [heardM1] at hc
        rw [idV_i0] at hc
        unfold ms1 bkP at hc
        have HC := Lib.hid hc
        clear hc e2
        cases b0 <;> cases b1 <;> cases b2 <;> cases b3 <;> first
          | (refine absurd HI.out ?_; unfold Inv; simp; done)
          | (have hc := HC.out
             try simp only [Bool.not_true, Bool.not_false, Bool.or_true, Bool.or_false, Bool.true_or, Bool.false_or, Bool.and_true, Bool.and_false, Bool.true_and, Bool.false_and, Bool.or_self, Bool.and_self, if_true, if_false, reduceCtorEq, Bool.false_eq_true] at hc
             clear HC
             go_wp2_with fail
             refine hc.mono ?_
             rintro e W3 ⟨rfl, hf3, hs3⟩
             have K3 := hs3.keep (k := dg) rfl HK.out
             have c0 := K3.cell 0
             have c1 := K3.cell 1
             have c2 := K3.cell 2
             have c3 := K3.cell 3
             have f0 := K3.frozen 2
             have zz := K3.lt
             have HK3 := Lib.hid K3
             have HF3 := Lib.hid hf3
             clear hc hf3 hs3 K3
             change W3.cell? _ = some (.bool _) at c0 c1 c2 c3
             go_upto_region 29 with fail
             refine wp_any (fun W => HasF w W (fun q => q = dg) g (32 * k + 16) (gM _ _ _ _) ∧ Bk W dg 30 #[.bool _, .bool _, .bool _, .bool _]) ⟨(HF3.out.but ((But.refl (fun q => q = dg) W3).set_ (.inl rfl) 2 none _) (fun q hq _ => ⟨hq, by rw [hq]; exact HDG.out⟩)).mono (by omega), HK3.out.set_ 2 _⟩ ?_
             rintro W5 ⟨hW, K5⟩
             clear HK3 HF3 c0 c1 c2 c3 f0 zz
             clear W3
             have hc2 := HREST.out W5 _ _ _ _ hW
             simp only [Bool.not_true, Bool.not_false, Bool.or_true, Bool.or_false, Bool.true_or, Bool.false_or, Bool.and_true, Bool.and_false, Bool.true_and, Bool.false_and, Bool.or_self, Bool.and_self, if_true, if_false, reduceCtorEq, Bool.false_eq_true] at hc2
             have c0 := K5.cell 0
             have c1 := K5.cell 1
             have c2 := K5.cell 2
             have c3 := K5.cell 3
             change W5.cell? _ = some (.bool _) at c0 c1 c2 c3
             have zz := K5.lt
             have HK5 := Lib.hid K5
             clear hW K5
             go_wp2_with fail
             refine hc2.mono ?_
             rintro e W6 ⟨rfl, hf6, hs6⟩
             have HF6 := Lib.hid hf6
             have HK6 := Lib.hid (hs6.keep (k := dg) rfl HK5.out)
             clear hc2 hf6 hs6
             go_wp2_with fail
             go_roundw
             case rel => exact ⟨k + 1, _, _, _, _, by omega, by go_num, by (show Inv _ _ _ _; unfold Inv; simp), HF6, HK6⟩
             case measure => simp [intOf]; omega
             )
      have q2 : (z == 2) = false := by simp [e2]
      by_cases e3 : z = 3
      · have q3 : (z == 3) = true := by simp [e3]
        have hc := HF.out.heard 4 (by unfold InI; omega) (ms1 2) 2 _ i0 [] (ms1_0 2) (ms1_3 2) (fun e => absurd e (by decide))
        rw [heardM2] at hc
        rw [idV_i0] at hc
        unfold ms1 bkP at hc
        have HC := Lib.hid hc
        clear hc e3
        cases b0 <;> cases b1 <;> cases b2 <;> cases b3 <;> first
          | (refine absurd HI.out ?_; unfold Inv; simp; done)
          | (have hc := HC.out
             try simp only [Bool.not_true, Bool.not_false, Bool.or_true, Bool.or_false, Bool.true_or, Bool.false_or, Bool.and_true, Bool.and_false, Bool.true_and, Bool.false_and, Bool.or_self, Bool.and_self, if_true, if_false, reduceCtorEq, Bool.false_eq_true] at hc
             clear HC
             go_wp2_with fail
             refine hc.mono ?_
             rintro e W3 ⟨rfl, hf3, hs3⟩
             have K3 := hs3.keep (k := dg) rfl HK.out
             have c0 := K3.cell 0
             have c1 := K3.cell 1
             have c2 := K3.cell 2
             have c3 := K3.cell 3
             have f0 := K3.frozen 3
             have zz := K3.lt
             have HK3 := Lib.hid K3
             have HF3 := Lib.hid hf3
             clear hc hf3 hs3 K3
             change W3.cell? _ = some (.bool _) at c0 c1 c2 c3
             go_upto_region 29 with fail
             refine wp_any (fun W => HasF w W (fun q => q = dg) g (32 * k + 16) (gM _ _ _ _) ∧ Bk W dg 30 #[.bool _, .bool _, .bool _, .bool _]) ⟨(HF3.out.but ((But.refl (fun q => q = dg) W3).set_ (.inl rfl) 3 none _) (fun q hq _ => ⟨hq, by rw [hq]; exact HDG.out⟩)).mono (by omega), HK3.out.set_ 3 _⟩ ?_
             rintro W5 ⟨hW, K5⟩
             clear HK3 HF3 c0 c1 c2 c3 f0 zz
             clear W3
             have hc2 := HREST.out W5 _ _ _ _ hW
             simp only [Bool.not_true, Bool.not_false, Bool.or_true, Bool.or_false, Bool.true_or, Bool.false_or, Bool.and_true, Bool.and_false, Bool.true_and, Bool.false_and, Bool.or_self, Bool.and_self, if_true, if_false, reduceCtorEq, Bool.false_eq_true] at hc2
             have c0 := K5.cell 0
             have c1 := K5.cell 1
             have c2 := K5.cell 2
             have c3 := K5.cell 3
             change W5.cell? _ = some (.bool _) at c0 c1 c2 c3
             have zz := K5.lt
             have HK5 := Lib.hid K5
             clear hW K5
             go_wp2_with fail
             refine hc2.mono ?_
             rintro e W6 ⟨rfl, hf6, hs6⟩
             have HF6 := Lib.hid hf6
             have HK6 := Lib.hid (hs6.keep (k := dg) rfl HK5.out)
             clear hc2 hf6 hs6
             go_wp2_with fail
             go_roundw
             case rel => exact ⟨k + 1, _, _, _, _, by omega, by go_num, by (show Inv _ _ _ _; unfold Inv; simp), HF6, HK6⟩
             case measure => simp [intOf]; omega
             )
      have q3 : (z == 3) = false := by simp [e3]
      cases b0 <;> cases b1 <;> cases b2 <;> cases b3 <;> first
        | (refine absurd HI.out ?_; unfold Inv; simp; done)
        | (have hW := HF.out.mono (N' := 32 * k + 16) (by omega)
           have K5 := HK.out
           clear e0 e1 e2 e3
           go_upto_region 29 with fail
           generalize hWr : wr = W5 at *
           clear hWr
           have hc2 := HREST.out W5 _ _ _ _ hW
           simp only [Bool.not_true, Bool.not_false, Bool.or_true, Bool.or_false, Bool.true_or, Bool.false_or, Bool.and_true, Bool.and_false, Bool.true_and, Bool.false_and, Bool.or_self, Bool.and_self, if_true, if_false, reduceCtorEq, Bool.false_eq_true] at hc2
           have c0 := K5.cell 0
           have c1 := K5.cell 1
           have c2 := K5.cell 2
           have c3 := K5.cell 3
           change W5.cell? _ = some (.bool _) at c0 c1 c2 c3
           have zz := K5.lt
           have HK5 := Lib.hid K5
           clear hW K5
           go_wp2_with fail
           refine hc2.mono ?_
           rintro e W6 ⟨rfl, hf6, hs6⟩
           have HF6 := Lib.hid hf6
           have HK6 := Lib.hid (hs6.keep (k := dg) rfl HK5.out)
           clear hc2 hf6 hs6
           go_wp2_with fail
           go_roundw
           case rel => exact ⟨k + 1, _, _, _, _, by omega, by go_num, by (show Inv _ _ _ _; unfold Inv; simp), HF6, HK6⟩
           case measure => simp [intOf]; omega
           )

    · obtain rfl : k = n := by omega
      have j1 : decide ((k : Int) < (k : Int)) = false := decide_eq_false (by omega)
      have hlen := HF.out.len
      unfold bkP at hlen
      have HB := Lib.hid HF.out.below
      clear hlt HF HK
      go_wp2_with fail
      refine hlen.mono ?_
      rintro e W5 ⟨rfl, rfl⟩
      clear hlen
      go_wp2_with fail
      go_ret
      exact ⟨rfl, HB.out⟩
end Go.Proofs.Ytcedljfdnbenoaa.traceGreets
