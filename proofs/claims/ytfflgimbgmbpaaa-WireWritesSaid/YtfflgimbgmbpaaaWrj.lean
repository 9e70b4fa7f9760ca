/-
  Contracts of package wire's Writer, the rest.
-/
import Derived.Test.YtfflgimbgmbpaaaWri
namespace Go.Proofs.Ytfflgimbgmbpaaa
open Go.RowKit
set_option linter.unusedVariables false

set_option maxRecDepth 100000 in
set_option maxHeartbeats 1000000 in
theorem put_big (g lo b : Nat) (sz : Int) (n m : Nat) (xs : List Nat) (v : Value) (w : World) (hG : Bk w g 26 #[v]) (hM : Mine w lo v xs) (hlo : lo ≤ w.heap.size) (hN : Bk w b 27 #[.int .u64 (n : Int)])
    (hlen : xs.length + 8 ≤ 1000000) (hsz : 8 < sz) (hm : m = 8) :
    Calls Try.prog 5 #[.pointer (some ⟨g, 0, none⟩), .int .i64 sz, .slice (some ⟨b, 0, none⟩) 1 1] w (Wrote g lo v (xs ++ toL n m) w) := by
  have hbv := hM.apart hN (by decide)
  have HM := Lib.hid hM
  have HL := Lib.hid hlen
  have HLO := Lib.hid hlo
  have hd : decide ((8 : Int) < sz) = true := decide_eq_true hsz
  have hbg : b ≠ g := by
    intro e
    subst e
    have := hG.symm.trans hN
    cases this
  have n0 := hN.cell 0
  have nz := hN.lt
  clear hM hlo hlen
  go_enter Try.func5, Try.ntmps5
  go_wp2_with fail
  refine wp_loop_rounds 2 ?_
  rw [rounds_succ]
  go_wp2_with fail
  go_loopw [17] (fun i wr => ∃ (k : Nat) (v' : Value), k ≤ m ∧ i = .int .i64 k ∧ Bk wr g 26 #[v'] ∧ Hid (Mine wr lo v' (xs ++ toL n k)) ∧ Hid (But (fun k => k = g ∨ slb v k) w wr) ∧ Hid (∀ k, slb v' k → slb v k ∨ w.heap.size ≤ k)) (fun i _ => m - (intOf i).toNat)
  case atStart => exact ⟨0, v, Nat.zero_le _, rfl, hG, by rw [toL, List.append_nil]; exact HM.out, But.refl _ _, fun k h => .inl h⟩
  case round =>
    obtain ⟨k, v', hk, rfl, G1, M1, B1, O1⟩ := hrel
    clear hG
    by_cases hlt : k < m
    · obtain ⟨s1, c1, rfl⟩ := M1.out.slice
      have c0 := G1.cell 0
      have f0 := G1.frozen 0
      have z0 := G1.lt
      have hlen : (xs ++ toL n k).length = xs.length + k := by rw [List.length_append, toL_length]
      generalize hL : (xs ++ toL n k).length = q at *
      have HQ := Lib.hid hL
      have HQ2 := Lib.hid hlen
      have q0 : IntKind.i64.wrap (8 * (k : Int)) = 8 * (k : Int) := IntWalk.i64_in _ (by omega)
      have n0 : (8 * (k : Int)).toNat = 8 * k := by omega
      have j0 : (0 : Int) ≤ 8 * (k : Int) := by omega
      have j1 : 8 * (k : Int) < 64 := by omega
      clear hL hlen
      go_upto_region 6 with fail
      go_region_law (refine step_app_byte (w0 := wr.drew) (xs ++ toL n k) (byteOf n k) lo g rfl (.tmp 24) (.tmp 30) rfl rfl rfl (byte_shift n k) q HQ.out.symm rfl rfl M1.out (Nat.le_trans HLO.out B1.out.size) (byteOf_lt n k) (by have := HL.out; have := HQ.out; have := HQ2.out; omega) G1 ?_; rintro s5 c5 W5 M5 B5 O5 G5; have g5c := G5.cell 0; have g5f := G5.frozen 0; have g5z := G5.lt)
      all_goals
        clear c0 f0 z0 q0 n0 j0 j1
        go_wp2_with fail
        go_roundw
        case rel =>
          refine ⟨k + 1, .slice s5 (q + 1) c5, by omega, by go_num, ?_, ?_, ?_, ?_⟩
          · first | exact (G5.set_ 0 _) | exact (G5.set_ 0 _).drew
          · show Mine _ _ _ _
            rw [toL_last, ← List.append_assoc]
            refine Mine.but M5 (S := fun k => k = g) ?_ (fun i hi e => M5.apart G5 wt_ne (by rw [← e]; exact hi))
            first | exact But.set_ (S := fun k => k = g) (But.refl _ W5) (.inl rfl) 0 none _ | exact (But.set_ (S := fun k => k = g) (But.refl _ W5) (.inl rfl) 0 none _).drew
          · show But _ _ _
            have h := B1.out.drew.trans B5 (fun i hi h => by
              rcases O1.out i h with h | h
              · exact .inr h
              · exact absurd hi (by omega))
            first | exact h.set_ (.inl (.inl rfl)) 0 none _ | exact (h.set_ (.inl (.inl rfl)) 0 none _).drew
          · intro i hi
            rcases O5 i hi with h | h
            · exact O1.out i h
            · exact .inr (Nat.le_trans B1.out.size h)
        case measure => simp [intOf]; omega
    · have hkm : k = m := by omega
      have hdk : decide ((k : Int) < 8) = false := decide_eq_false (by omega)
      have HK := Lib.hid hkm
      clear hlt hkm
      go_wp2_with fail
      rw [rounds_succ]
      go_wp2_with fail
      go_end0
      rw [← HK.out]
      exact ⟨rfl, v', G1, M1.out, B1.out, O1.out⟩

/-- How many bytes a number is written in. -/
def sz8 (sz : Int) : Nat := (min sz 8).toNat
theorem put_any (g lo b : Nat) (sz : Int) (n : Nat) (xs : List Nat) (v : Value) (w : World) (hG : Bk w g 26 #[v]) (hM : Mine w lo v xs) (hlo : lo ≤ w.heap.size) (hN : Bk w b 27 #[.int .u64 (n : Int)])
    (hlen : xs.length + 8 ≤ 1000000) :
    Calls Try.prog 5 #[.pointer (some ⟨g, 0, none⟩), .int .i64 sz, .slice (some ⟨b, 0, none⟩) 1 1] w (Wrote g lo v (xs ++ toL n (sz8 sz)) w) := by
  by_cases h : 8 < sz
  · exact put_big g lo b sz n _ xs v w hG hM hlo hN hlen h (by unfold sz8; omega)
  · exact put_in g lo b sz n _ xs v w hG hM hlo hN hlen (by omega) (by unfold sz8; omega)

theorem Wrote.before {g lo : Nat} {v : Value} {ys : List Nat} {w w0 w' : World} {e : Ending} (h : Wrote g lo v ys w0 e w') (hb : Below w.heap.size w w0) : Wrote g lo v ys w e w' := by
  obtain ⟨h1, v', h2, h3, h4, h5⟩ := h
  refine ⟨h1, v', h2, h3, (But.of (S := fun k => k = g ∨ slb v k) hb).trans h4 (fun _ _ h => h), fun k hk => ?_⟩
  rcases h5 k hk with h | h
  · exact .inl h
  · exact .inr (Nat.le_trans hb.size h)
/-- Two calls that write, one behind the other. -/
theorem Wrote.behind {g lo : Nat} {v v1 : Value} {ys : List Nat} {a w1 w' : World} {e : Ending} (hB : But (fun k => k = g ∨ slb v k) a w1) (hO : ∀ k, slb v1 k → slb v k ∨ a.heap.size ≤ k) (h : Wrote g lo v1 ys w1 e w') : Wrote g lo v ys a e w' := by
  obtain ⟨h1, v', h2, h3, h4, h5⟩ := h
  refine ⟨h1, v', h2, h3, hB.trans h4 (fun i hi h => ?_), fun k hk => ?_⟩
  · rcases h with h | h
    · exact .inl h
    · rcases hO i h with h | h
      · exact .inr h
      · omega
  · rcases h5 k hk with h | h
    · exact hO k h
    · exact .inr (Nat.le_trans hB.size h)
/-- A number in as few bytes as it takes. -/
def countL (n : Nat) : List Nat := if n < 253 then toL n 1 else if n < 65536 then toL 253 1 ++ toL n 2 else if n < 4294967296 then toL 254 1 ++ toL n 4 else toL 255 1 ++ toL n 8
theorem countL_len (n : Nat) : (countL n).length ≤ 9 := by
  unfold countL
  split
  · rw [toL_length]; omega
  · split
    · rw [List.length_append, toL_length, toL_length]; omega
    · split
      · rw [List.length_append, toL_length, toL_length]; omega
      · rw [List.length_append, toL_length, toL_length]; omega
theorem countL_lt (n : Nat) : ∀ x ∈ countL n, x < 256 := by
  unfold countL
  intro x hx
  split at hx
  · exact toL_lt _ _ x hx
  · split at hx
    · rcases List.mem_append.1 hx with h | h <;> exact toL_lt _ _ x h
    · split at hx
      · rcases List.mem_append.1 hx with h | h <;> exact toL_lt _ _ x h
      · rcases List.mem_append.1 hx with h | h <;> exact toL_lt _ _ x h
set_option maxRecDepth 100000 in
set_option maxHeartbeats 1000000 in
theorem count_one (g lo n : Nat) (xs : List Nat) (v : Value) (w : World) (hG : Bk w g 26 #[v]) (hM : Mine w lo v xs) (hlo : lo ≤ w.heap.size) (hlen : xs.length + 16 ≤ 1000000) (hn : n < 253) :
    Calls Try.prog 8 #[.pointer (some ⟨g, 0, none⟩), .int .u64 (n : Int)] w (Wrote g lo v (xs ++ countL n) w) := by
  have hd : decide ((n : Int) < 253) = true := decide_eq_true (by omega)
  have HC := Lib.hid (show countL n = toL n (sz8 1) by unfold countL; rw [if_pos hn]; rfl)
  have HM := Lib.hid hM
  have HLO := Lib.hid hlo
  have HLN := Lib.hid hlen
  clear hM hlo hlen
  go_enter Try.func8, Try.ntmps8
  go_wp2_with fail
  have hA : Below w.heap.size w (w.alloc (.cells #[.int .u64 (n : Int)] 27)) := (Below.refl _ _).alloc (Nat.le_refl _) _
  refine (put_any g lo w.heap.size 1 n xs v _ (hG.alloc _) (HM.out.keep hA) (Nat.le_trans HLO.out hA.size) (Bk.new _ _ _) (by have := HLN.out; omega)).mono ?_
  rintro e w1 h
  have h := h.before hA
  rw [← HC.out] at h
  obtain ⟨rfl, v1, G1, M1, B1, O1⟩ := h
  go_wp2_with fail
  go_end0
  exact ⟨rfl, v1, G1, M1, B1, O1⟩

set_option maxRecDepth 100000 in
set_option maxHeartbeats 1000000 in
theorem count_three (g lo n : Nat) (xs : List Nat) (v : Value) (w : World) (hG : Bk w g 26 #[v]) (hM : Mine w lo v xs) (hlo : lo ≤ w.heap.size) (hlen : xs.length + 16 ≤ 1000000) (h1 : 253 ≤ n) (h2 : n < 65536) :
    Calls Try.prog 8 #[.pointer (some ⟨g, 0, none⟩), .int .u64 (n : Int)] w (Wrote g lo v (xs ++ countL n) w) := by
  have hd : decide ((n : Int) < 253) = false := decide_eq_false (by omega)
  have hd2 : decide ((n : Int) < 65536) = true := decide_eq_true (by omega)
  have HC := Lib.hid (show countL n = toL 253 (sz8 1) ++ toL n (sz8 2) by unfold countL; rw [if_neg (by omega), if_pos (by omega)]; rfl)
  have HM := Lib.hid hM
  have HLO := Lib.hid hlo
  have HLN := Lib.hid hlen
  clear hM hlo hlen
  go_enter Try.func8, Try.ntmps8
  go_wp2_with fail
  have hA : Below w.heap.size w (w.alloc (.cells #[.int .u64 253] 27)) := (Below.refl _ _).alloc (Nat.le_refl _) _
  refine (put_any g lo w.heap.size 1 253 xs v _ (hG.alloc _) (HM.out.keep hA) (Nat.le_trans HLO.out hA.size) (Bk.new _ _ _) (by have := HLN.out; omega)).mono ?_
  rintro e w1 h
  obtain ⟨rfl, v1, G1, M1, B1, O1⟩ := h.before hA
  have hl1 : (xs ++ toL 253 (sz8 1)).length = xs.length + 1 := by rw [List.length_append, toL_length]; rfl
  have HL1 := Lib.hid hl1
  clear hl1 hA hG
  go_wp2_with fail
  have hA : Below w1.heap.size w1 (w1.alloc (.cells #[.int .u64 (n : Int)] 27)) := (Below.refl _ _).alloc (Nat.le_refl _) _
  refine (put_any g lo w1.heap.size 2 n _ v1 _ (G1.alloc _) (M1.keep hA) (Nat.le_trans (Nat.le_trans HLO.out B1.size) hA.size) (Bk.new _ _ _) (by have := HLN.out; have := HL1.out; omega)).mono ?_
  rintro e w2 h
  have h := (h.before hA).behind B1 O1
  rw [List.append_assoc, ← HC.out] at h
  obtain ⟨rfl, v2, G2, M2, B2, O2⟩ := h
  go_wp2_with fail
  go_end0
  exact ⟨rfl, v2, G2, M2, B2, O2⟩

set_option maxRecDepth 100000 in
set_option maxHeartbeats 1000000 in
theorem count_five (g lo n : Nat) (xs : List Nat) (v : Value) (w : World) (hG : Bk w g 26 #[v]) (hM : Mine w lo v xs) (hlo : lo ≤ w.heap.size) (hlen : xs.length + 16 ≤ 1000000) (h1 : 65536 ≤ n) (h2 : n < 4294967296) :
    Calls Try.prog 8 #[.pointer (some ⟨g, 0, none⟩), .int .u64 (n : Int)] w (Wrote g lo v (xs ++ countL n) w) := by
  have hd : decide ((n : Int) < 253) = false := decide_eq_false (by omega)
  have hd2 : decide ((n : Int) < 65536) = false := decide_eq_false (by omega)
  have hd3 : decide ((n : Int) < 4294967296) = true := decide_eq_true (by omega)
  have HC := Lib.hid (show countL n = toL 254 (sz8 1) ++ toL n (sz8 4) by unfold countL; rw [if_neg (by omega), if_neg (by omega), if_pos (by omega)]; rfl)
  have HM := Lib.hid hM
  have HLO := Lib.hid hlo
  have HLN := Lib.hid hlen
  clear hM hlo hlen
  go_enter Try.func8, Try.ntmps8
  go_wp2_with fail
  have hA : Below w.heap.size w (w.alloc (.cells #[.int .u64 254] 27)) := (Below.refl _ _).alloc (Nat.le_refl _) _
  refine (put_any g lo w.heap.size 1 254 xs v _ (hG.alloc _) (HM.out.keep hA) (Nat.le_trans HLO.out hA.size) (Bk.new _ _ _) (by have := HLN.out; omega)).mono ?_
  rintro e w1 h
  obtain ⟨rfl, v1, G1, M1, B1, O1⟩ := h.before hA
  have hl1 : (xs ++ toL 254 (sz8 1)).length = xs.length + 1 := by rw [List.length_append, toL_length]; rfl
  have HL1 := Lib.hid hl1
  clear hl1 hA hG
  go_wp2_with fail
  have hA : Below w1.heap.size w1 (w1.alloc (.cells #[.int .u64 (n : Int)] 27)) := (Below.refl _ _).alloc (Nat.le_refl _) _
  refine (put_any g lo w1.heap.size 4 n _ v1 _ (G1.alloc _) (M1.keep hA) (Nat.le_trans (Nat.le_trans HLO.out B1.size) hA.size) (Bk.new _ _ _) (by have := HLN.out; have := HL1.out; omega)).mono ?_
  rintro e w2 h
  have h := (h.before hA).behind B1 O1
  rw [List.append_assoc, ← HC.out] at h
  obtain ⟨rfl, v2, G2, M2, B2, O2⟩ := h
  go_wp2_with fail
  go_end0
  exact ⟨rfl, v2, G2, M2, B2, O2⟩

set_option maxRecDepth 100000 in
set_option maxHeartbeats 1000000 in
theorem count_nine (g lo n : Nat) (xs : List Nat) (v : Value) (w : World) (hG : Bk w g 26 #[v]) (hM : Mine w lo v xs) (hlo : lo ≤ w.heap.size) (hlen : xs.length + 16 ≤ 1000000) (h1 : 4294967296 ≤ n) :
    Calls Try.prog 8 #[.pointer (some ⟨g, 0, none⟩), .int .u64 (n : Int)] w (Wrote g lo v (xs ++ countL n) w) := by
  have hd : decide ((n : Int) < 253) = false := decide_eq_false (by omega)
  have hd2 : decide ((n : Int) < 65536) = false := decide_eq_false (by omega)
  have hd3 : decide ((n : Int) < 4294967296) = false := decide_eq_false (by omega)
  have HC := Lib.hid (show countL n = toL 255 (sz8 1) ++ toL n (sz8 8) by unfold countL; rw [if_neg (by omega), if_neg (by omega), if_neg (by omega)]; rfl)
  have HM := Lib.hid hM
  have HLO := Lib.hid hlo
  have HLN := Lib.hid hlen
  clear hM hlo hlen
  go_enter Try.func8, Try.ntmps8
  go_wp2_with fail
  have hA : Below w.heap.size w (w.alloc (.cells #[.int .u64 255] 27)) := (Below.refl _ _).alloc (Nat.le_refl _) _
  refine (put_any g lo w.heap.size 1 255 xs v _ (hG.alloc _) (HM.out.keep hA) (Nat.le_trans HLO.out hA.size) (Bk.new _ _ _) (by have := HLN.out; omega)).mono ?_
  rintro e w1 h
  obtain ⟨rfl, v1, G1, M1, B1, O1⟩ := h.before hA
  have hl1 : (xs ++ toL 255 (sz8 1)).length = xs.length + 1 := by rw [List.length_append, toL_length]; rfl
  have HL1 := Lib.hid hl1
  clear hl1 hA hG
  go_wp2_with fail
  have hA : Below w1.heap.size w1 (w1.alloc (.cells #[.int .u64 (n : Int)] 27)) := (Below.refl _ _).alloc (Nat.le_refl _) _
  refine (put_any g lo w1.heap.size 8 n _ v1 _ (G1.alloc _) (M1.keep hA) (Nat.le_trans (Nat.le_trans HLO.out B1.size) hA.size) (Bk.new _ _ _) (by have := HLN.out; have := HL1.out; omega)).mono ?_
  rintro e w2 h
  have h := (h.before hA).behind B1 O1
  rw [List.append_assoc, ← HC.out] at h
  obtain ⟨rfl, v2, G2, M2, B2, O2⟩ := h
  go_wp2_with fail
  go_end0
  exact ⟨rfl, v2, G2, M2, B2, O2⟩

theorem count_any (g lo n : Nat) (xs : List Nat) (v : Value) (w : World) (hG : Bk w g 26 #[v]) (hM : Mine w lo v xs) (hlo : lo ≤ w.heap.size) (hlen : xs.length + 16 ≤ 1000000) :
    Calls Try.prog 8 #[.pointer (some ⟨g, 0, none⟩), .int .u64 (n : Int)] w (Wrote g lo v (xs ++ countL n) w) := by
  by_cases h1 : n < 253
  · exact count_one g lo n xs v w hG hM hlo hlen h1
  by_cases h2 : n < 65536
  · exact count_three g lo n xs v w hG hM hlo hlen (by omega) h2
  by_cases h3 : n < 4294967296
  · exact count_five g lo n xs v w hG hM hlo hlen (by omega) h3
  · exact count_nine g lo n xs v w hG hM hlo hlen (by omega)

/-- Bytes that lie in no block of these. -/
def BsN (w : World) (S : Nat → Prop) (v : Value) (xs : List Nat) : Prop := ∃ s cap, v = .slice s xs.length cap ∧ xs.length ≤ cap ∧ cap < 9223372036854775808 ∧ (∀ x ∈ xs, x < 256) ∧
  (xs ≠ [] → ∃ b o, s = some ⟨b, o, none⟩ ∧ b < w.heap.size ∧ ¬ S b ∧ ∀ i, i < xs.length → w.cell? ⟨b, o + i, none⟩ = some (.int .u8 ((nth xs i : Nat) : Int)))
theorem BsN.bs {w : World} {S : Nat → Prop} {v : Value} {xs : List Nat} (h : BsN w S v xs) : BsV w w.heap.size v xs := by
  obtain ⟨s, cap, rfl, h1, h2, h3, h4⟩ := h
  refine ⟨s, cap, rfl, h1, h2, h3, fun hne => ?_⟩
  obtain ⟨b, o, e, hb, _, hc⟩ := h4 hne
  exact ⟨b, o, e, hb, hc⟩
theorem BsN.but {w w' : World} {S : Nat → Prop} {v : Value} {xs : List Nat} (h : BsN w S v xs) (hb : But S w w') : BsN w' S v xs := by
  obtain ⟨s, cap, rfl, h1, h2, h3, h4⟩ := h
  refine ⟨s, cap, rfl, h1, h2, h3, fun hne => ?_⟩
  obtain ⟨b, o, e, hlt, hn, hc⟩ := h4 hne
  exact ⟨b, o, e, Nat.lt_of_lt_of_le hlt hb.size, hn, fun i hi => (hb.cell (p := ⟨b, o + i, none⟩) hlt hn).trans (hc i hi)⟩
theorem BsN.keep {w w' : World} {S : Nat → Prop} {v : Value} {xs : List Nat} (h : BsN w S v xs) (hb : Below w.heap.size w w') : BsN w' S v xs := h.but (But.of hb)
theorem BsN.of_bs {w : World} {B : Nat} {S : Nat → Prop} {v : Value} {xs : List Nat} (h : BsV w B v xs) (hB : B ≤ w.heap.size) (hS : ∀ k, k < B → ¬ S k) : BsN w S v xs := by
  obtain ⟨s, cap, rfl, h1, h2, h3, h4⟩ := h
  refine ⟨s, cap, rfl, h1, h2, h3, fun hne => ?_⟩
  obtain ⟨b, o, e, hlt, hc⟩ := h4 hne
  exact ⟨b, o, e, by omega, hS b hlt, hc⟩
theorem BsN.mono {w : World} {S S' : Nat → Prop} {v : Value} {xs : List Nat} (h : BsN w S v xs) (hS : ∀ k, k < w.heap.size → S' k → S k) : BsN w S' v xs := by
  obtain ⟨s, cap, rfl, h1, h2, h3, h4⟩ := h
  refine ⟨s, cap, rfl, h1, h2, h3, fun hne => ?_⟩
  obtain ⟨b, o, e, hlt, hn, hc⟩ := h4 hne
  exact ⟨b, o, e, hlt, fun h => hn (hS b hlt h), hc⟩
/-- Parts in a row, none of them in a block of these. -/
def PartsN (w : World) (S : Nat → Prop) (sp : Option Addr) (ps : List (List Nat)) : Prop := ps ≠ [] → ∃ pb po, sp = some ⟨pb, po, none⟩ ∧ pb < w.heap.size ∧ ¬ S pb ∧ ∀ k ys, ps[k]? = some ys → ∃ u, w.cell? ⟨pb, po + k, none⟩ = some u ∧ BsN w S u ys
theorem partsN_one {w : World} {h : Nat} {S : Nat → Prop} {ys : List Nat} {u : TypeId} {v : Value} (hv : BsN w S v ys) (hh : Bk w h u #[v]) (hS : ¬ S h) : PartsN w S (some ⟨h, 0, none⟩) [ys] := by
  intro _
  refine ⟨h, 0, rfl, hh.lt, hS, fun k zs hk => ?_⟩
  match k with
  | 0 =>
    obtain rfl : ys = zs := by simpa using hk
    exact ⟨v, hh.cell 0, hv⟩
  | k + 1 => simp at hk
theorem flat_len (ps : List (List Nat)) (k : Nat) (xs : List Nat) (h : ps[k]? = some xs) : (ps.take k).flatten.length + xs.length ≤ ps.flatten.length := by
  have e : ps.take (k + 1) ++ ps.drop (k + 1) = ps := List.take_append_drop _ _
  have e2 : ps.take (k + 1) = ps.take k ++ [xs] := by rw [List.take_add_one, h]; rfl
  have e3 : ps.flatten = ((ps.take k ++ [xs]) ++ ps.drop (k + 1)).flatten := by rw [← e2, e]
  rw [e3, List.flatten_append, List.flatten_append, List.length_append, List.length_append]
  simp
theorem flat_step (ps : List (List Nat)) (k : Nat) (xs : List Nat) (h : ps[k]? = some xs) : (ps.take (k + 1)).flatten = (ps.take k).flatten ++ xs := by
  rw [List.take_add_one, h]
  simp
set_option maxRecDepth 100000 in
set_option maxHeartbeats 1000000 in
theorem raw_any (g lo : Nat) (sp : Option Addr) (kc : Nat) (ps : List (List Nat)) (xs : List Nat) (v : Value) (w : World) (hG : Bk w g 26 #[v]) (hM : Mine w lo v xs) (hlo : lo ≤ w.heap.size) (hlen : xs.length + ps.flatten.length ≤ 1000000) (hk31 : ps.length < 2147483648)
    (hp : PartsN w (fun k => k = g ∨ slb v k) sp ps) :
    Calls Try.prog 10 #[.pointer (some ⟨g, 0, none⟩), .slice sp ps.length kc] w (Wrote g lo v (xs ++ ps.flatten) w) := by
  have HM := Lib.hid hM
  have HLO := Lib.hid hlo
  have HLN := Lib.hid hlen
  have HP := Lib.hid hp
  obtain ⟨m, hm⟩ : ∃ m, m = ps.length := ⟨_, rfl⟩
  rw [← hm] at hk31 ⊢
  have HMM := Lib.hid hm
  clear hM hlo hlen hp hm
  go_enter Try.func10, Try.ntmps10
  go_wp2_with fail
  go_loopw [8] (fun i wr => ∃ (k : Nat) (v' : Value), k ≤ m ∧ i = .int .i64 k ∧ Bk wr g 26 #[v'] ∧ Hid (Mine wr lo v' (xs ++ (ps.take k).flatten)) ∧ Hid (But (fun k => k = g ∨ slb v k) w wr) ∧ Hid (∀ k, slb v' k → slb v k ∨ w.heap.size ≤ k)) (fun i _ => m - (intOf i).toNat)
  case atStart => exact ⟨0, v, Nat.zero_le _, rfl, hG, by rw [List.take_zero, List.flatten_nil, List.append_nil]; exact HM.out, But.refl _ _, fun k h => .inl h⟩
  case round =>
    obtain ⟨k, v', hk, rfl, G1, M1, B1, O1⟩ := hrel
    clear hG
    by_cases hlt : k < m
    · obtain ⟨ys, hys⟩ : ∃ ys, ps[k]? = some ys := ⟨_, List.getElem?_eq_getElem (by rw [← HMM.out]; exact hlt)⟩
      obtain ⟨pb, po, rfl, hpb, hpn, hparts⟩ := HP.out (by intro e; rw [e] at hys; simp at hys)
      obtain ⟨u, hu, hbu⟩ := hparts k ys hys
      have hcell : wr.cell? ⟨pb, po + k, none⟩ = some u := (B1.out.cell (p := ⟨pb, po + k, none⟩) hpb hpn).trans hu
      have hbs := (hbu.but B1.out).bs
      have hfl := flat_len ps k ys hys
      have hl2 : (xs ++ (ps.take k).flatten).length + ys.length ≤ 1048576 := by rw [List.length_append]; have := HLN.out; omega
      obtain ⟨v5, W5, hrun, M5, B5, O5⟩ := app3 _ ys v' u lo wr M1.out (Nat.le_trans HLO.out B1.out.size) hbs hl2
      obtain ⟨s5, k5, e5⟩ := M5.slice
      generalize ((xs ++ (ps.take k).flatten) ++ ys).length = q5 at e5
      subst e5
      have G5 := B5.keep G1 (M1.out.apart G1 wt_ne)
      have HFS := Lib.hid (flat_step ps k ys hys)
      have c0 := G1.cell 0
      have f0 := G1.frozen 0
      have z0 := G1.lt
      have c5 := G5.cell 0
      have f5 := G5.frozen 0
      have z5 := G5.lt
      have HBU := Lib.hid hbu
      have M5 := Lib.hid M5
      have B5 := Lib.hid B5
      have O5 := Lib.hid O5
      obtain ⟨su, cu, rfl, _⟩ := hbs
      clear hparts hu hys hbu hl2 hfl
      go_wp2_with (at_builtin; refine wpList_app (v1 := v') (v2 := .slice su ys.length cu) (v := .slice s5 q5 k5) rfl (.tmp 16) (.tmp 17) rfl rfl rfl rfl hrun ?_)
      go_roundw
      case rel =>
        refine ⟨k + 1, .slice s5 q5 k5, by omega, by go_num, G5.set_ 0 _, ?_, ?_, ?_⟩
        · show Mine _ _ _ _
          rw [HFS.out, ← List.append_assoc]
          exact Mine.but M5.out (S := fun k => k = g) (But.set_ (S := fun k => k = g) (But.refl _ W5) (.inl rfl) 0 none _) (fun i hi e => M5.out.apart G5 wt_ne (by rw [← e]; exact hi))
        · show But _ _ _
          have h := B1.out.trans B5.out (fun i hi h => by
            rcases O1.out i h with h | h
            · exact .inr h
            · exact absurd hi (by omega))
          exact h.set_ (.inl (.inl rfl)) 0 none _
        · intro i hi
          rcases O5.out i hi with h | h
          · exact O1.out i h
          · exact .inr (Nat.le_trans B1.out.size h)
      case measure => simp [intOf]; omega
    · have hkm : k = m := by omega
      have hdk : decide (k < m) = false := decide_eq_false (by omega)
      have e1 : ps.take k = ps := List.take_of_length_le (by have := HMM.out; omega)
      rw [e1] at M1
      clear hlt hkm e1
      go_wp2_with fail
      go_end0
      exact ⟨rfl, v', G1, M1.out, B1.out, O1.out⟩
end Go.Proofs.Ytfflgimbgmbpaaa
