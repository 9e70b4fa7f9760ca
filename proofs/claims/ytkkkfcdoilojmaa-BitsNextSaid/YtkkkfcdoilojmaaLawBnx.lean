/-
  What is proved: for any short bits, any two spans and any limit the law BitsNext returns true, and its arguments read behind the call as they read before it. No condition.
-/
import Derived.Test.YtkkkfcdoilojmaaRcE
import Derived.Test.YtkkkfcdoilojmaaBitM
import Derived.Test.YtkkkfcdoilojmaaBitX
import Derived.Test.YtkkkfcdoilojmaaOpen
import Derived.Lib.QuietBelow
namespace Go.Proofs.Ytkkkfcdoilojmaa.bitsNext
open Go.ChangeShapes Go.WideShapes Go.ChangeAt Go.RowKit
set_option linter.unusedVariables false

theorem own : ownKnob Try.prog.godebug = none := by kernel_rfl
theorem laidOut : laidOutB Try.prog = true := by kernel_rfl
theorem wf_u32 {z : Int} (h : (Lit.int .u32 z).wf = true) : 0 ≤ z ∧ z < 4294967296 := by
  simp [Lit.wf, IntKind.min, IntKind.max, IntKind.signed, IntKind.bits] at h
  omega
theorem two_of {zs : List Int} (hl : zs.length = 2) : ∃ s0 s1, zs = [s0, s1] := by
  match zs, hl with
  | [a, b], _ => exact ⟨a, b, rfl⟩
theorem wf_i64' {z : Int} (h : (Lit.int .i64 z).wf = true) : -9223372036854775808 ≤ z ∧ z ≤ 9223372036854775807 := by
  simp [Lit.wf, IntKind.min, IntKind.max, IntKind.signed, IntKind.bits] at h
  omega

set_option maxRecDepth 100000 in
set_option maxHeartbeats 1000000 in
theorem next_bad (b t l : Nat) (tk sh : Int) (o : Bool) (w : World) (h : o = false ∨ o = true ∧ sh < 1 ∨ o = true ∧ ¬ sh < 1 ∧ 1099511627776 < sh)
    (HT : Hid (∀ W : World, Calls Try.prog 17 #[.int .u32 (b : Int)] W fun e w' => e = .returned (.tuple #[nv t, .bool o]) ∧ Below W.heap.size W w')) :
    Calls Try.prog 28 #[.int .u32 (b : Int), .int .i64 tk, .int .i64 sh, nv l] w fun e w' => e = .returned (.tuple #[.int .u32 0, .bool false]) ∧ Below w.heap.size w w' := by
  rcases h with rfl | ⟨rfl, h⟩ | ⟨rfl, h1, h⟩
  · go_enter Try.func28, Try.ntmps28
    go_wp2_with fail
    refine (HT.out _).mono ?_
    rintro e w1 ⟨rfl, hb1⟩
    have hW : Below w.heap.size w w1 := below_step ((Below.refl _ _).alloc (Nat.le_refl _) _) (by simp) hb1
    go_wp2_with fail
    exact bodyPost_ret (results_tmp2 rfl _ _ _) rfl ⟨rfl, hW.alloc hW.size _⟩
  · have hd : decide (sh < 1) = true := decide_eq_true h
    go_enter Try.func28, Try.ntmps28
    go_wp2_with fail
    refine (HT.out _).mono ?_
    rintro e w1 ⟨rfl, hb1⟩
    have hW : Below w.heap.size w w1 := below_step ((Below.refl _ _).alloc (Nat.le_refl _) _) (by simp) hb1
    go_wp2_with fail
    exact bodyPost_ret (results_tmp2 rfl _ _ _) rfl ⟨rfl, hW.alloc hW.size _⟩
  · have hd : decide (sh < 1) = false := decide_eq_false h1
    have hd2 : decide (1099511627776 < sh) = true := decide_eq_true h
    go_enter Try.func28, Try.ntmps28
    go_wp2_with fail
    refine (HT.out _).mono ?_
    rintro e w1 ⟨rfl, hb1⟩
    have hW : Below w.heap.size w w1 := below_step ((Below.refl _ _).alloc (Nat.le_refl _) _) (by simp) hb1
    go_wp2_with fail
    exact bodyPost_ret (results_tmp2 rfl _ _ _) rfl ⟨rfl, hW.alloc hW.size _⟩


set_option maxRecDepth 100000 in
set_option maxHeartbeats 4000000 in
theorem walk_any (b r l : Nat) (s0 s1 : Int) (o : Bool) (w : World)
    (HX : Hid (∀ W : World, Calls Try.prog 28 #[.int .u32 (b : Int), .int .i64 s0, .int .i64 s1, .agg #[.int .u64 (wd0 l : Int), .int .u64 (wd1 l : Int), .int .u64 (wd2 l : Int), .int .u64 (wd3 l : Int)]] W fun e w' => e = .returned (.tuple #[.int .u32 (r : Int), .bool o]) ∧ Below W.heap.size W w'))
    (HO : Hid (∀ W : World, Calls Try.prog 24 #[.agg #[.int .u64 (wd0 l : Int), .int .u64 (wd1 l : Int), .int .u64 (wd2 l : Int), .int .u64 (wd3 l : Int)]] W fun e w' => ∃ v, e = .returned v ∧ BX w' v l 256 ∧ Below W.heap.size W w'))
    (HR : Hid (∀ v W, BX W v l 256 → Calls Try.prog 29 #[.int .u32 (b : Int), .int .i64 s0, .int .i64 s1, v] W fun e w' => e = .returned (.tuple #[.int .u32 (r : Int), .bool o]) ∧ Below W.heap.size W w')) :
    Calls Try.prog 6 #[.int .u32 (b : Int), .agg #[.int .i64 s0, .int .i64 s1], nv l] w fun e w' => e = .returned (.bool true) ∧ Below w.heap.size w w' := by
  go_enter Try.func6, Try.ntmps6
  go_wp2_with fail
  refine (means_any _).mono ?_
  rintro e w1 ⟨rfl, hb1⟩
  have S : Bk w1 w.heap.size 55 #[.int .i64 s0, .int .i64 s1] := Bk.keep ((Bk.new _ _ _).alloc _) hb1
  have L : Bk w1 (w.heap.size + 1) 24 (A4 (wd0 l) (wd1 l) (wd2 l) (wd3 l)) := Bk.keep (Bk.new' _ _ _ (by simp)) hb1
  have hW : Below w.heap.size w w1 := below_step (((Below.refl _ _).alloc (Nat.le_refl _) _).alloc (by simp) _) (by simp; omega) hb1
  clear hb1
  obtain ⟨gL, hgL⟩ : ∃ gL, gL = w.heap.size + 1 := ⟨_, rfl⟩
  rw [← hgL] at L
  generalize hgd : w.heap.size = gS at *
  rw [← hgL]
  clear hgL
  have p0 : w1.cell? ⟨gS, 0, none⟩ = some (.int .i64 s0) := S.cell 0
  have p1 : w1.cell? ⟨gS, 1, none⟩ = some (.int .i64 s1) := S.cell 1
  obtain ⟨l0, l1, l2, l3, l4, l5, l6, l7, zl⟩ := L.f4
  go_wp2_with fail
  refine (HX.out _).mono ?_
  rintro e w2 ⟨rfl, hb⟩
  have hsz := (Nat.le_trans (Nat.le_of_eq hgd.symm) hW.size)
  have S := S.keep hb
  have L := L.keep hb
  have hW := hW.trans (hb.mono hsz)
  clear hb l0 l1 l2 l3 l4 l5 l6 l7 zl p0 p1 hsz
  go_upto_region 4 with fail
  have zS := S.lt
  generalize w2 = W at *
  have p0 : W.cell? ⟨gS, 0, none⟩ = some (.int .i64 s0) := S.cell 0
  have p1 : W.cell? ⟨gS, 1, none⟩ = some (.int .i64 s1) := S.cell 1
  obtain ⟨l0, l1, l2, l3, l4, l5, l6, l7, zl⟩ := L.f4
  go_cut [9, 10] (fun s9 s10 wx => s9 = .int .u32 (r : Int) ∧ s10 = .bool o ∧ Below W.heap.size W wx)
  case first =>
    go_region_held3 (fun w' => w'.cell? ⟨gS, 0, none⟩ = some (.int .i64 s0) ∧ w'.cell? ⟨gS, 1, none⟩ = some (.int .i64 s1) ∧ w'.cell? ⟨gL, 0, none⟩ = some (.int .u64 (wd0 l : Int)) ∧ w'.cell? ⟨gL, 1, none⟩ = some (.int .u64 (wd1 l : Int)) ∧ w'.cell? ⟨gL, 2, none⟩ = some (.int .u64 (wd2 l : Int)) ∧ w'.cell? ⟨gL, 3, none⟩ = some (.int .u64 (wd3 l : Int)))
      ((refine ⟨?_, ?_, ?_, ?_, ?_, ?_⟩; (focus (refine cellS (w := W) ?_ p0; repeat' (first | with_reducible exact Below.refl _ _ | with_reducible assumption | with_reducible refine Below.drew ?_ | with_reducible refine Below.setCell ?_ ?_ _ | with_reducible refine Below.alloc ?_ ?_ _ | with_reducible exact Nat.le_refl _ | omega | (simp; done) | (simp; omega) | (simp [World.drew]; done) | (simp [World.drew]; omega)))); (focus (refine cellS (w := W) ?_ p1; repeat' (first | with_reducible exact Below.refl _ _ | with_reducible assumption | with_reducible refine Below.drew ?_ | with_reducible refine Below.setCell ?_ ?_ _ | with_reducible refine Below.alloc ?_ ?_ _ | with_reducible exact Nat.le_refl _ | omega | (simp; done) | (simp; omega) | (simp [World.drew]; done) | (simp [World.drew]; omega)))); (focus (refine cellS (w := W) ?_ l0; repeat' (first | with_reducible exact Below.refl _ _ | with_reducible assumption | with_reducible refine Below.drew ?_ | with_reducible refine Below.setCell ?_ ?_ _ | with_reducible refine Below.alloc ?_ ?_ _ | with_reducible exact Nat.le_refl _ | omega | (simp; done) | (simp; omega) | (simp [World.drew]; done) | (simp [World.drew]; omega)))); (focus (refine cellS (w := W) ?_ l1; repeat' (first | with_reducible exact Below.refl _ _ | with_reducible assumption | with_reducible refine Below.drew ?_ | with_reducible refine Below.setCell ?_ ?_ _ | with_reducible refine Below.alloc ?_ ?_ _ | with_reducible exact Nat.le_refl _ | omega | (simp; done) | (simp; omega) | (simp [World.drew]; done) | (simp [World.drew]; omega)))); (focus (refine cellS (w := W) ?_ l2; repeat' (first | with_reducible exact Below.refl _ _ | with_reducible assumption | with_reducible refine Below.drew ?_ | with_reducible refine Below.setCell ?_ ?_ _ | with_reducible refine Below.alloc ?_ ?_ _ | with_reducible exact Nat.le_refl _ | omega | (simp; done) | (simp; omega) | (simp [World.drew]; done) | (simp [World.drew]; omega)))); (focus (refine cellS (w := W) ?_ l3; repeat' (first | with_reducible exact Below.refl _ _ | with_reducible assumption | with_reducible refine Below.drew ?_ | with_reducible refine Below.setCell ?_ ?_ _ | with_reducible refine Below.alloc ?_ ?_ _ | with_reducible exact Nat.le_refl _ | omega | (simp; done) | (simp; omega) | (simp [World.drew]; done) | (simp [World.drew]; omega))))))
      (first
      | (go_at_call 24
         with_reducible refine (HO.out _).mono ?_
         rintro e wA ⟨uA, rfl, BA, hbwA⟩
         have hEwA : Below W.heap.size W wA := by
           refine below_step ?_ ?_ hbwA
           · repeat' (first | with_reducible exact Below.refl _ _ | with_reducible assumption | with_reducible refine Below.drew ?_ | with_reducible refine Below.setCell ?_ ?_ _ | with_reducible refine Below.alloc ?_ ?_ _ | with_reducible exact Nat.le_refl _ | omega | (simp; done) | (simp; omega) | (simp [World.drew]; done) | (simp [World.drew]; omega))
           · first | omega | (simp; done) | (simp; omega) | (simp [World.drew]; done) | (simp [World.drew]; omega)
         have zwA := hEwA.size
         have BAh := Lib.hid BA
         obtain ⟨sA, cA, eA, _⟩ := BA.slice
         subst eA)
      | (go_at_call 29
         refine (HR.out _ _ (by first | exact BAh.out | exact BAh.out.drew)).mono ?_
         rintro e wN ⟨rfl, hbwN⟩
         have hEwN : Below W.heap.size W wN := by
           refine below_step ?_ ?_ hbwN
           · repeat' (first | with_reducible exact Below.refl _ _ | with_reducible assumption | with_reducible refine Below.drew ?_ | with_reducible refine Below.setCell ?_ ?_ _ | with_reducible refine Below.alloc ?_ ?_ _ | with_reducible exact Nat.le_refl _ | omega | (simp; done) | (simp; omega) | (simp [World.drew]; done) | (simp [World.drew]; omega))
           · first | omega | (simp; done) | (simp; omega) | (simp [World.drew]; done) | (simp [World.drew]; omega)
         have zwN := hEwN.size))
    all_goals
      go_wp2_with fail
      go_meet
      refine ⟨rfl, rfl, ?_⟩
      repeat' (first | with_reducible exact Below.refl _ _ | with_reducible assumption | with_reducible refine Below.drew ?_ | with_reducible refine Below.setCell ?_ ?_ _ | with_reducible refine Below.alloc ?_ ?_ _ | with_reducible exact Nat.le_refl _ | omega | (simp; done) | (simp; omega) | (simp [World.drew]; done) | (simp [World.drew]; omega))
  case rest =>
    obtain ⟨rfl, rfl, hb⟩ := hcut
    have hsz := (Nat.le_trans (Nat.le_of_eq hgd.symm) hW.size)
    have hW := hW.trans (hb.mono hsz)
    clear hb l0 l1 l2 l3 l4 l5 l6 l7 zl p0 p1 hsz S L zS
    have hd1 : decide (r = r) = true := decide_eq_true rfl
    cases o
    all_goals
      go_wp2_with fail
      go_ret
      exact ⟨rfl, hW⟩

theorem cmp_gt {a b : Nat} (h : b < a) : cmpI a b = 1 := by unfold cmpI; rw [if_neg (by omega), if_neg (by omega)]
theorem cmp_le_of {a b : Nat} (h : a ≤ b) : cmpI a b ≤ 0 := by unfold cmpI; split <;> (try split) <;> omega
/-- What comes of it is the lesser of the two. -/
theorem scale_next (T c s l : Nat) (hs : 1 ≤ s) (hl : l < M256) :
    (scaleO T c s = true → l < nextQ T c s) ∧ (scaleO T c s = false → scaleV T c s = nextQ T c s) := by
  unfold scaleO scaleV nextQ
  by_cases h : M256 ≤ T * c
  · rw [if_pos h, if_pos h, decide_eq_true h]
    refine ⟨fun ht => ?_, fun hf => ?_⟩
    · have : M256 ≤ T / s * c := by simpa using ht
      omega
    · have : ¬ M256 ≤ T / s * c := by simpa using hf
      exact Nat.mod_eq_of_lt (by omega)
  · rw [if_neg h, if_neg h, decide_eq_false h]
    exact ⟨fun ht => by simp at ht, fun _ => rfl⟩
theorem walk (b : Nat) (s0 s1 : Int) (l : Nat) (w : World) (hb : b < 4294967296) (h0 : -9223372036854775808 ≤ s0 ∧ s0 ≤ 9223372036854775807) (h1 : -9223372036854775808 ≤ s1 ∧ s1 ≤ 9223372036854775807) (hl : l < M256) :
    Calls Try.prog 6 #[.int .u32 (b : Int), .agg #[.int .i64 s0, .int .i64 s1], nv l] w fun e w' => e = .returned (.bool true) ∧ Below w.heap.size w w' := by
  have HT := fun W => target_any b W hb
  have HT3 := fun W => target3_any b W hb
  have HO := fun W => of2_any l W hl
  by_cases hok : tgtV b = 0
  · rw [decide_eq_true hok] at HT HT3
    exact walk_any b 0 l s0 s1 false w (fun W => next_bad b _ l s0 s1 false W (.inl rfl) HT) HO (fun v W h => next3_bad b _ s0 s1 false v l W h (.inl rfl) HT3)
  rw [decide_eq_false hok] at HT HT3
  by_cases hs : s1 < 1
  · exact walk_any b 0 l s0 s1 false w (fun W => next_bad b _ l s0 s1 true W (.inr (.inl ⟨rfl, hs⟩)) HT) HO (fun v W h => next3_bad b _ s0 s1 true v l W h (.inr (.inl ⟨rfl, hs⟩)) HT3)
  by_cases hs2 : 1099511627776 < s1
  · exact walk_any b 0 l s0 s1 false w (fun W => next_bad b _ l s0 s1 true W (.inr (.inr ⟨rfl, hs, hs2⟩)) HT) HO (fun v W h => next3_bad b _ s0 s1 true v l W h (.inr (.inr ⟨rfl, hs, hs2⟩)) HT3)
  obtain ⟨s, rfl⟩ : ∃ s : Nat, s1 = (s : Int) := ⟨s1.toNat, by omega⟩
  obtain ⟨c, hc⟩ : ∃ c : Nat, min (max s0 ((s : Int) / 4)) (4 * (s : Int)) = (c : Int) := ⟨(min (max s0 ((s : Int) / 4)) (4 * (s : Int))).toNat, by omega⟩
  have hc4 : c ≤ 4 * s := by omega
  have hB : (4398046511104 : Nat) < B64 := by rw [B64_pow]; exact Nat.lt_of_lt_of_le (show 4398046511104 < 2 ^ 43 by decide) (Nat.pow_le_pow_right (by omega) (by omega))
  have hBM : B64 < M256 := by rw [B64_pow, M256_pow]; exact Nat.pow_lt_pow_right (by omega) (by omega)
  obtain ⟨m1, m2⟩ := scale_next (tgtV b) c s l (by omega) hl
  obtain ⟨r, hr⟩ : ∃ r, r = if l < nextQ (tgtV b) c s then shortN l else shortN (nextQ (tgtV b) c s) := ⟨_, rfl⟩
  have HN : ∀ W : World, Calls Try.prog 28 #[.int .u32 (b : Int), .int .i64 s0, .int .i64 (s : Int), nv l] W fun e w' => e = .returned (.tuple #[.int .u32 (r : Int), .bool true]) ∧ Below W.heap.size W w' := by
    intro W
    have HS := fun W => scale_any (tgtV b) c s W (tgtV_lt b) (by omega) (by omega) (by omega)
    have HFl := fun W => short_any l W hl
    by_cases ho : scaleO (tgtV b) c s = true
    · rw [ho] at HS
      rw [hr, if_pos (m1 ho)]
      exact next_over b s c _ _ _ s0 l W (by omega) (by omega) h0.1 h0.2 hc HT HS HFl
    · have ho : scaleO (tgtV b) c s = false := by simpa using ho
      rw [ho, m2 ho] at HS
      have hnl : nextQ (tgtV b) c s < M256 := by
        rw [← m2 ho]
        unfold scaleV
        split
        · exact Nat.mod_lt _ M256_pos'
        · exact Nat.lt_of_le_of_lt (Nat.div_le_self _ _) (by omega)
      have HFn := fun W => short_any _ W hnl
      have HC := fun W => cmp_any _ l W hnl hl
      generalize nextQ (tgtV b) c s = n at *
      by_cases hn : l < n
      · rw [hr, if_pos hn]
        exact next_gt b s c _ _ n s0 _ l W (by omega) (by omega) h0.1 h0.2 hc HT HS HC HFl (by rw [cmp_gt hn]; rfl)
      · rw [hr, if_neg hn]
        exact next_le b s c _ _ n s0 _ l W (by omega) (by omega) h0.1 h0.2 hc HT HS HC HFn (decide_eq_false (by have := cmp_le_of (Nat.le_of_not_lt hn); omega))
  refine walk_any b r l s0 s true w HN HO (fun v W h => ?_)
  obtain ⟨sl, cl, rfl, _⟩ := h.slice
  have HC3 := fun W => small_any c W (by omega)
  have HS3 := fun W => small_any s W (by omega)
  have HM3 := fun u v X L W (hL : L ≤ 5000) (hu : BX W u X L) (hv : BX W v c 256) => mul2_any u v X c L 256 W hu hv (by omega) (by omega)
  have HD3 := fun u v X L W (hL : L ≤ 5000) (hu : BX W u X L) (hv : BX W v s 256) => div2_any u v X s L 256 W hu hv (by omega) (by omega) (by omega) (by omega)
  have HL3 := fun v X L W (hL : L ≤ 9000) (hv : BX W v X L) => length_any v X L W hv (by omega)
  have HLE3 := fun v L W (hL : L ≤ 9000) (hv : BX W v (nextQ (tgtV b) c s) L) (hb : BX W (.slice sl 256 cl) l 256) => less_any _ v l (nextQ (tgtV b) c s) 256 L W hb hv (by omega) (by omega)
  have HSL3 := fun W (hb : BX W (.slice sl 256 cl) l 256) => short3_any _ l 256 W hb (by omega) hl
  have HSQ3 := fun v L W (hq : nextQ (tgtV b) c s < M256) (hL : L ≤ 9000) (hv : BX W v (nextQ (tgtV b) c s) L) => short3_any v _ L W hv (by omega) hq
  have hx256 := lg_256 (tgtV b * c)
  by_cases hx : 256 < lg (tgtV b * c)
  · have hq : tgtV b / s * c = nextQ (tgtV b) c s := by unfold nextQ; rw [if_pos (by omega)]
    by_cases hlo : s0 < (s : Int) / 4
    · exact next3_lo_ov b s c _ _ r l s0 sl cl W h (by omega) (by omega) (by omega) h0.1 h0.2 hlo (by omega) hr hl hx hq HT3 HC3 HS3 HM3 HD3 HL3 HLE3 HSL3 HSQ3
    · by_cases hhi : 4 * (s : Int) < s0
      · exact next3_hi_ov b s c _ _ r l s0 sl cl W h (by omega) (by omega) (by omega) h0.1 h0.2 hlo hhi (by omega) hr hl hx hq HT3 HC3 HS3 HM3 HD3 HL3 HLE3 HSL3 HSQ3
      · obtain rfl : s0 = (c : Int) := by omega
        exact next3_mid_ov b s c _ _ r l sl cl W h (by omega) (by omega) (by omega) hlo hhi hr hl hx hq HT3 HC3 HS3 HM3 HD3 HL3 HLE3 HSL3 HSQ3
  · have hq : tgtV b * c / s = nextQ (tgtV b) c s := by unfold nextQ; rw [if_neg (by omega)]
    by_cases hlo : s0 < (s : Int) / 4
    · exact next3_lo_no b s c _ _ r l s0 sl cl W h (by omega) (by omega) (by omega) h0.1 h0.2 hlo (by omega) hr hl hx hq HT3 HC3 HS3 HM3 HD3 HL3 HLE3 HSL3 HSQ3
    · by_cases hhi : 4 * (s : Int) < s0
      · exact next3_hi_no b s c _ _ r l s0 sl cl W h (by omega) (by omega) (by omega) h0.1 h0.2 hlo hhi (by omega) hr hl hx hq HT3 HC3 HS3 HM3 HD3 HL3 HLE3 HSL3 HSQ3
      · obtain rfl : s0 = (c : Int) := by omega
        exact next3_mid_no b s c _ _ r l sl cl W h (by omega) (by omega) (by omega) hlo hhi hr hl hx hq HT3 HC3 HS3 HM3 HD3 HL3 HLE3 HSL3 HSQ3
set_option maxRecDepth 100000 in
set_option maxHeartbeats 2000000 in
theorem lifted (os : Os) (started : os.Started) (H : Type) (enc : TypeId × Value → H) :
    ReturnsInHanded {} Try.checked os 6 .any (Rows.bitsNextSpec.pre6 enc Try.prog Try.f6 Rows.bitsNextRow.domain false) (Rows.bitsNextSpec.post enc Try.prog Try.f6 false true false false) := by
  refine returnsInHanded_of_change (C := Try.checked) own started (by kernel_rfl) Try.func6
    (ChangeSpec.witness6 (enc := enc) (C := Try.checked) false ⟨#[], #[.int .u32 0, .agg #[.int .i64 0, .int .i64 0], I4 0 0 0 0], []⟩ 8 (by kernel_rfl) (by kernel_rfl) (by kernel_rfl) (by kernel_rfl)) ?_
  intro W base args ds gs before hval0 hW hcnd _
  have hval : ∀ (j : Nat) t v, Try.f6.params[j]? = some t → args[j]? = some v → Value.okWide Try.prog W .any base t v := hval0
  have hW' := hW
  obtain ⟨p, q, hA0, hV, rfl, hfz, hnd⟩ := hW
  have hA : DataW.TrodAll enc Try.prog W 0 (fun _ => true) true Try.f6.params.toList args.toList ds p := hA0
  rw [Try.params6] at hA hval
  obtain ⟨v0, vs0, d0, ds0, p0, q0, hargs, rfl, rfl, h0, r0⟩ := trodAll_cons hA
  obtain ⟨v1, vs1, d1, ds1, p1, q1, rfl, rfl, rfl, h1, r1⟩ := trodAll_cons r0
  obtain ⟨v2, vs2, d2, ds2, p2, q2, rfl, rfl, rfl, h2, r2⟩ := trodAll_cons r1
  obtain ⟨rfl, rfl, rfl⟩ := trodAll_nil r2
  obtain rfl : args = #[v0, v1, v2] := by cases args; simp_all
  obtain ⟨rfl, rfl⟩ := trodVars_none hV
  have lt0 : ∀ x ∈ p0, x.block < W.heap.size := by obtain ⟨m, hm⟩ := h0; exact DataW.trod_lt m _ _ _ hm
  have lt2 : ∀ x ∈ p2, x.block < W.heap.size := by obtain ⟨m, hm⟩ := h2; exact DataW.trod_lt m _ _ _ hm
  have lt1 : ∀ x ∈ p1, x.block < W.heap.size := by obtain ⟨m, hm⟩ := h1; exact DataW.trod_lt m _ _ _ hm
  obtain ⟨y0, rfl, _, _, hwf⟩ := open_int (k := .u32) Try.underlying40 (hval 0 40 v0 rfl rfl) h0
  have hyb := wf_u32 hwf
  obtain ⟨b0, rfl⟩ := Int.eq_ofNat_of_zero_le hyb.1
  obtain ⟨zs1, hl1, rfl, hz1⟩ := open_ints_arr (n := 2) (k := .i64) Try.underlying55 Try.underlying2 (by kernel_rfl) (by kernel_rfl) (hval 1 55 v1 rfl rfl) h1
  obtain ⟨s0, s1, rfl⟩ := two_of hl1
  have hs0 := wf_i64' (hz1 s0 (by simp))
  have hs1 := wf_i64' (hz1 s1 (by simp))
  obtain ⟨zs2, hl2, rfl, hz2⟩ := open_ints_arr (n := 4) (k := .u64) Try.underlying24 Try.underlying22 (by kernel_rfl) (by kernel_rfl) (hval 2 24 v2 rfl rfl) h2
  obtain ⟨a2, ha2, ea2⟩ := num_of_words hl2 hz2
  clear hA0 hval0
  have hwalk := walk b0 s0 s1 a2 W (by omega) hs0 hs1 ha2
  rw [← ea2] at hwalk
  refine hwalk.mono fun e W' ⟨he, bel⟩ => ?_
  subst he
  exact ⟨_, rfl, _, _, _, [], _, [], hW', trodAll_mk1 (shut_bool Try.underlying4 _), (trodAll_cons_mk (Below.trod laidOut (by kernel_rfl) (of_decide_eq_true (by kernel_rfl)) h0 bel lt0) (trodAll_cons_mk (Below.trod laidOut (by kernel_rfl) (of_decide_eq_true (by kernel_rfl)) h1 bel lt1) (trodAll_cons_mk (Below.trod laidOut (by kernel_rfl) (of_decide_eq_true (by kernel_rfl)) h2 bel lt2) trodAll_mk0))), rfl, bel.frame _, fun h => by cases h⟩

theorem over : Rows.bitsNextRow.holds Try.pinned (OpenSpec.ofChange Rows.bitsNextSpec) :=
  OpenClaim.holds_of_wide 6 Try.f6 rfl rfl rfl rfl rfl rfl rfl ⟨rfl, rfl, rfl, rfl, rfl⟩ rfl rfl rfl rfl rfl (by kernel_rfl) Try.func6 (by kernel_rfl)
    (of_decide_eq_true (by kernel_rfl)) (by unfold Func.isWrapper; first | (rw [if_pos (by decide +kernel)]; kernel_rfl) | (rw [if_neg (by decide +kernel)]; exact ⟨rfl, rfl⟩))
    (fun os started H enc _ => lifted os started H enc)

theorem proved : Rows.BitsNextSaid := over
#print axioms proved
end Go.Proofs.Ytkkkfcdoilojmaa.bitsNext
