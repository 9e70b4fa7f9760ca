/-
  What is proved: TraceOnce holds for every input. No condition.
-/
import Derived.Test.YtcedljfdnbenoaaTrL
namespace Go.Proofs.Ytcedljfdnbenoaa.traceOnce
open Go.ChangeShapes Go.WideShapes Go.ChangeAt Go.RowKit
set_option linter.unusedVariables false

theorem own : ownKnob Try.prog.godebug = none := by kernel_rfl
theorem laidOut : laidOutB Try.prog = true := by kernel_rfl
set_option linter.unusedSimpArgs false

def f4 : TkM := ⟨true, true, true, true⟩
/-- So many have greeted. -/
def gT (k : Nat) : Int → Option TkM := fun i => if 0 ≤ i ∧ i < (k : Int) then some f4 else none
def gr (k : Nat) : BkM := ⟨gT k, k, fun _ => none, fun _ => []⟩
def gs (k : Nat) (a : TkM) : BkM := ⟨updT (gT k) (k : Int) (some a), k + 1, fun _ => none, fun _ => []⟩
theorem gs_T (k : Nat) (a : TkM) : (gs k a).T (k : Int) = some a := updT_same _ _ _
theorem gs_set (k : Nat) (a b : TkM) : setT (gs k a) (k : Int) b = gs k b := setT_nM _ _ _ _ _
theorem gr_0 : bk0 = gr 0 := by
  unfold bk0 gr gT
  have : (fun i : Int => if 0 ≤ i ∧ i < ((0 : Nat) : Int) then some f4 else none) = fun _ => none := by
    funext i
    rw [if_neg (by omega)]
  rw [this]
theorem gs_gr (k : Nat) : gs k f4 = gr (k + 1) := by
  unfold gs gr
  have : updT (gT k) (k : Int) (some f4) = gT (k + 1) := by
    funext i
    unfold updT gT
    by_cases e : i = (k : Int)
    · rw [if_pos e, if_pos (by omega)]
    · rw [if_neg e]
      by_cases h : 0 ≤ i ∧ i < (k : Int)
      · rw [if_pos h, if_pos (by omega)]
      · rw [if_neg h, if_neg (by omega)]
  rw [this]
theorem gr_came (k : Nat) : cameM (gr k) (k : Int) = gs k tk0 := by
  unfold cameM
  have : (gr k).T (k : Int) = none := by show (if _ then _ else _) = _; rw [if_neg (by omega)]
  rw [this]
  rfl
theorem gs_1 (k : Nat) : saidM (gs k tk0) (k : Int) 1 [] = gs k ⟨false, false, true, false⟩ := by unfold saidM; rw [gs_T]; exact gs_set _ _ _
theorem gs_2 (k : Nat) (x : I32) : heardM (gs k ⟨false, false, true, false⟩) (k : Int) 1 x [] = gs k ⟨true, false, true, false⟩ := by unfold heardM; rw [gs_T]; exact gs_set _ _ _
theorem gs_3 (k : Nat) (x : I32) : heardM (gs k ⟨true, false, true, false⟩) (k : Int) 2 x [] = gs k ⟨true, true, true, false⟩ := by unfold heardM; rw [gs_T]; exact gs_set _ _ _
theorem gs_4 (k : Nat) : saidM (gs k ⟨true, true, true, false⟩) (k : Int) 2 [] = gr (k + 1) := by
  rw [← gs_gr]
  unfold saidM
  rw [gs_T]
  exact gs_set _ _ _
/-- How many the first so many are asked for. -/
def sumL (M : BkM) : Nat → Nat
  | 0 => 0
  | k + 1 => sumL M k + (M.L (k : Int)).length
/-- What holds between the rounds. -/
structure Inv (P : Nat) (M : BkM) (seen : List Nat) (f : Int → Option Int) : Prop where
  T : ∀ p : Nat, p < P → M.T (p : Int) = some f4
  A : ∀ y, y < 256 → ((M.A (idN y)).isSome = true ↔ y ∈ seen)
  c : ∀ p : Nat, p < P → (f (p : Int)).getD 0 = ((M.L (p : Int)).length : Int) ∧ (M.L (p : Int)).length ≤ 16
  s : sumL M P = seen.length
theorem inv_0 (P : Nat) : Inv P (gr P) [] (fun _ => none) where
  T := fun p hp => by show (if _ then _ else _) = _; rw [if_pos (by omega)]
  A := fun y hy => ⟨fun h => (by cases h), fun h => (by cases h)⟩
  c := fun p hp => ⟨rfl, Nat.zero_le _⟩
  s := by
    have : ∀ k, sumL (gr P) k = 0 := by
      intro k
      induction k with
      | zero => rfl
      | succ k ih => unfold sumL; rw [ih]; rfl
    exact this P
theorem sumL_app (M : BkM) (p : Nat) (x : I32) (M' : BkM) (hL : ∀ j, M'.L j = if j = (p : Int) then M.L j ++ [x] else M.L j) : ∀ k, sumL M' k = if p < k then sumL M k + 1 else sumL M k
  | 0 => by rw [if_neg (by omega)]; rfl
  | k + 1 => by
    have ih := sumL_app M p x M' hL k
    have h1 := hL (k : Int)
    by_cases e : k = p
    · subst e
      rw [if_pos rfl] at h1
      rw [if_neg (by omega)] at ih
      rw [if_pos (by omega)]
      unfold sumL
      rw [ih, h1, List.length_append]
      simp
      omega
    · rw [if_neg (by omega)] at h1
      unfold sumL
      rw [h1]
      by_cases h : p < k
      · rw [if_pos h] at ih
        rw [if_pos (by omega), ih]
        omega
      · rw [if_neg h] at ih
        rw [if_neg (by omega), ih]
theorem sumL_le {M : BkM} {P : Nat} (h : ∀ p : Nat, p < P → (M.L (p : Int)).length ≤ 16) : ∀ k, k ≤ P → sumL M k ≤ 16 * k
  | 0, _ => Nat.le_refl _
  | k + 1, hk => by
    have := sumL_le h k (by omega)
    have := h k (by omega)
    unfold sumL
    omega
/-- What is answered in a round. -/
def ansE (M : BkM) (seen : List Nat) (p x : Nat) : Int := if x ∈ seen then 5 else if (M.L (p : Int)).length = 16 then 3 else 0
theorem Inv.ans {P : Nat} {M : BkM} {seen : List Nat} {f : Int → Option Int} (h : Inv P M seen f) {p x : Nat} (hp : p < P) (hx : x < 256) : saidE M (p : Int) 6 [idN x] = ansE M seen p x := by
  unfold saidE
  rw [h.T p hp]
  show askE M (p : Int) [idN x] = _
  unfold askE ansE
  rw [if_neg (by simp)]
  have hc := (h.c p hp).2
  have hA := h.A x hx
  by_cases e : x ∈ seen
  · have ht : twB M.A [] [idN x] = true := by unfold twB; rw [hA.2 e]; simp
    rw [ht, if_pos rfl, if_pos e]
  · have ht : twB M.A [] [idN x] = false := by
      have hn : (M.A (idN x)).isSome = false := by
        cases hh : (M.A (idN x)).isSome with
        | false => rfl
        | true => exact absurd (hA.1 hh) e
      unfold twB
      rw [hn]
      simp [twB]
    rw [ht, if_neg (by decide), if_neg e]
    by_cases e6 : (M.L (p : Int)).length = 16
    · rw [if_pos e6, if_pos (by simp; omega)]
    · rw [if_neg e6, if_neg (by simp; omega)]
theorem Inv.stay {P : Nat} {M : BkM} {seen : List Nat} {f : Int → Option Int} (h : Inv P M seen f) {p x : Nat} (hp : p < P) (hx : x < 256) (h0 : ansE M seen p x ≠ 0) : saidM M (p : Int) 6 [idN x] = M := by
  have hE := h.ans hp hx
  unfold saidE at hE
  rw [h.T p hp] at hE
  have hE : askE M (p : Int) [idN x] = ansE M seen p x := hE
  unfold saidM
  rw [h.T p hp]
  show askM M (p : Int) [idN x] = M
  unfold askM
  rw [if_neg (by rw [hE]; exact h0)]
theorem Inv.go {P : Nat} {M : BkM} {seen : List Nat} {f : Int → Option Int} (h : Inv P M seen f) {p x : Nat} (hp : p < P) (hx : x < 256) (h0 : ansE M seen p x = 0) : Inv P (saidM M (p : Int) 6 [idN x]) (seen ++ [x]) (upd f (p : Int) (some ((f (p : Int)).getD 0 + 1))) := by
  have hE := h.ans hp hx
  unfold saidE at hE
  rw [h.T p hp] at hE
  have hE : askE M (p : Int) [idN x] = ansE M seen p x := hE
  have hM : saidM M (p : Int) 6 [idN x] = { M with A := fun z => if z ∈ [idN x] then some (p : Int) else M.A z, L := fun j => if j = (p : Int) then M.L p ++ [idN x] else M.L j } := by
    unfold saidM
    rw [h.T p hp]
    show askM M (p : Int) [idN x] = _
    unfold askM
    rw [if_pos (by rw [hE]; exact h0)]
  have h16 : (M.L (p : Int)).length < 16 := by
    have hc := (h.c p hp).2
    unfold ansE at h0
    by_cases e : x ∈ seen
    · rw [if_pos e] at h0; cases h0
    · rw [if_neg e] at h0
      by_cases e6 : (M.L (p : Int)).length = 16
      · rw [if_pos e6] at h0; cases h0
      · omega
  rw [hM]
  refine ⟨h.T, fun y hy => ?_, fun q hq => ?_, ?_⟩
  · show (if idN y ∈ [idN x] then some (p : Int) else M.A (idN y)).isSome = true ↔ _
    by_cases e : y = x
    · subst e
      simp
    · have hne : idN y ≠ idN x := fun h' => e (idN_inj hy hx h')
      rw [if_neg (by simp [hne]), h.A y hy]
      simp [e]
  · show (upd f (p : Int) (some ((f (p : Int)).getD 0 + 1)) (q : Int)).getD 0 = ((if (q : Int) = (p : Int) then M.L p ++ [idN x] else M.L q).length : Int) ∧ (if (q : Int) = (p : Int) then M.L p ++ [idN x] else M.L q).length ≤ 16
    by_cases e : (q : Int) = (p : Int)
    · rw [if_pos e, e, upd_same]
      have := (h.c p hp).1
      rw [List.length_append]
      constructor
      · show (f (p : Int)).getD 0 + 1 = _
        rw [this]
        simp
      · simp; omega
    · rw [if_neg e, upd_other _ _ e]
      exact h.c q hq
  · have := sumL_app M p (idN x) { M with A := fun z => if z ∈ [idN x] then some (p : Int) else M.A z, L := fun j => if j = (p : Int) then M.L p ++ [idN x] else M.L j } (fun j => by
      show (if j = (p : Int) then M.L p ++ [idN x] else M.L j) = _
      by_cases e : j = (p : Int)
      · rw [if_pos e, if_pos e, e]
      · rw [if_neg e, if_neg e]) P
    rw [this, if_pos hp, h.s, List.length_append]
    rfl
set_option maxRecDepth 100000 in
set_option maxHeartbeats 16000000 in
theorem walk (z : Int) (xs : List Nat) (v : Value) (w : World) (h : BsV w w.heap.size v xs) :
    Calls Try.prog 5 #[.int .i64 z, v] w fun e w' => e = .returned (.bool true) ∧ Below w.heap.size w w' := by
  have hx256 : ∀ x ∈ xs, x < 256 := by obtain ⟨_, _, _, _, _, h, _⟩ := h; exact h
  have hR := byR_of h
  have h63 : xs.length < 9223372036854775808 := by obtain ⟨_, _, _, h1, h2, _⟩ := hR; omega
  obtain ⟨s0, c, rfl⟩ : ∃ s c, v = .slice s xs.length c := hR.slice
  have hrow := byR_cell hR
  obtain ⟨n, hn⟩ : ∃ n, n = xs.length := ⟨_, rfl⟩
  have HN := Lib.hid hn
  rw [← hn] at hrow h63 ⊢
  have HL := Lib.hid hrow
  have HX := Lib.hid hx256
  clear hrow hn h hR hx256
  have hlk := looks_any w
  have hz := msz_zero
  have hne := msz_ne
  have hzi := idz_zero
  have hnei := idz_ne
  by_cases hz1 : z < 1
  · have d0 : decide (z < 1) = true := decide_eq_true hz1
    go_enter Try.func5, Try.ntmps5
    go_wp2_with fail
    refine hlk.mono ?_
    rintro e w1 ⟨rfl, hb1⟩
    go_wp2_with fail
    go_ret
    exact ⟨rfl, hb1⟩
  have d0 : decide (z < 1) = false := decide_eq_false hz1
  by_cases hz5 : 5 < z
  · have d5 : decide (5 < z) = true := decide_eq_true hz5
    go_enter Try.func5, Try.ntmps5
    go_wp2_with fail
    refine hlk.mono ?_
    rintro e w1 ⟨rfl, hb1⟩
    go_wp2_with fail
    go_ret
    exact ⟨rfl, hb1⟩
  have d5 : decide (5 < z) = false := decide_eq_false hz5
  by_cases h100 : 100 < n
  · have d9 : decide ((100 : Int) < (n : Int)) = true := decide_eq_true (by omega)
    go_enter Try.func5, Try.ntmps5
    go_wp2_with fail
    refine hlk.mono ?_
    rintro e w1 ⟨rfl, hb1⟩
    go_wp2_with fail
    go_ret
    exact ⟨rfl, hb1⟩
  have d9 : decide ((100 : Int) < (n : Int)) = false := decide_eq_false (by omega)
  obtain ⟨P, rfl⟩ : ∃ P : Nat, z = (P : Int) := ⟨z.toNat, by omega⟩
  have hP1 : 1 ≤ P := by omega
  have hP5 : P ≤ 5 := by omega
  go_enter Try.func5, Try.ntmps5
  go_wp2_with fail
  refine hlk.mono ?_
  rintro e w1 ⟨rfl, hb1⟩
  have HB1 := Lib.hid hb1
  clear hlk hb1
  go_upto_region 6 with fail
  obtain ⟨g, hg⟩ : ∃ g, g = w1.heap.size := ⟨_, rfl⟩
  rw [← hg]
  refine wp_any (fun W => HasF w W (fun _ => False) g 0 (gr 0)) (by rw [← gr_0, hg]; exact (HasF.new w1 0).rebase HB1.out) ?_
  clear HB1 hg
  clear w1
  intro W0 h0
  have H0 := Lib.hid h0
  clear h0 hz1 hz5 d0 d5 
  go_wp2_with fail
  go_loopw [30] (fun i wr => ∃ k : Nat, k ≤ P ∧ i = .int .i64 k ∧ Hid (HasF w wr (fun _ => False) g (32 * k) (gr k))) (fun i _ => P - (intOf i).toNat)
  case atStart => exact ⟨0, Nat.zero_le _, rfl, H0⟩
  case round =>
    obtain ⟨k, hk, rfl, HF⟩ := hrel
    clear H0
    by_cases hlt : k < P
    · have j1 : decide ((k : Int) < (P : Int)) = true := decide_eq_true (by omega)
      have hIn : Hid (InI (k : Int)) := by show InI _; unfold InI; omega
      have hL0 : ∀ (a : TkM) (j : Int), ((gs k a).L j).length ≤ 1000000 := fun a j => by show ([] : List I32).length ≤ _; decide
      have hc := HasF.came HF.out (k : Int) hIn.out (by show k < _; omega)
      rw [gr_came] at hc
      unfold bkP at hc
      clear HF
      go_wp2_with fail
      refine hc.mono ?_
      rintro e V1 ⟨rfl, h1, hq⟩
      clear hc hq
      have hc := HasF.said h1 (k : Int) hIn.out (ms1 1) 1 _ [] (ms1_0 1) (ms1_3 1) (fun e => absurd e (by decide)) (by omega) (hL0 _ _)
      rw [gs_1] at hc
      unfold ms1 bkP at hc
      clear h1
      go_wp2_with fail
      refine hc.mono ?_
      rintro e V2 ⟨rfl, h2, hq⟩
      clear hc hq
      have hc := HasF.heard h2 (k : Int) hIn.out (ms1 1) 1 _ i0 [] (ms1_0 1) (ms1_3 1) (fun e => absurd e (by decide))
      rw [gs_2, idV_i0] at hc
      unfold ms1 bkP at hc
      clear h2
      go_wp2_with fail
      refine hc.mono ?_
      rintro e V3 ⟨rfl, h3, hq⟩
      clear hc hq
      have hc := HasF.heard h3 (k : Int) hIn.out (ms1 2) 2 _ i0 [] (ms1_0 2) (ms1_3 2) (fun e => absurd e (by decide))
      rw [gs_3, idV_i0] at hc
      unfold ms1 bkP at hc
      clear h3
      go_wp2_with fail
      refine hc.mono ?_
      rintro e V4 ⟨rfl, h4, hq⟩
      clear hc hq
      have hc := HasF.said h4 (k : Int) hIn.out (ms1 2) 2 _ [] (ms1_0 2) (ms1_3 2) (fun e => absurd e (by decide)) (by omega) (hL0 _ _)
      rw [gs_4] at hc
      unfold ms1 bkP at hc
      clear h4
      go_wp2_with fail
      refine hc.mono ?_
      rintro e V5 ⟨rfl, h5, hq⟩
      have H5 : Hid (HasF w V5 (fun _ => False) g (32 * (k + 1)) (gr (k + 1))) := h5.mono (by omega)
      clear hc hq h5
      go_wp2_with fail
      go_roundw
      case rel => exact ⟨k + 1, by omega, by go_num, H5⟩
      case measure => simp [intOf]; omega
    · obtain rfl : k = P := by omega
      have j1 : decide ((k : Int) < (k : Int)) = false := decide_eq_false (by omega)
      have hmm := @run_makeMap Try.prog
      go_upto_region 17 with fail
      obtain ⟨cb, hcb⟩ : ∃ cb, cb = wr.heap.size := ⟨_, rfl⟩
      rw [← hcb]
      refine wp_any (fun W => HasF w W (fun q => q = cb ∨ slb (.slice none 0 0) q) g (32 * k) (gr k) ∧ MapG ciE W cb 0 (fun _ => none)) ⟨HF.out.more ((Below.refl _ _).alloc (Nat.le_refl _) _) (fun q hq => .inr (hq.elim (fun e => ⟨by rw [e, hcb]; exact Nat.le_refl _, by rw [e, hcb]; simp⟩) (fun e => absurd e (slb_none _ _ _)))), by rw [hcb]; exact MapG.made _⟩ ?_
      have HCB : Hid (w.heap.size ≤ cb) := by show _ ≤ _; rw [hcb]; exact HF.out.below.size
      clear HF hcb hmm j1 hlt hk
      clear wr
      rintro W1 ⟨h1, m1⟩
      have H1 := Lib.hid h1
      have HM1 := Lib.hid m1
      have hI0 := Lib.hid (inv_0 k)
      have hw1 := h1.below
      have HNC : Hid (¬ slb (.slice none 0 0) cb) := slb_none _ _ _
      clear h1 m1 hw1
      generalize hPk : k = P at *
      clear hPk
      go_wp2_with fail
      go_loopw [7, 53] (fun v i wr => ∃ (k nn : Nat) (vi : Value) (M : BkM) (seen : List Nat) (f : Int → Option Int), k ≤ n ∧ v = vi ∧ i = .int .i64 k ∧ nn ≤ k ∧ seen.length ≤ k ∧ Hid (Inv P M seen f) ∧ Hid (HasF w wr (fun q => q = cb ∨ slb vi q) g (32 * P + 16 * k) M) ∧ Hid (MapG ciE wr cb nn f) ∧ Hid (MineR byR wr w.heap.size vi seen) ∧ Hid (¬ slb vi cb)) (fun _ i _ => n - (intOf i).toNat)
      case atStart => exact ⟨0, 0, _, _, [], _, Nat.zero_le _, rfl, rfl, Nat.le_refl _, Nat.le_refl _, hI0, H1, HM1, .inl ⟨rfl, rfl⟩, HNC⟩
      case round =>
        obtain ⟨k, nn, vi, M, seen, f, hk, rfl, rfl, hnn, hsl, HI, HF, HM, HS, HC⟩ := hrel
        clear H1 HM1 hI0 HNC
        by_cases hlt : k < n
        · obtain ⟨x, b, o, hkx, rfl, hbw, hcx⟩ := HL.out k hlt
          have j1 : decide ((k : Int) < (n : Int)) = true := decide_eq_true (by omega)
          have hcx : wr.cell? ⟨b, o + k, none⟩ = some (.int .u8 (x : Int)) := (HF.out.below.cell (p := ⟨b, o + k, none⟩) hbw).trans hcx
          have hbr : b < wr.heap.size := Nat.lt_of_lt_of_le hbw HF.out.below.size
          have hxl : x < 256 := HX.out x (List.mem_of_getElem? hkx)
          clear hkx
          obtain ⟨p, hpk⟩ : ∃ p, p = k % P := ⟨_, rfl⟩
          have hp : (k : Int) % (P : Int) = (p : Int) := by rw [hpk]; exact (Int.natCast_emod k P).symm
          have hpP : p < P := by rw [hpk]; exact Nat.mod_lt _ (by omega)
          have hpI : InI (p : Int) := by unfold InI; omega
          clear hpk
          have hev : Value.agg (idz.setIfInBounds 0 (.int .u8 (x : Int))) = .agg (idR.c (idN x)).toArray := by
            rw [idN_lt hxl]
            exact congrArg Value.agg (idB_set x hxl)
          have hal : Below wr.heap.size wr (wr.alloc (.cells (idR.c (idN x)).toArray idR.e)) := (Below.refl _ _).alloc (Nat.le_refl _) _
          have hc := (HF.out.keep hal).said (p : Int) hpI (ms2 6 (.slice (some ⟨wr.heap.size, 0, none⟩) 1 1)) 6 _ [idN x] (ms2_0 6 _) (ms2_3 6 _) (fun _ => ⟨one_rowR idR_ok (Bk.new _ _ _), by simp⟩) (by omega) (by have := (HI.out.c p hpP).2; omega)
          rw [HI.out.ans hpP hxl] at hc
          have HS2 := Lib.hid (HS.out.keep hal)
          have HM2 := Lib.hid (HM.out.keep hal)
          unfold ms2 ms1 bkP at hc
          obtain ⟨E, hE⟩ : ∃ E, E = ansE M seen p x := ⟨_, rfl⟩
          rw [← hE] at hc
          have HE := Lib.hid hE
          clear HF HM HS hal hE
          go_wp2_with (refine wpList_bsR1 idR_ok (by decide) rfl (.tmp 63) rfl (idN x) rfl ?_)
          refine hc.mono ?_
          rintro e V3 ⟨rfl, hf3, hs3⟩
          have HS3 := Lib.hid (HS2.out.same hs3 (fun _ h => .inr h))
          have HM3 := Lib.hid (HM2.out.same (hs3 cb (.inl rfl)))
          have HF3 := Lib.hid hf3
          have hhas := has_any seen x _ V3 (HS3.out.rows byR_ok)
          clear hc hf3 hs3 HS2 HM2 hev hcx hbr
          go_wp2_with fail
          refine hhas.mono ?_
          rintro e V4 ⟨rfl, hV⟩
          subst hV
          clear hhas
          by_cases hin : x ∈ seen
          · have hd : decide (x ∈ seen) = true := decide_eq_true hin
            have hE5 : E = 5 := by rw [HE.out]; unfold ansE; rw [if_pos hin]
            have hM : saidM M (p : Int) 6 [idN x] = M := HI.out.stay hpP hxl (by rw [← HE.out, hE5]; decide)
            rw [hM] at HF3
            subst hE5
            have HF4 : Hid (HasF w V4 (fun q => q = cb ∨ slb u7 q) g (32 * P + 16 * (k + 1)) M) := HF3.out.mono (by omega)
            clear hin hM HF3
            go_wp2_with fail
            go_roundw
            case rel => exact ⟨k + 1, nn, u7, M, seen, f, by omega, rfl, by go_num, by omega, by omega, HI, HF4, HM3, HS3, HC⟩
            case measure => simp [intOf]; omega
          have hd : decide (x ∈ seen) = false := decide_eq_false hin
          obtain ⟨ci, hci⟩ : ∃ ci, ci = (f (p : Int)).getD 0 := ⟨_, rfl⟩
          have hcl := (HI.out.c p hpP).1
          have hc16 := (HI.out.c p hpP).2
          rw [← hci] at hcl
          have hlk := HM3.out.look0 ciE_ok (x := (p : Int)) hpI
          have hval : valO ciE (f (p : Int)) = .int .i64 ci := by
            rw [hci]
            cases f (p : Int) <;> rfl
          rw [hval] at hlk
          change (Instr.lookup 53 (.map (some cb)) (.int .i64 (p : Int)) false).run Try.prog V4 = _ at hlk
          by_cases h16 : (M.L (p : Int)).length = 16
          · have hc6 : ci = 16 := by rw [hcl, h16]; rfl
            have q6 : (ci == 16) = true := by simp [hc6]
            have hE3 : E = 3 := by rw [HE.out]; unfold ansE; rw [if_neg hin, if_pos h16]
            have hM : saidM M (p : Int) 6 [idN x] = M := HI.out.stay hpP hxl (by rw [← HE.out, hE3]; decide)
            rw [hM] at HF3
            subst hE3
            have HF4 : Hid (HasF w V4 (fun q => q = cb ∨ slb u7 q) g (32 * P + 16 * (k + 1)) M) := HF3.out.mono (by omega)
            clear hin hM HF3 hci hcl hc16 hval h16 hc6
            go_wp2_with (at_lookup; refine wpList_lk rfl _ _ _ rfl rfl rfl hlk ?_)
            go_roundw
            case rel => exact ⟨k + 1, nn, u7, M, seen, f, by omega, rfl, by go_num, by omega, by omega, HI, HF4, HM3, HS3, HC⟩
            case measure => simp [intOf]; omega
          have q6 : (ci == 16) = false := by simp; omega
          have hE0 : E = 0 := by rw [HE.out]; unfold ansE; rw [if_neg hin, if_neg h16]
          have HI' := Lib.hid (HI.out.go hpP hxl (by rw [← HE.out]; exact hE0))
          rw [← hci] at HI'
          subst hE0
          -- the byte is appended
          have hal : Below V4.heap.size V4 (V4.alloc (.cells #[.int .u8 (x : Int)] 5)) := (Below.refl _ _).alloc (Nat.le_refl _) _
          have hlo : w.heap.size ≤ V4.heap.size := HF3.out.below.size
          obtain ⟨v', W5, hrun, hM5, hb5, hs5⟩ := appR byR_ok seen [x] u7 (.slice (some ⟨V4.heap.size, 0, none⟩) 1 1) w.heap.size (V4.alloc (.cells #[.int .u8 (x : Int)] 5)) (HS3.out.keep hal) (Nat.le_trans hlo hal.size) (one_rowR byR_ok (Bk.new _ _ _)) (by simp; omega)
          change (Builtin.append_ #[48, 48] 48 #[u7, .slice (some ⟨V4.heap.size, 0, none⟩) 1 1]).run Try.prog _ = _ at hrun
          have hF5 : HasF w W5 (fun q => q = cb ∨ slb v' q) g (32 * P + 16 * k + 16) (saidM M (p : Int) 6 [idN x]) := (HF3.out.keep hal).app hb5 (fun q hq _ => ⟨.inr hq, (HS3.out.slb_lo hq).1⟩) (fun q hq => hq.elim (fun e => .inl (.inl e)) (fun e => (hs5 q e).elim (fun e => .inl (.inr e)) (fun h => .inr ⟨h, (hM5.slb_lo e).2.1⟩)))
          have hm5 : MapG ciE W5 cb nn f := (HM3.out.keep hal).but hb5 HC.out
          have hcl5 : cb < (V4.alloc (.cells #[.int .u8 (x : Int)] 5)).heap.size := Nat.lt_of_lt_of_le HM3.out.lt hal.size
          have hnc : ¬ slb v' cb := fun e => (hs5 cb e).elim HC.out (fun h => by omega)
          have hlk5 := hm5.look0 ciE_ok (x := (p : Int)) hpI
          rw [hval] at hlk5
          change (Instr.lookup 53 (.map (some cb)) (.int .i64 (p : Int)) false).run Try.prog W5 = _ at hlk5
          obtain ⟨W6, hput, hm6, hb6⟩ := hm5.put ciE_ok (x := (p : Int)) hpI (ci + 1) (by unfold maxLen; omega)
          change (Instr.mapUpdate 53 (.map (some cb)) (.int .i64 (p : Int)) (.int .i64 (ci + 1))).run Try.prog W5 = _ at hput
          have HF6 : Hid (HasF w W6 (fun q => q = cb ∨ slb v' q) g (32 * P + 16 * (k + 1)) (saidM M (p : Int) 6 [idN x])) := (hF5.but hb6 (fun q hq _ => ⟨.inl hq, by rw [hq]; exact HCB.out⟩)).mono (by omega)
          have HM6 : Hid (∃ n', n' ≤ nn + 1 ∧ MapG ciE W6 cb n' (upd f (p : Int) (some (ci + 1)))) := ⟨_, ite_suc _ _, hm6⟩
          have HS6 : Hid (MineR byR W6 w.heap.size v' (seen ++ [x])) := hM5.but_ hb6 (fun q hq e => hnc (by rw [← e]; exact hq))
          have HC6 := Lib.hid hnc
          have hci0 : 0 ≤ ci ∧ ci ≤ 16 := by omega
          have hslx : (seen ++ [x]).length ≤ k + 1 := by simp; omega
          clear hin hcl hc16 hval h16 hal hM5 hb5 hs5 hF5 hm5 hcl5 hnc hm6 hb6 HF3 HM3 HS3 hci
          go_wp2_with (first | (at_lookup; first | (refine wpList_lk rfl _ _ _ rfl rfl rfl hlk ?_) | (refine wpList_lk rfl _ _ _ rfl rfl rfl hlk5 ?_)) | (at_mapUpdate; refine wpList_mu rfl _ _ _ _ rfl rfl rfl rfl hput ?_) | (at_builtin; refine wpList_ap 48 rfl (.tmp 79) (.tmp 81) rfl rfl rfl rfl hrun ?_))
          go_roundw
          case rel =>
            obtain ⟨n', hn', hm'⟩ := HM6.out
            exact ⟨k + 1, n', v', _, _, _, by omega, rfl, by go_num, by omega, hslx, HI', HF6, hm', HS6, HC6⟩
          case measure => simp [intOf]; omega
        · obtain rfl : k = n := by omega
          have j1 : decide ((k : Int) < (k : Int)) = false := decide_eq_false (by omega)
          obtain ⟨s7, c7, hu7⟩ : ∃ s c, u7 = .slice s seen.length c := HS.out.slice
          subst hu7
          have hc16 : ∀ p : Nat, p < P → (M.L (p : Int)).length ≤ 16 := fun p hp => (HI.out.c p hp).2
          have HSL := Lib.hid (fun j (hj : j ≤ P) => sumL_le hc16 j hj)
          have HSE := Lib.hid HI.out.s
          have HC16 := Lib.hid hc16
          obtain ⟨m, hm⟩ : ∃ m, m = seen.length := ⟨_, rfl⟩
          rw [← hm] at HSE HF ⊢
          clear hlt HM HS HC HI hc16 hm
          go_wp2_with fail
          go_loopw [14, 89] (fun a i wr => ∃ j : Nat, j ≤ P ∧ a = .int .i64 (sumL M j : Nat) ∧ i = .int .i64 j ∧ Hid (HasF w wr (fun q => q = cb ∨ slb (.slice s7 m c7) q) g (32 * P + 16 * k) M)) (fun _ i _ => P - (intOf i).toNat)
          case atStart => exact ⟨0, Nat.zero_le _, rfl, rfl, HF⟩
          case round =>
            obtain ⟨j, hj, rfl, rfl, HG⟩ := hrel
            clear HF
            by_cases hlt : j < P
            · have j2 : decide ((j : Int) < (P : Int)) = true := decide_eq_true (by omega)
              have hl16 := HC16.out j hlt
              have hsl := HSL.out j hj
              have hc := HG.out.asked (j : Int) (by omega)
              unfold bkP at hc
              have hsu : sumL M (j + 1) = sumL M j + (M.L (j : Int)).length := rfl
              obtain ⟨l, hl⟩ : ∃ l, l = (M.L (j : Int)).length := ⟨_, rfl⟩
              rw [← hl] at hc hsu hl16
              have HSU := Lib.hid hsu
              clear hl hsu HG
              go_wp2_with fail
              refine hc.mono ?_
              rintro e V5 ⟨rfl, hf5, hb5⟩
              have HG5 := Lib.hid hf5
              clear hc hf5 hb5
              go_wp2_with fail
              go_roundw
              case rel => exact ⟨j + 1, by omega, by rw [HSU.out]; go_num, by go_num, HG5⟩
              case measure => simp [intOf]; omega
            · obtain rfl : j = P := by omega
              have j2 : decide ((j : Int) < (j : Int)) = false := decide_eq_false (by omega)
              have q5 : ((m : Int) == (m : Int)) = true := by simp
              rw [HSE.out]
              have HB := Lib.hid HG.out.below
              clear hlt HG
              go_wp2_with fail
              go_ret
              exact ⟨rfl, HB.out⟩
end Go.Proofs.Ytcedljfdnbenoaa.traceOnce
