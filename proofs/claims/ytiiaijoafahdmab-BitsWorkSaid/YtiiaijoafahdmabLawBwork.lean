/-
  What is proved: for all numbers a and b the law BitsWork returns true, and its arguments read behind the call as they read before it. No condition.
-/
import Derived.Test.YtiiaijoafahdmabBwA
import Derived.Test.YtiiaijoafahdmabBwB
import Derived.Test.YtiiaijoafahdmabBwC
import Derived.Test.YtiiaijoafahdmabBwD
import Derived.Test.YtiiaijoafahdmabBwE
namespace Go.Proofs.Ytiiaijoafahdmab.bitsWork
open Go.ChangeShapes Go.WideShapes Go.ChangeAt Go.RowKit
set_option linter.unusedVariables false

theorem own : ownKnob Try.prog.godebug = none := by kernel_rfl
theorem laidOut : laidOutB Try.prog = true := by kernel_rfl
theorem cmp_gt {a b : Nat} (h : b < a) : cmpI a b = 1 := by unfold cmpI; rw [if_neg (by omega), if_neg (by omega)]
theorem cmp_lt {a b : Nat} (h : a < b) : cmpI a b = -1 := by unfold cmpI; rw [if_pos h]
theorem cmp_le_of {a b : Nat} (h : a ≤ b) : cmpI a b ≤ 0 := by unfold cmpI; split <;> (try split) <;> omega
theorem cmp_ge_of {a b : Nat} (h : b ≤ a) : 0 ≤ cmpI a b := by unfold cmpI; split <;> (try split) <;> omega
theorem work_zero : workV 0 = 0 := by decide +kernel
theorem M_big : 8 < M256 := by decide +kernel
theorem work_form (t : Nat) (ht : t < M256) (h1 : 1 ≤ t) : workV t = if M256 ≤ t + 1 then 1 else (M256 - 1 - t) / (t + 1) + 1 := by
  have hM := M_big
  unfold workV
  split
  · rfl
  · apply Nat.mod_eq_of_lt
    have h2 : (M256 - 1 - t) / (t + 1) ≤ (M256 - 1 - t) / 2 := Nat.div_le_div_left (by omega) (by omega)
    have h3 : (M256 - 1 - t) / 2 + 1 < M256 := by
      clear h2
      generalize M256 = M at *
      omega
    exact Nat.lt_of_le_of_lt (Nat.add_le_add_right h2 1) h3
theorem work_pos (t : Nat) (ht : t < M256) (h1 : 1 ≤ t) : workV t ≠ 0 := by
  rw [work_form t ht h1]
  split
  · exact Nat.one_ne_zero
  · exact Nat.succ_ne_zero _
theorem work_lt (t : Nat) : workV t < M256 := by
  have hM := M_big
  unfold workV
  split
  · omega
  · exact Nat.mod_lt _ (by omega)
theorem work_mono (p q : Nat) (hq : q < M256) (h1 : 1 ≤ p) (h : p ≤ q) : workV q ≤ workV p := by
  rw [work_form p (by omega) h1, work_form q hq (by omega)]
  split
  · split
    · exact Nat.le_refl _
    · exact Nat.le_add_left 1 _
  · rename_i h2
    rw [if_neg (by omega)]
    exact Nat.add_le_add_right (Nat.div_le_div (by omega) (by omega) (by omega)) 1
theorem work_top (q : Nat) (h : M256 ≤ q + 1) : workV q = 1 := by unfold workV; rw [if_pos h]
theorem one_lt : 1 < M256 := by have := M_big; omega
theorem eq_one (w : World) : (Op.equalIn 10000 26 (nv 1) (nv 1)).run Try.prog w = .ok true w := by
  have h := nv_eql 1 1 one_lt one_lt w
  rw [decide_eq_true rfl] at h
  exact h
theorem eq_top (q : Nat) (h : M256 ≤ q + 1) (w : World) : (Op.equalIn 10000 26 (nv (workV q)) (nv 1)).run Try.prog w = .ok true w := by
  rw [work_top q h]
  exact eq_one w
set_option maxRecDepth 100000 in
theorem ordered (p q : Nat) (hp : p < M256) (hq : q < M256) (h : p ≤ q) (f : Nat → Nat → World → Prop)
    (Z : ∀ w, p = 0 → f p q w) (O : ∀ w, 1 ≤ p → M256 ≤ q + 1 → f p q w) (N : ∀ w, 1 ≤ p → ¬ M256 ≤ q + 1 → f p q w) (w : World) : f p q w := by
  by_cases h0 : p = 0
  · exact Z w h0
  · by_cases h1 : M256 ≤ q + 1
    · exact O w (by omega) h1
    · exact N w (by omega) h1
theorem add_top (q : Nat) (hq : q < M256) (h : M256 ≤ q + 1) (W : World) (b : Nat) (hn : Nums W b 0 [q, 1]) (hb : b < W.heap.size) :
    Calls Try.prog 14 #[.slice (some ⟨b, 0, none⟩) 2 2] W fun e w' => e = .returned (.tuple #[nv ((q + 1) % M256), .bool true]) ∧ Below W.heap.size W w' := by
  have e := add2g q 1 W b hq one_lt hn hb
  rw [decide_eq_true h] at e
  exact e
theorem add_fit (q : Nat) (hq : q < M256) (h : ¬ M256 ≤ q + 1) (W : World) (b : Nat) (hn : Nums W b 0 [q, 1]) (hb : b < W.heap.size) :
    Calls Try.prog 14 #[.slice (some ⟨b, 0, none⟩) 2 2] W fun e w' => e = .returned (.tuple #[nv (q + 1), .bool false]) ∧ Below W.heap.size W w' := by
  have e := add2g q 1 W b hq one_lt hn hb
  rw [decide_eq_false h, Nat.mod_eq_of_lt (by omega)] at e
  exact e
theorem zero_t (t : Nat) (ht : t < M256) (h : t = 0) (W : World) : Calls Try.prog 20 #[nv t] W fun e w' => e = .returned (.bool true) ∧ Below W.heap.size W w' := by
  have e := zero_any t W ht
  rw [decide_eq_true h] at e
  exact e
theorem zero_f (t : Nat) (ht : t < M256) (h : t ≠ 0) (W : World) : Calls Try.prog 20 #[nv t] W fun e w' => e = .returned (.bool false) ∧ Below W.heap.size W w' := by
  have e := zero_any t W ht
  rw [decide_eq_false h] at e
  exact e
theorem cmp_m (x y : Nat) (hx : x < M256) (hy : y < M256) (h : x < y) (W : World) : Calls Try.prog 15 #[nv x, nv y] W fun e w' => e = .returned (.int .i64 (-1)) ∧ Below W.heap.size W w' := by
  have e := cmp_any x y W hx hy
  rw [cmp_lt h] at e
  exact e
theorem walk (a b : Nat) (w : World) (ha : a < M256) (hb : b < M256) :
    Calls Try.prog 9 #[nv a, nv b] w fun e w' => e = .returned (.bool true) ∧ Below w.heap.size w w' := by
  have HC := fun W => cmp_any a b W ha hb
  rcases Nat.lt_or_ge b a with h | h
  · refine ordered b a hb ha (Nat.le_of_lt h) (fun _ _ w => Calls Try.prog 9 #[nv a, nv b] w fun e w' => e = .returned (.bool true) ∧ Below w.heap.size w w') ?_ ?_ ?_ w
    · intro w h0
      exact walk_zero_s a b _ 0 _ w HC (zero_t b hb h0) (fun W => work_any b W hb) (zero_t _ (work_lt b) (by rw [h0]; exact work_zero)) (by rw [cmp_gt h]; rfl)
    · intro w h1 h2
      exact walk_over_s a b _ _ _ 1 _ _ w HC (zero_f b hb (by omega)) (fun W => work_any b W hb) (fun W => work_any a W ha) (fun W => cmp_any _ _ W (work_lt b) (work_lt a)) (zero_f _ (work_lt b) (work_pos b hb h1)) (zero_f _ (work_lt a) (work_pos a ha (by omega))) (fun W => of_any 1 W (by decide)) (add_top a ha h2) (eq_top a h2) (cmp_ge_of (work_mono b a ha h1 (Nat.le_of_lt h))) (by rw [cmp_gt h]; rfl)
    · intro w h1 h2
      exact walk_main_s a b _ _ _ _ _ _ _ _ w HC (zero_f b hb (by omega)) (fun W => work_any b W hb) (fun W => work_any a W ha) (fun W => cmp_any _ _ W (work_lt b) (work_lt a)) (zero_f _ (work_lt b) (work_pos b hb h1)) (zero_f _ (work_lt a) (work_pos a ha (by omega))) (fun W => of_any 1 W (by decide)) (add_fit a ha h2) (fun W => not_any a W ha) (fun W => div_any (M256 - 1 - a) (a + 1) W (by omega) (by omega) (by omega)) (cmp_m _ _ (Nat.lt_trans (Nat.mod_lt _ (by omega)) (by omega)) (by omega) (Nat.mod_lt _ (by omega))) (cmp_ge_of (work_mono b a ha h1 (Nat.le_of_lt h))) (by rw [cmp_gt h]; rfl)
  · refine ordered a b ha hb h (fun _ _ w => Calls Try.prog 9 #[nv a, nv b] w fun e w' => e = .returned (.bool true) ∧ Below w.heap.size w w') ?_ ?_ ?_ w
    · intro w h0
      exact walk_zero a b _ 0 _ w HC (zero_t a ha h0) (fun W => work_any a W ha) (zero_t _ (work_lt a) (by rw [h0]; exact work_zero)) (decide_eq_false (by have := cmp_le_of h; omega))
    · intro w h1 h2
      exact walk_over a b _ _ _ 1 _ _ w HC (zero_f a ha (by omega)) (fun W => work_any a W ha) (fun W => work_any b W hb) (fun W => cmp_any _ _ W (work_lt a) (work_lt b)) (zero_f _ (work_lt a) (work_pos a ha h1)) (zero_f _ (work_lt b) (work_pos b hb (by omega))) (fun W => of_any 1 W (by decide)) (add_top b hb h2) (eq_top b h2) (cmp_ge_of (work_mono a b hb h1 h)) (decide_eq_false (by have := cmp_le_of h; omega))
    · intro w h1 h2
      exact walk_main a b _ _ _ _ _ _ _ _ w HC (zero_f a ha (by omega)) (fun W => work_any a W ha) (fun W => work_any b W hb) (fun W => cmp_any _ _ W (work_lt a) (work_lt b)) (zero_f _ (work_lt a) (work_pos a ha h1)) (zero_f _ (work_lt b) (work_pos b hb (by omega))) (fun W => of_any 1 W (by decide)) (add_fit b hb h2) (fun W => not_any b W hb) (fun W => div_any (M256 - 1 - b) (b + 1) W (by omega) (by omega) (by omega)) (cmp_m _ _ (Nat.lt_trans (Nat.mod_lt _ (by omega)) (by omega)) (by omega) (Nat.mod_lt _ (by omega))) (cmp_ge_of (work_mono a b hb h1 h)) (decide_eq_false (by have := cmp_le_of h; omega))

set_option maxRecDepth 100000 in
theorem lifted (os : Os) (started : os.Started) (H : Type) (enc : TypeId × Value → H) :
    ReturnsInHanded {} Try.checked os 9 .any (Rows.bitsWorkSpec.pre6 enc Try.prog Try.f9 Rows.bitsWorkRow.domain false) (Rows.bitsWorkSpec.post enc Try.prog Try.f9 false true false false) := by
  refine returnsInHanded_of_change (C := Try.checked) own started (by kernel_rfl) Try.func9
    (ChangeSpec.witness6 (enc := enc) (C := Try.checked) false ⟨#[], #[I4 0 0 0 0, I4 0 0 0 0], []⟩ 8 (by kernel_rfl) (by kernel_rfl) (by kernel_rfl) (by kernel_rfl)) ?_
  intro W base args ds gs before hval0 hW hcnd _
  have hval : ∀ (j : Nat) t v, Try.f9.params[j]? = some t → args[j]? = some v → Value.okWide Try.prog W .any base t v := hval0
  have hW' := hW
  obtain ⟨p, q, hA0, hV, rfl, hfz, hnd⟩ := hW
  have hA : DataW.TrodAll enc Try.prog W 0 (fun _ => true) true Try.f9.params.toList args.toList ds p := hA0
  rw [Try.params9] at hA hval
  obtain ⟨v0, vs0, d0, ds0, p0, q0, hargs, rfl, rfl, h0, r0⟩ := trodAll_cons hA
  obtain ⟨v1, vs1, d1, ds1, p1, q1, rfl, rfl, rfl, h1, r1⟩ := trodAll_cons r0
  obtain ⟨rfl, rfl, rfl⟩ := trodAll_nil r1
  obtain rfl : args = #[v0, v1] := by cases args; simp_all
  obtain ⟨rfl, rfl⟩ := trodVars_none hV
  have lt0 : ∀ x ∈ p0, x.block < W.heap.size := by obtain ⟨m, hm⟩ := h0; exact DataW.trod_lt m _ _ _ hm
  have lt1 : ∀ x ∈ p1, x.block < W.heap.size := by obtain ⟨m, hm⟩ := h1; exact DataW.trod_lt m _ _ _ hm
  obtain ⟨zs0, hl0, rfl, hz0⟩ := open_ints_arr (n := 4) (k := .u64) Try.underlying26 Try.underlying24 (by kernel_rfl) (by kernel_rfl) (hval 0 26 v0 rfl rfl) h0
  obtain ⟨a0, ha0, ea0⟩ := num_of_words hl0 hz0
  obtain ⟨zs1, hl1, rfl, hz1⟩ := open_ints_arr (n := 4) (k := .u64) Try.underlying26 Try.underlying24 (by kernel_rfl) (by kernel_rfl) (hval 1 26 v1 rfl rfl) h1
  obtain ⟨a1, ha1, ea1⟩ := num_of_words hl1 hz1
  clear hA0 hval0
  have hwalk := walk a0 a1 W ha0 ha1
  rw [← ea0, ← ea1] at hwalk
  refine hwalk.mono fun e W' ⟨he, bel⟩ => ?_
  subst he
  exact ⟨_, rfl, _, _, _, [], _, [], hW', trodAll_mk1 (shut_bool Try.underlying4 _), (trodAll_cons_mk (Below.trod laidOut (by kernel_rfl) (of_decide_eq_true (by kernel_rfl)) h0 bel lt0) (trodAll_cons_mk (Below.trod laidOut (by kernel_rfl) (of_decide_eq_true (by kernel_rfl)) h1 bel lt1) trodAll_mk0)), rfl, bel.frame _, fun h => by cases h⟩

theorem over : Rows.bitsWorkRow.holds Try.pinned (OpenSpec.ofChange Rows.bitsWorkSpec) :=
  OpenClaim.holds_of_wide 9 Try.f9 rfl rfl rfl rfl rfl rfl rfl ⟨rfl, rfl, rfl, rfl, rfl⟩ rfl rfl rfl rfl rfl (by kernel_rfl) Try.func9 (by kernel_rfl)
    (of_decide_eq_true (by kernel_rfl)) (by unfold Func.isWrapper; first | (rw [if_pos (by decide +kernel)]; kernel_rfl) | (rw [if_neg (by decide +kernel)]; exact ⟨rfl, rfl⟩))
    (fun os started H enc _ => lifted os started H enc)

theorem proved : Rows.BitsWorkSaid := over
#print axioms proved
end Go.Proofs.Ytiiaijoafahdmab.bitsWork
