/-
  Contracts of the document's own Short, and of the law's own: is a number what some bits are?
-/
import Derived.Test.YtkkkfcdoilojmaaRcC
namespace Go.Proofs.Ytkkkfcdoilojmaa
open Go.RowKit
set_option linter.unusedVariables false

set_option maxRecDepth 100000 in
set_option maxHeartbeats 2000000 in
theorem short3_any (v : Value) (t L : Nat) (w : World) (h : BX w v t L) (hL : L ≤ 10000) (ht : t < M256) :
    Calls Try.prog 23 #[v] w fun e w' => e = .returned (.int .u32 (shortN t : Int)) ∧ Below w.heap.size w w' := by
  have HX := Lib.hid h
  obtain ⟨s, c, rfl, hmc⟩ := h.slice
  obtain ⟨hsr, hlow, hsz⟩ := short_ref t ht
  have hse := szN_eq t
  have HLE := Lib.hid (fun W (h : BX W (.slice s L c) t L) => length_any _ t L W h (by omega))
  have HSH := Lib.hid (fun W (h : BX W (.slice s L c) t L) => shift_any _ t L (-(8 * ((szN t : Int) - 3))) W h (by omega) (by omega) (by omega))
  have hML : ((L : Int) + -(8 * ((szN t : Int) - 3))).toNat ≤ 20000 := by omega
  generalize ((L : Int) + -(8 * ((szN t : Int) - 3))).toNat = M at *
  obtain ⟨X, hX⟩ : ∃ X, X = shN t (-(8 * ((szN t : Int) - 3))) := ⟨_, rfl⟩
  rw [← hX] at hsr hlow HSH
  have HWO := Lib.hid (fun v W (h : BX W v X M) => words_any v X M W h (by omega))
  clear hX
  have hw4 : ((szN t : Nat) : Int) * 16777216 + ((wd0 (X % M256) : Nat) : Int) = ((shortN t : Nat) : Int) := by rw [hsr]; omega
  have hr0 : wd0 (X % M256) < 8388608 := hlow
  obtain ⟨N, hN⟩ : ∃ N, N = (-(8 * ((szN t : Int) - 3))) := ⟨_, rfl⟩
  rw [← hN] at HSH
  have q2 : -8 * ((szN t : Int) - 3) = N := by omega
  clear hN
  generalize X % M256 = R at *
  generalize decide (M256 ≤ X) = O at *
  generalize shortN t = r at *
  generalize szN t = z at *
  have hll : lg t ≤ 256 := (lg_256 t).2 ht
  generalize lg t = l at *
  have hq1 : (((l : Int) + 7) / 8) = (((l + 7) / 8 : Nat) : Int) := by omega
  obtain ⟨y, hy⟩ : ∃ y, y = (l + 7) / 8 := ⟨_, rfl⟩
  rw [← hy] at hq1 hse
  have hyl : y ≤ 33 := by omega
  have HW4 := Lib.hid hw4
  clear h hsr hlow hw4
  by_cases h0 : l = 0
  · have hz : z = y := by rw [hse, if_neg (by omega)]; rfl
    subst hz
    have hd0 : decide ((0 : Int) < (l : Int)) = false := decide_eq_false (by omega)
    have hd0' : decide (0 < l) = false := decide_eq_false (by omega)
    clear hse h0 hy
    go_enter Try.func23, Try.ntmps23
    go_wp2_with fail
    refine (HLE.out _ HX.out).mono ?_
    rintro e w1 ⟨rfl, h1⟩
    subst h1
    go_wp2_with fail
    refine (HLE.out _ HX.out).mono ?_
    rintro e w1 ⟨rfl, h1⟩
    subst h1
    go_wp2_with fail
    refine (HSH.out _ HX.out).mono ?_
    rintro e w2 ⟨v2, rfl, B2, hb2⟩
    have HW2 := Lib.hid (HWO.out v2 w2 B2)
    obtain ⟨s2, c2, rfl, _⟩ := B2.slice
    have hW2 := Lib.hid hb2
    clear hb2 B2 HSH HWO HLE
    go_wp2_with fail
    refine HW2.out.mono ?_
    rintro e w3 ⟨rfl, hb3⟩
    have hW3 := Lib.hid (hW2.out.trans (hb3.mono hW2.out.size))
    clear hb3 HW2
    go_wp2_with fail
    go_ret
    exact ⟨congrArg (fun x => Ending.returned (Value.int .u32 x)) HW4.out, hW3.out.alloc hW3.out.size _⟩
  · have hd0 : decide ((0 : Int) < (l : Int)) = true := decide_eq_true (by omega)
    have hd0' : decide (0 < l) = true := decide_eq_true (by omega)
    have hm8 : ((l : Int) % 8) = ((l % 8 : Nat) : Int) := by omega
    by_cases h8 : l % 8 = 0
    · have hz : z = y + 1 := by rw [hse, if_pos ⟨by omega, h8⟩]
      have hd8 : decide (((l % 8 : Nat) : Int) = 0) = true := decide_eq_true (by omega)
      have hd8' : decide (l % 8 = 0) = true := decide_eq_true h8
      have hqz : ((y : Int) + 1) = (z : Int) := by omega
      generalize l % 8 = l8 at *
      clear hse h0 hy hz
      go_enter Try.func23, Try.ntmps23
      go_wp2_with fail
      refine (HLE.out _ HX.out).mono ?_
      rintro e w1 ⟨rfl, h1⟩
      subst h1
      go_wp2_with fail
      refine (HLE.out _ HX.out).mono ?_
      rintro e w1 ⟨rfl, h1⟩
      subst h1
      go_wp2_with fail
      refine (HLE.out _ HX.out).mono ?_
      rintro e w1 ⟨rfl, h1⟩
      subst h1
      go_wp2_with fail
      refine (HSH.out _ HX.out).mono ?_
      rintro e w2 ⟨v2, rfl, B2, hb2⟩
      have HW2 := Lib.hid (HWO.out v2 w2 B2)
      obtain ⟨s2, c2, rfl, _⟩ := B2.slice
      have hW2 := Lib.hid hb2
      clear hb2 B2 HSH HWO HLE
      go_wp2_with fail
      refine HW2.out.mono ?_
      rintro e w3 ⟨rfl, hb3⟩
      have hW3 := Lib.hid (hW2.out.trans (hb3.mono hW2.out.size))
      clear hb3 HW2
      go_wp2_with fail
      go_ret
      exact ⟨congrArg (fun x => Ending.returned (Value.int .u32 x)) HW4.out, hW3.out.alloc hW3.out.size _⟩
    · have hz : z = y := by rw [hse, if_neg (by omega)]; rfl
      have hd8 : decide (((l % 8 : Nat) : Int) = 0) = false := decide_eq_false (by omega)
      have hd8' : decide (l % 8 = 0) = false := decide_eq_false h8
      subst hz
      generalize l % 8 = l8 at *
      clear hse h0 hy
      go_enter Try.func23, Try.ntmps23
      go_wp2_with fail
      refine (HLE.out _ HX.out).mono ?_
      rintro e w1 ⟨rfl, h1⟩
      subst h1
      go_wp2_with fail
      refine (HLE.out _ HX.out).mono ?_
      rintro e w1 ⟨rfl, h1⟩
      subst h1
      go_wp2_with fail
      refine (HLE.out _ HX.out).mono ?_
      rintro e w1 ⟨rfl, h1⟩
      subst h1
      go_wp2_with fail
      refine (HSH.out _ HX.out).mono ?_
      rintro e w2 ⟨v2, rfl, B2, hb2⟩
      have HW2 := Lib.hid (HWO.out v2 w2 B2)
      obtain ⟨s2, c2, rfl, _⟩ := B2.slice
      have hW2 := Lib.hid hb2
      clear hb2 B2 HSH HWO HLE
      go_wp2_with fail
      refine HW2.out.mono ?_
      rintro e w3 ⟨rfl, hb3⟩
      have hW3 := Lib.hid (hW2.out.trans (hb3.mono hW2.out.size))
      clear hb3 HW2
      go_wp2_with fail
      go_ret
      exact ⟨congrArg (fun x => Ending.returned (Value.int .u32 x)) HW4.out, hW3.out.alloc hW3.out.size _⟩
set_option maxRecDepth 100000 in
set_option maxHeartbeats 2000000 in
theorem is3_any (s m : Nat) (v : Value) (w : World) (hB : BX w v s m) (hm : m ≤ 1000000) (hsM : s < M256) :
    Calls Try.prog 19 #[nv s, v] w fun e w' => e = .returned (.bool true) ∧ Below w.heap.size w w' := by
  have HQ : Hid (∀ w, (Op.equalIn 10000 24 (nv s) (nv s)).run Try.prog w = .ok true w) := fun w => by
    have h := nv_eql s s hsM hsM w
    rwa [decide_eq_true rfl] at h
  have HB := Lib.hid hB
  obtain ⟨sl, c, rfl, _⟩ := hB.slice
  have HW : Hid (∀ W, BX W (.slice sl m c) s m → Calls Try.prog 34 #[.slice sl m c] W fun e w' => e = .returned (.tuple #[nv s, .bool (decide (M256 ≤ s))]) ∧ Below W.heap.size W w') := fun W h => by
    have h := words_any _ s m W h hm
    rw [Nat.mod_eq_of_lt hsM] at h
    exact h
  generalize decide (M256 ≤ s) = ov at *
  clear hB hsM
  go_enter Try.func19, Try.ntmps19
  go_wp2_with fail
  have hA : Below w.heap.size w (w.alloc (.cells (A4 (wd0 s) (wd1 s) (wd2 s) (wd3 s)) 24)) := (Below.refl _ _).alloc (Nat.le_refl _) _
  refine (HW.out _ (HB.out.keep hA)).mono ?_
  rintro e w1 ⟨rfl, hb⟩
  have S := Bk.keep (Bk.new w 24 (A4 (wd0 s) (wd1 s) (wd2 s) (wd3 s))) hb
  have hW : Below w.heap.size w w1 := below_step hA (by simp) hb
  clear hb hA HB HW
  go_upto_region 2 with fail
  refine wp_gen (fun W => Below w.heap.size w W ∧ Bk W w.heap.size 24 (A4 (wd0 s) (wd1 s) (wd2 s) (wd3 s)) ∧ Bk W w1.heap.size 23 (A4 (wd0 s) (wd1 s) (wd2 s) (wd3 s))) ⟨hW.alloc hW.size _, S.alloc _, Bk.new _ _ _⟩ ?_
  clear hW S
  generalize w1.heap.size = g7 at *
  rintro W ⟨hW, S, T⟩
  obtain ⟨s0, s1, s2, s3, _⟩ := S.f4
  obtain ⟨t0, t1, t2, t3, _⟩ := T.f4
  have hq := HQ.out
  go_wp2_with fail
  go_ret
  exact ⟨rfl, hW⟩
end Go.Proofs.Ytkkkfcdoilojmaa
