/-
  Contracts of the law's own: a number's bits; is a number what some bits are?
-/
import Derived.Test.YtkkkfcdoilojmaaRbE
import Derived.Test.YtkkkfcdoilojmaaBitW
namespace Go.Proofs.Ytkkkfcdoilojmaa
open Go.RowKit
set_option linter.unusedVariables false

set_option maxRecDepth 100000 in
set_option maxHeartbeats 1000000 in
theorem of_law (a : Nat) (w : World) (ha : a < M256) :
    Calls Try.prog 11 #[nv a] w fun e w' => ∃ v, e = .returned v ∧ BX w' v a 256 ∧ Below w.heap.size w w' := by
  have HO := Lib.hid (fun W => of2_any a W ha)
  clear ha
  go_enter Try.func11, Try.ntmps11
  go_wp2_with fail
  refine (HO.out _).mono ?_
  rintro e w1 ⟨v, rfl, hB, hb⟩
  have HB := Lib.hid hB
  obtain ⟨s, c, rfl, _⟩ := hB.slice
  have hW : Below w.heap.size w w1 := below_step ((Below.refl _ _).alloc (Nat.le_refl _) _) (by simp) hb
  clear hb hB
  go_wp2_with fail
  go_ret
  exact ⟨_, rfl, HB.out, hW⟩
set_option maxRecDepth 100000 in
set_option maxHeartbeats 8000000 in
theorem is_any (s X m : Nat) (ov : Bool) (v : Value) (w : World) (hB : BX w v X m) (hm : m ≤ 1000000) (hs : X % M256 = s) (ho : decide (M256 ≤ X) = ov) (hsM : s < M256) :
    Calls Try.prog 9 #[nv s, .bool ov, v] w fun e w' => e = .returned (.bool true) ∧ Below w.heap.size w w' := by
  have HQ : Hid (∀ w, (Op.equalIn 10000 24 (nv s) (nv s)).run Try.prog w = .ok true w) := fun w => by
    have h := nv_eql s s hsM hsM w
    rwa [decide_eq_true rfl] at h
  have HB := Lib.hid hB
  obtain ⟨sl, c, rfl, _⟩ := hB.slice
  have HW : Hid (∀ W, BX W (.slice sl m c) X m → Calls Try.prog 34 #[.slice sl m c] W fun e w' => e = .returned (.tuple #[nv s, .bool ov]) ∧ Below W.heap.size W w') := fun W h => by
    have h := words_any _ X m W h hm
    rw [hs, ho] at h
    exact h
  clear hB hs ho hsM
  go_enter Try.func9, Try.ntmps9
  go_wp2_with fail
  have hA : Below w.heap.size w (w.alloc (.cells (A4 (wd0 s) (wd1 s) (wd2 s) (wd3 s)) 24)) := (Below.refl _ _).alloc (Nat.le_refl _) _
  refine (HW.out _ (HB.out.keep hA)).mono ?_
  rintro e w1 ⟨rfl, hb⟩
  have S := Bk.keep (Bk.new w 24 (A4 (wd0 s) (wd1 s) (wd2 s) (wd3 s))) hb
  have hW : Below w.heap.size w w1 := below_step hA (by simp) hb
  clear hb hA HB HW
  go_upto_region 2 with fail
  refine wp_gen (fun W => Below w.heap.size w W ∧ Bk W w.heap.size 24 (A4 (wd0 s) (wd1 s) (wd2 s) (wd3 s)) ∧ Bk W w1.heap.size 23 (A4 (wd0 s) (wd1 s) (wd2 s) (wd3 s))) ⟨hW.alloc hW.size _, S.alloc _, Bk.new _ _ _⟩ ?_
  clear hW S
  generalize w1.heap.size = g7 at *
  rintro W ⟨hW, S, T⟩
  obtain ⟨s0, s1, s2, s3, _⟩ := S.f4
  obtain ⟨t0, t1, t2, t3, _⟩ := T.f4
  have hq := HQ.out
  go_wp2_with fail
  go_ret
  exact ⟨rfl, hW⟩
end Go.Proofs.Ytkkkfcdoilojmaa
