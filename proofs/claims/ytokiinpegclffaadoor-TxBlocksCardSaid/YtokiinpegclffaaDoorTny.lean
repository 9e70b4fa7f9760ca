/-
  Whether bytes are a transaction, as the document has it.
-/
import Derived.Test.YtokiinpegclffaaDoorTnx
namespace Go.Proofs.YtokiinpegclffaaDoor
open Go.RowKit
set_option linter.unusedVariables false
set_option linter.unusedSimpArgs false
set_option maxRecDepth 100000

theorem str_none (x : List Nat) : ((strN x).toList == ([] : List UInt8)) = decide (x = []) := by
  rw [strN_toList]
  cases x with
  | nil => rfl
  | cons a l => rw [decide_eq_false (by simp)]; rfl
theorem rend7_any (s : St) (w : World) (hI : StI s) :
    Calls Tryd.prog 57 #[stv s] w fun e w' => e = .returned (.int .i64 ((rdEnd s : Nat) : Int)) ∧ Below w.heap.size w w' := by
  have hs := str_none s.1
  have hr := rdEnd_route s hI
  obtain ⟨u, hu⟩ : ∃ u, u = strN s.1 := ⟨_, rfl⟩
  obtain ⟨c, hc⟩ : ∃ c, c = s.2 := ⟨_, rfl⟩
  obtain ⟨e0, he⟩ : ∃ e, e = rdEnd s := ⟨_, rfl⟩
  show Calls Tryd.prog _ #[.agg #[.string (strN s.1), .int .i64 ((s.2 : Nat) : Int)]] w _
  rw [← hu] at hs ⊢
  rw [← hc] at hr ⊢
  rw [← he] at hr ⊢
  have hA : Below w.heap.size w (w.alloc (.cells #[.string u, .int .i64 (c : Int)] 117)) := (Below.refl _ _).alloc (Nat.le_refl _) _
  have HA := Lib.hid hA
  by_cases h0 : c = 0
  · by_cases h1 : s.1 = []
    · rw [if_neg (by rintro ⟨_, h⟩; exact h h1)] at hr
      rw [decide_eq_true h1] at hs
      have e1 : e0 = 0 := by omega
      subst e1
      subst h0
      clear hr hu hc he hI hA h1
      go_enter Tryd.func57, Tryd.ntmps57
      go_wp2_with fail
      go_ret
      exact ⟨rfl, HA.out⟩
    · rw [if_pos ⟨h0, h1⟩] at hr
      rw [decide_eq_false h1] at hs
      subst hr
      subst h0
      clear hu hc he hI hA h1
      go_enter Tryd.func57, Tryd.ntmps57
      go_wp2_with fail
      go_ret
      exact ⟨rfl, HA.out⟩
  · rw [if_neg (by rintro ⟨h, _⟩; exact h0 h)] at hr
    have hq : ((c : Int) == 0) = false := by simp; omega
    subst hr
    clear hs hu hc he hI hA h0
    go_enter Tryd.func57, Tryd.ntmps57
    go_wp2_with fail
    go_ret
    exact ⟨rfl, HA.out⟩
theorem rreads_any (xs : List Nat) (w : World) (hl : xs.length ≤ 1000000) (hx : ∀ x ∈ xs, x < 256) :
    Calls Tryd.prog 24 #[.string (strN xs)] w fun e w' => e = .returned (.int .i64 ((rdEnd (nxSt (xs, 0)) : Nat) : Int)) ∧ Below w.heap.size w w' := by
  have hI : StI (xs, 0) := ⟨hl, by simp only; omega, hx, fun h => absurd rfl h⟩
  have HN : Hid (∀ W, Calls Tryd.prog 58 #[.agg #[.string (strN xs), .int .i64 0]] W fun e w' => e = .returned (stv (nxSt (xs, 0))) ∧ Below W.heap.size W w') := fun W => rnext_any (xs, 0) W hI
  have HE : Hid (∀ W, Calls Tryd.prog 57 #[stv (nxSt (xs, 0))] W fun e w' => e = .returned (.int .i64 ((rdEnd (nxSt (xs, 0)) : Nat) : Int)) ∧ Below W.heap.size W w') := fun W => rend7_any _ W (nxSt_inv _ hI)
  obtain ⟨v, hv⟩ : ∃ v, v = stv (nxSt (xs, 0)) := ⟨_, rfl⟩
  obtain ⟨e0, he⟩ : ∃ e, e = rdEnd (nxSt (xs, 0)) := ⟨_, rfl⟩
  obtain ⟨u, hu⟩ : ∃ u, u = strN xs := ⟨_, rfl⟩
  rw [← hv] at HN HE
  rw [← he] at HE ⊢
  rw [← hu] at HN ⊢
  clear hv he hu hI
  go_enter Tryd.func24, Tryd.ntmps24
  go_wp2_with fail
  refine (HN.out _).mono ?_
  rintro e w1 ⟨rfl, hb1⟩
  have HB := Lib.hid hb1
  clear hb1
  go_wp2_with fail
  refine (HE.out _).mono ?_
  rintro e w2 ⟨rfl, hb2⟩
  go_wp2_with fail
  go_ret
  exact ⟨rfl, below_step HB.out HB.out.size hb2⟩
end Go.Proofs.YtokiinpegclffaaDoor
