/-
  The contracts of package num's Of, Zero, Cmp, Not.
-/
import Derived.Test.YtljfhabhenaapaaDoorNumA
import Derived.Test.YtljfhabhenaapaaDoorBasZ
namespace Go.Proofs.YtljfhabhenaapaaDoor
open Go.RowKit
set_option maxRecDepth 100000
set_option linter.unusedVariables false

theorem eq4_run (a b c d a' b' c' d' : Int) (w : World) : (Op.equalIn 10000 43 (I4 a b c d) (I4 a' b' c' d')).run Tryd.prog w = .ok (a == a' && (b == b' && (c == c' && (d == d' && true)))) w :=
  run_equalIn_arr w 9998 43 41 4 .u64 #[.int .u64 a, .int .u64 b, .int .u64 c, .int .u64 d] #[.int .u64 a', .int .u64 b', .int .u64 c', .int .u64 d'] (fun i => [a, b, c, d].getD i 0) (fun i => [a', b', c', d'].getD i 0) (by kernel_rfl) (by kernel_rfl) (by kernel_rfl)
    (fun i hi => by
      have : i = 0 ∨ i = 1 ∨ i = 2 ∨ i = 3 := by omega
      rcases this with rfl | rfl | rfl | rfl <;> exact ⟨rfl, rfl⟩)

theorem nv_eql (m n : Nat) (hm : m < M256) (hn : n < M256) (w : World) : (Op.equalIn 10000 43 (nv m) (nv n)).run Tryd.prog w = .ok (decide (m = n)) w := by
  rw [nv, nv, W4, W4, eq4_run]
  congr 1
  by_cases h : m = n
  · subst h; simp
  · rw [decide_eq_false h]
    rw [Bool.eq_false_iff]
    intro hq
    simp only [Bool.and_eq_true, beq_iff_eq, Int.natCast_inj, and_true] at hq
    exact h (nv_inj m n hm hn hq.1 hq.2.1 hq.2.2.1 hq.2.2.2)

theorem nv_small (n : Nat) (h : n < B64) : nv n = W4 n 0 0 0 := by
  have := nv_of_eq n 0 0 0 n h B64_pos B64_pos B64_pos (by unfold ofW; simp)
  exact this.symm

set_option maxRecDepth 100000 in
set_option maxHeartbeats 1000000 in
theorem of_walk (n : Int) (w : World) :
    Calls Tryd.prog 23 #[.int .u64 n] w fun e w' => e = .returned (I4 n 0 0 0) ∧ Below w.heap.size w w' := by
  go_enter Tryd.func23, Tryd.ntmps23
  go_wp2
  refine bodyPost_ret (v := I4 n 0 0 0) (by simp [results, Tryd.results23, go_sem]) rfl ⟨rfl, ?_⟩
  repeat (first | exact Below.refl _ _ | refine Below.drew ?_ | refine Below.alloc ?_ (by first | omega | (simp; done) | (simp; omega)) _)

theorem of_any (n : Nat) (w : World) (h : n < B64) :
    Calls Tryd.prog 23 #[.int .u64 (n : Int)] w fun e w' => e = .returned (nv n) ∧ Below w.heap.size w w' := by
  rw [nv_small n h]
  exact of_walk (n : Int) w

set_option maxRecDepth 100000 in
set_option maxHeartbeats 1000000 in
theorem zero_walk (a b c d : Int) (t : Bool) (w : World) (he : ∀ w, (Op.equalIn 10000 43 (I4 a b c d) (I4 0 0 0 0)).run Tryd.prog w = .ok t w) :
    Calls Tryd.prog 58 #[I4 a b c d] w fun e w' => e = .returned (.bool t) ∧ Below w.heap.size w w' := by
  go_enter Tryd.func58, Tryd.ntmps58
  go_wp2
  go_ret
  refine ⟨rfl, ?_⟩
  repeat (first | exact Below.refl _ _ | refine Below.drew ?_ | refine Below.alloc ?_ (by first | omega | (simp; done) | (simp; omega)) _)

theorem zero_any (n : Nat) (w : World) (h : n < M256) :
    Calls Tryd.prog 58 #[nv n] w fun e w' => e = .returned (.bool (decide (n = 0))) ∧ Below w.heap.size w w' := by
  have h0 : nv 0 = I4 0 0 0 0 := by rw [nv_small 0 B64_pos]; rfl
  exact zero_walk _ _ _ _ _ w (fun w => by have := nv_eql n 0 h M256_pos w; rwa [h0] at this)

end Go.Proofs.YtljfhabhenaapaaDoor
