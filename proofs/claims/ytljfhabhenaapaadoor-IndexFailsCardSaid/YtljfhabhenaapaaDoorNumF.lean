/-
  The contracts of package num's Shl, Shr.
-/
import Derived.Test.YtljfhabhenaapaaDoorNumE
namespace Go.Proofs.YtljfhabhenaapaaDoor
open Go.RowKit
set_option maxRecDepth 100000
set_option linter.unusedVariables false

set_option maxRecDepth 100000 in
set_option maxHeartbeats 4000000 in
theorem shl_walk0 (a0 a1 a2 a3 n r : Int) (w : World) (h0 : 0 ≤ n) (h1 : n < 256) (hq : n / 64 = 0) (hr : n % 64 = r) (r0 : 0 ≤ r) (r1 : r < 64) :
    Calls Tryd.prog 74 #[I4 a0 a1 a2 a3, .int .i64 n] w fun e w' => e = .returned (I4 (IntKind.u64.wrap (a0 * 2 ^ r.toNat)) (bits BinOp.or IntKind.u64 (IntKind.u64.wrap (a1 * 2 ^ r.toNat)) (a0 / 2 ^ (64 - r).toNat)) (bits BinOp.or IntKind.u64 (IntKind.u64.wrap (a2 * 2 ^ r.toNat)) (a1 / 2 ^ (64 - r).toNat)) (bits BinOp.or IntKind.u64 (IntKind.u64.wrap (a3 * 2 ^ r.toNat)) (a2 / 2 ^ (64 - r).toNat))) ∧ Below w.heap.size w w' := by
  go_enter Tryd.func74, Tryd.ntmps74
  go_wp2
  refine wp_loop_rounds 5 ?_
  rw [rounds_succ]
  go_wp2
  rw [rounds_succ]
  go_wp2
  go_region
  go_wp2
  rw [rounds_succ]
  go_wp2
  go_region
  go_wp2
  rw [rounds_succ]
  go_wp2
  go_region
  go_wp2
  rw [rounds_succ]
  go_wp2
  refine bodyPost_ret (v := I4 (IntKind.u64.wrap (a0 * 2 ^ r.toNat)) (bits BinOp.or IntKind.u64 (IntKind.u64.wrap (a1 * 2 ^ r.toNat)) (a0 / 2 ^ (64 - r).toNat)) (bits BinOp.or IntKind.u64 (IntKind.u64.wrap (a2 * 2 ^ r.toNat)) (a1 / 2 ^ (64 - r).toNat)) (bits BinOp.or IntKind.u64 (IntKind.u64.wrap (a3 * 2 ^ r.toNat)) (a2 / 2 ^ (64 - r).toNat))) (by simp [results, Tryd.results74, go_sem]) rfl ⟨rfl, ?_⟩
  repeat (first | exact Below.refl _ _ | refine Below.drew ?_ | refine Below.alloc ?_ (by first | omega | (simp; done) | (simp; omega)) _)

set_option maxRecDepth 100000 in
set_option maxHeartbeats 4000000 in
theorem shl_walk1 (a0 a1 a2 a3 n r : Int) (w : World) (h0 : 0 ≤ n) (h1 : n < 256) (hq : n / 64 = 1) (hr : n % 64 = r) (r0 : 0 ≤ r) (r1 : r < 64) :
    Calls Tryd.prog 74 #[I4 a0 a1 a2 a3, .int .i64 n] w fun e w' => e = .returned (I4 0 (IntKind.u64.wrap (a0 * 2 ^ r.toNat)) (bits BinOp.or IntKind.u64 (IntKind.u64.wrap (a1 * 2 ^ r.toNat)) (a0 / 2 ^ (64 - r).toNat)) (bits BinOp.or IntKind.u64 (IntKind.u64.wrap (a2 * 2 ^ r.toNat)) (a1 / 2 ^ (64 - r).toNat))) ∧ Below w.heap.size w w' := by
  go_enter Tryd.func74, Tryd.ntmps74
  go_wp2
  refine wp_loop_rounds 5 ?_
  rw [rounds_succ]
  go_wp2
  rw [rounds_succ]
  go_wp2
  go_region
  go_wp2
  rw [rounds_succ]
  go_wp2
  go_region
  go_wp2
  rw [rounds_succ]
  go_wp2
  refine bodyPost_ret (v := I4 0 (IntKind.u64.wrap (a0 * 2 ^ r.toNat)) (bits BinOp.or IntKind.u64 (IntKind.u64.wrap (a1 * 2 ^ r.toNat)) (a0 / 2 ^ (64 - r).toNat)) (bits BinOp.or IntKind.u64 (IntKind.u64.wrap (a2 * 2 ^ r.toNat)) (a1 / 2 ^ (64 - r).toNat))) (by simp [results, Tryd.results74, go_sem]) rfl ⟨rfl, ?_⟩
  repeat (first | exact Below.refl _ _ | refine Below.drew ?_ | refine Below.alloc ?_ (by first | omega | (simp; done) | (simp; omega)) _)

set_option maxRecDepth 100000 in
set_option maxHeartbeats 4000000 in
theorem shl_walk2 (a0 a1 a2 a3 n r : Int) (w : World) (h0 : 0 ≤ n) (h1 : n < 256) (hq : n / 64 = 2) (hr : n % 64 = r) (r0 : 0 ≤ r) (r1 : r < 64) :
    Calls Tryd.prog 74 #[I4 a0 a1 a2 a3, .int .i64 n] w fun e w' => e = .returned (I4 0 0 (IntKind.u64.wrap (a0 * 2 ^ r.toNat)) (bits BinOp.or IntKind.u64 (IntKind.u64.wrap (a1 * 2 ^ r.toNat)) (a0 / 2 ^ (64 - r).toNat))) ∧ Below w.heap.size w w' := by
  go_enter Tryd.func74, Tryd.ntmps74
  go_wp2
  refine wp_loop_rounds 5 ?_
  rw [rounds_succ]
  go_wp2
  rw [rounds_succ]
  go_wp2
  go_region
  go_wp2
  rw [rounds_succ]
  go_wp2
  refine bodyPost_ret (v := I4 0 0 (IntKind.u64.wrap (a0 * 2 ^ r.toNat)) (bits BinOp.or IntKind.u64 (IntKind.u64.wrap (a1 * 2 ^ r.toNat)) (a0 / 2 ^ (64 - r).toNat))) (by simp [results, Tryd.results74, go_sem]) rfl ⟨rfl, ?_⟩
  repeat (first | exact Below.refl _ _ | refine Below.drew ?_ | refine Below.alloc ?_ (by first | omega | (simp; done) | (simp; omega)) _)

set_option maxRecDepth 100000 in
set_option maxHeartbeats 4000000 in
theorem shl_walk3 (a0 a1 a2 a3 n r : Int) (w : World) (h0 : 0 ≤ n) (h1 : n < 256) (hq : n / 64 = 3) (hr : n % 64 = r) (r0 : 0 ≤ r) (r1 : r < 64) :
    Calls Tryd.prog 74 #[I4 a0 a1 a2 a3, .int .i64 n] w fun e w' => e = .returned (I4 0 0 0 (IntKind.u64.wrap (a0 * 2 ^ r.toNat))) ∧ Below w.heap.size w w' := by
  go_enter Tryd.func74, Tryd.ntmps74
  go_wp2
  refine wp_loop_rounds 5 ?_
  rw [rounds_succ]
  go_wp2
  rw [rounds_succ]
  go_wp2
  refine bodyPost_ret (v := I4 0 0 0 (IntKind.u64.wrap (a0 * 2 ^ r.toNat))) (by simp [results, Tryd.results74, go_sem]) rfl ⟨rfl, ?_⟩
  repeat (first | exact Below.refl _ _ | refine Below.drew ?_ | refine Below.alloc ?_ (by first | omega | (simp; done) | (simp; omega)) _)

set_option maxRecDepth 100000 in
set_option maxHeartbeats 4000000 in
theorem shl_out (a0 a1 a2 a3 n : Int) (w : World) (h : n < 0 ∨ 256 ≤ n) :
    Calls Tryd.prog 74 #[I4 a0 a1 a2 a3, .int .i64 n] w fun e w' => e = .returned (I4 0 0 0 0) ∧ Below w.heap.size w w' := by
  rcases h with h | h
  all_goals
    go_enter Tryd.func74, Tryd.ntmps74
    go_wp2
    refine bodyPost_ret (v := I4 0 0 0 0) (by simp [results, Tryd.results74, go_sem]) rfl ⟨rfl, ?_⟩
    repeat (first | exact Below.refl _ _ | refine Below.drew ?_ | refine Below.alloc ?_ (by first | omega | (simp; done) | (simp; omega)) _)

end Go.Proofs.YtljfhabhenaapaaDoor
