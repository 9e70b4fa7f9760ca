/-
  Contracts of the document's answer for layer 1: turn, low, List.
-/
import Derived.Test.YtiiaijoafahdmaaDoorRefM
import Derived.Test.YtiiaijoafahdmaaDoorStr
import Derived.Test.YtiiaijoafahdmaaDoorAppW
namespace Go.Proofs.YtiiaijoafahdmaaDoor
open Go.RowKit
set_option linter.unusedVariables false

theorem rem2 (y : Nat) : (y : Int) % 2 = ((y % 2 : Nat) : Int) := by omega
theorem turn1_int (y : Nat) (h : y < 4294967296) : ((y : Int) / 2 + (y : Int) % 2 * 2147483648) = ((turn1 y : Nat) : Int) := by unfold turn1; omega
set_option maxRecDepth 100000 in
set_option maxHeartbeats 1000000 in
theorem rturn_any (x n : Nat) (w : World) (hx : x < 4294967296) (hn : n ≤ 32) :
    Calls Tryd.prog 19 #[.int .u32 (x : Int), .int .i64 (n : Int)] w fun e w' => e = .returned (.int .u32 ((rotr x n : Nat) : Int)) ∧ w = w' := by
  rw [← turnN_rotr x n hx hn]
  go_enter Tryd.func19, Tryd.ntmps19
  go_wp2
  go_loop [0, 5] (fun v i => ∃ k : Nat, k ≤ n ∧ i = .int .i64 k ∧ (∃ y : Nat, y < 4294967296 ∧ Hid (y = turnN x k) ∧ v = .int .u32 (y : Int))) (fun _ i => n - (intOf i).toNat)
  case atStart => exact ⟨0, Nat.zero_le _, rfl, x, hx, rfl, rfl⟩
  case round =>
    obtain ⟨k, hk, rfl, y, hy, HY, rfl⟩ := hrel
    by_cases hlt : k < n
    · have hd : decide ((k : Int) < (n : Int)) = true := decide_eq_true (by omega)
      go_wp2
      go_round
      case rel =>
        refine ⟨k + 1, by omega, by go_num, turn1 y, turn1_lt y hy, ?_, ?_⟩
        · show _ = _
          rw [HY.out]; rfl
        · rw [← turn1_int y hy]
      case measure => simp [intOf]; omega
    · have hkn : k = n := by omega
      have hd : decide (k < n) = false := decide_eq_false (by omega)
      have HK := Lib.hid hkn
      clear hk hkn
      go_wp2
      go_ret
      refine ⟨?_, rfl⟩
      rw [HY.out, HK.out]
      rfl
set_option maxRecDepth 100000 in
set_option maxHeartbeats 1000000 in
theorem rlow_any (x n : Nat) (w : World) (hx : x < 4294967296) (hn : n ≤ 32) :
    Calls Tryd.prog 20 #[.int .u32 (x : Int), .int .i64 (n : Int)] w fun e w' => e = .returned (.int .u32 ((x >>> n : Nat) : Int)) ∧ w = w' := by
  rw [← lowN_form x n]
  go_enter Tryd.func20, Tryd.ntmps20
  go_wp2
  go_loop [0, 5] (fun v i => ∃ k : Nat, k ≤ n ∧ i = .int .i64 k ∧ (∃ y : Nat, y < 4294967296 ∧ Hid (y = lowN x k) ∧ v = .int .u32 (y : Int))) (fun _ i => n - (intOf i).toNat)
  case atStart => exact ⟨0, Nat.zero_le _, rfl, x, hx, rfl, rfl⟩
  case round =>
    obtain ⟨k, hk, rfl, y, hy, HY, rfl⟩ := hrel
    by_cases hlt : k < n
    · have hd : decide ((k : Int) < (n : Int)) = true := decide_eq_true (by omega)
      go_wp2
      go_round
      case rel =>
        refine ⟨k + 1, by omega, by go_num, y / 2, by omega, ?_, ?_⟩
        · show _ = _
          rw [HY.out]; rfl
        · rfl
      case measure => simp [intOf]; omega
    · have hkn : k = n := by omega
      have hd : decide (k < n) = false := decide_eq_false (by omega)
      have HK := Lib.hid hkn
      clear hk hkn
      go_wp2
      go_ret
      refine ⟨?_, rfl⟩
      rw [HY.out, HK.out]
      rfl
set_option maxRecDepth 100000 in
set_option maxHeartbeats 1000000 in
theorem rlist_any (w : World) :
    Calls Tryd.prog 15 #[] w fun e w' => e = .returned (.slice (some ⟨w.heap.size, 0, none⟩) 64 64) ∧ Below w.heap.size w w' ∧ Bk w' w.heap.size 34 (wA rkL) := by
  go_enter Tryd.func15, Tryd.ntmps15
  go_wp2_with fail
  go_ret
  exact ⟨rfl, (Below.refl _ _).alloc (Nat.le_refl _) _, Bk.new _ _ _⟩
/-- The three contracts in the forms in which a walk calls them. -/
theorem rturn_at (x : Nat) (m : Int) (w : World) (hx : x < 4294967296) (h1 : 0 ≤ m) (h2 : m ≤ 32) :
    Calls Tryd.prog 19 #[.int .u32 (x : Int), .int .i64 m] w fun e w' => e = .returned (.int .u32 ((rotr x m.toNat : Nat) : Int)) ∧ w = w' := by
  obtain ⟨n, rfl⟩ := Int.eq_ofNat_of_zero_le h1
  exact rturn_any x n w hx (by omega)
theorem rlow_at (x : Nat) (m : Int) (w : World) (hx : x < 4294967296) (h1 : 0 ≤ m) (h2 : m ≤ 32) :
    Calls Tryd.prog 20 #[.int .u32 (x : Int), .int .i64 m] w fun e w' => e = .returned (.int .u32 ((x >>> m.toNat : Nat) : Int)) ∧ w = w' := by
  obtain ⟨n, rfl⟩ := Int.eq_ofNat_of_zero_le h1
  exact rlow_any x n w hx (by omega)
end Go.Proofs.YtiiaijoafahdmaaDoor
