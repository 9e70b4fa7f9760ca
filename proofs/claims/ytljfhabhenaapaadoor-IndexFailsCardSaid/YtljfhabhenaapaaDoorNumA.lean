/-
  The contracts of package num's Of, Sub, Zero, Cmp, Not, Mul (each over whatever world: of what was there nothing turns).
-/
import Derived.Test.YtljfhabhenaapaaDoorRows
import Derived.Test.YtljfhabhenaapaaDoorBasZ
import Derived.WalkKit
import Derived.WalkLawsBesides
import Derived.RegionTactic
import Derived.BigRegion
import Derived.Outline
import Derived.LoopN
import Derived.Laws.Externs
namespace Go.Proofs.YtljfhabhenaapaaDoor
open Go.RowKit
set_option maxRecDepth 100000
set_option linter.unusedVariables false

/-- What the model answers a call of math/bits.Sub64 with, by its own two helpers. -/
def subEntry : Array Value → Sem Value := fun args => do
  let (x, y, b) ← Extern.MathBitsCarry.three "Sub64" args
  pure (Extern.MathBitsCarry.pair ((x + Extern.MathBitsCarry.m64 - y - b) % Extern.MathBitsCarry.m64) (if x < y + b then 1 else 0))

theorem sub64_run (x y b : Nat) (hb : b ≤ 1) (w : World) : (callFunc 79 #[.int .u64 (x : Int), .int .u64 (y : Int), .int .u64 (b : Int)]).run Tryd.prog w = .ok (.value (.tuple #[.int .u64 (bs x y b : Int), .int .u64 (bb x y b : Int)])) w := by
  have h : b = 0 ∨ b = 1 := by omega
  rw [run_callFunc_extern (fn := Tryd.f79) rfl (by kernel_rfl) (by kernel_rfl) (by kernel_rfl) (e := subEntry) (by kernel_rfl)]
  rcases h with rfl | rfl <;> rfl

theorem add64_run (x y b : Nat) (hb : b ≤ 1) (w : World) : (callFunc 53 #[.int .u64 (x : Int), .int .u64 (y : Int), .int .u64 (b : Int)]).run Tryd.prog w = .ok (.value (.tuple #[.int .u64 (as_ x y b : Int), .int .u64 (ac x y b : Int)])) w := by
  have h : b = 0 ∨ b = 1 := by omega
  rw [run_callFunc_extern (fn := Tryd.f53) rfl (by kernel_rfl) (by kernel_rfl) (by kernel_rfl) (e := add64Entry) (by kernel_rfl)]
  rcases h with rfl | rfl <;> rfl

abbrev I4 (a b c d : Int) : Value := .agg #[.int .u64 a, .int .u64 b, .int .u64 c, .int .u64 d]

set_option maxRecDepth 100000 in
set_option maxHeartbeats 1000000 in
theorem sub_walk (a0 a1 a2 a3 b0 b1 b2 b3 s0 s1 s2 s3 c1 c2 c3 c4 : Int) (w : World)
    (h0 : ∀ w : World, (callFunc 79 #[.int .u64 a0, .int .u64 b0, .int .u64 0]).run Tryd.prog w = .ok (.value (.tuple #[.int .u64 s0, .int .u64 c1])) w)
    (h1 : ∀ w : World, (callFunc 79 #[.int .u64 a1, .int .u64 b1, .int .u64 c1]).run Tryd.prog w = .ok (.value (.tuple #[.int .u64 s1, .int .u64 c2])) w)
    (h2 : ∀ w : World, (callFunc 79 #[.int .u64 a2, .int .u64 b2, .int .u64 c2]).run Tryd.prog w = .ok (.value (.tuple #[.int .u64 s2, .int .u64 c3])) w)
    (h3 : ∀ w : World, (callFunc 79 #[.int .u64 a3, .int .u64 b3, .int .u64 c3]).run Tryd.prog w = .ok (.value (.tuple #[.int .u64 s3, .int .u64 c4])) w) :
    Calls Tryd.prog 69 #[I4 a0 a1 a2 a3, I4 b0 b1 b2 b3] w fun e w' => e = .returned (.tuple #[I4 s0 s1 s2 s3, .bool (c4 != 0)]) ∧ Below w.heap.size w w' := by
  go_enter Tryd.func69, Tryd.ntmps69
  go_wp2
  refine wp_loop_rounds 5 ?_
  iterate 4
    rw [rounds_succ]
    go_wp2
    go_region
    go_wp2
  rw [rounds_succ]
  go_wp2
  refine bodyPost_ret (v := .tuple #[I4 s0 s1 s2 s3, .bool (c4 != 0)]) (by simp [results, Tryd.results69, go_sem]) rfl ⟨rfl, ?_⟩
  repeat (first | exact Below.refl _ _ | refine Below.drew ?_ | refine Below.alloc ?_ (by first | omega | (simp; done) | (simp; omega)) _)

theorem ne_zero_bool (n : Nat) (p : Prop) [Decidable p] (h : n = 0 ↔ ¬ p) : (((n : Nat) : Int) != 0) = decide p := by
  by_cases hp : p
  · have : n ≠ 0 := fun e => (h.1 e) hp
    simp [hp]; omega
  · have := h.2 hp
    simp [hp, this]

theorem sub_any (a b : Nat) (w : World) (ha : a < M256) (hb : b < M256) :
    Calls Tryd.prog 69 #[nv a, nv b] w fun e w' => e = .returned (.tuple #[nv ((a + M256 - b) % M256), .bool (decide (a < b))]) ∧ Below w.heap.size w w' := by
  obtain ⟨hs, l1, l2, l3, l4⟩ := sub_words a b ha hb
  refine (sub_walk _ _ _ _ _ _ _ _ _ _ _ _ _ _ _ _ w (fun w => by simpa using sub64_run (wd0 a) (wd0 b) 0 (by omega) w) (fun w => sub64_run (wd1 a) (wd1 b) _ l1 w) (fun w => sub64_run (wd2 a) (wd2 b) _ l2 w) (fun w => sub64_run (wd3 a) (wd3 b) _ l3 w)).mono ?_
  rintro e w' ⟨rfl, hb'⟩
  refine ⟨?_, hb'⟩
  have hlt := ofW_lt _ _ _ _ (bs_lt (wd0 a) (wd0 b) 0) (bs_lt (wd1 a) (wd1 b) (bb (wd0 a) (wd0 b) 0)) (bs_lt (wd2 a) (wd2 b) (bb (wd1 a) (wd1 b) (bb (wd0 a) (wd0 b) 0))) (bs_lt (wd3 a) (wd3 b) (bb (wd2 a) (wd2 b) (bb (wd1 a) (wd1 b) (bb (wd0 a) (wd0 b) 0))))
  rw [ne_zero_bool _ (a < b) ?h]
  case h =>
    generalize bb (wd3 a) (wd3 b) _ = c at *
    have : c = 0 ∨ c = 1 := by omega
    rcases this with rfl | rfl
    · simp only [Nat.mul_zero, Nat.add_zero] at hs; omega
    · simp only [Nat.mul_one] at hs; omega
  have e := nv_of_eq _ _ _ _ ((a + M256 - b) % M256) (bs_lt (wd0 a) (wd0 b) 0) (bs_lt (wd1 a) (wd1 b) (bb (wd0 a) (wd0 b) 0)) (bs_lt (wd2 a) (wd2 b) (bb (wd1 a) (wd1 b) (bb (wd0 a) (wd0 b) 0))) (bs_lt (wd3 a) (wd3 b) (bb (wd2 a) (wd2 b) (bb (wd1 a) (wd1 b) (bb (wd0 a) (wd0 b) 0)))) ?_
  · exact congrArg (fun x => Ending.returned (.tuple #[x, _])) e
  · generalize ofW _ _ _ _ = s at *
    generalize bb (wd3 a) (wd3 b) _ = c at *
    have : c = 0 ∨ c = 1 := by omega
    rcases this with rfl | rfl
    · simp only [Nat.mul_zero, Nat.add_zero] at hs
      have : a + M256 - b = s + M256 := by omega
      rw [this, Nat.add_mod_right, Nat.mod_eq_of_lt hlt]
    · simp only [Nat.mul_one] at hs
      have : a + M256 - b = s := by omega
      rw [this, Nat.mod_eq_of_lt hlt]

end Go.Proofs.YtljfhabhenaapaaDoor
