/-
  Texts in one: NumA, NumB, NumC, ShelfL, NumE, NumF, NumG, DivM, NumI, NumN, NumR, Cnt, BitA, BitT.
-/
import Derived.Test.YtkhiicnahijnoaaDoorRows
import Derived.Test.YtkhiicnahijnoaaDoorNumM
import Derived.WalkKit
import Derived.WalkLawsBesides
import Derived.RegionTactic
import Derived.BigRegion
import Derived.Outline
import Derived.LoopN
import Derived.Laws.Externs
import Derived.Test.YtkhiicnahijnoaaDoorArr
import Derived.Test.YtkhiicnahijnoaaDoorBlk
import Derived.Shelf.Strconv.Itoa0
import Derived.Test.YtkhiicnahijnoaaDoorProg
import Derived.Test.YtkhiicnahijnoaaDoorShM
import Derived.Test.YtkhiicnahijnoaaDoorIdM
import Derived.Lib.QuietBelow
import Derived.BigQuiet
import Derived.Deep.RegionHeld3
import Derived.Deep.DrawnRows
import Derived.Deep.DeepCutAuto
import Derived.Laws.ResultCell
import Derived.Deep.RegionLaw
namespace Go.Proofs.YtkhiicnahijnoaaDoor
open Go.RowKit
set_option linter.unusedVariables false

/-- What the model answers a call of math/bits.Sub64 with, by its own two helpers. -/
def subEntry : Array Value → Sem Value := fun args => do
  let (x, y, b) ← Extern.MathBitsCarry.three "Sub64" args
  pure (Extern.MathBitsCarry.pair ((x + Extern.MathBitsCarry.m64 - y - b) % Extern.MathBitsCarry.m64) (if x < y + b then 1 else 0))

theorem sub64_run (x y b : Nat) (hb : b ≤ 1) (w : World) : (callFunc 69 #[.int .u64 (x : Int), .int .u64 (y : Int), .int .u64 (b : Int)]).run Tryd.prog w = .ok (.value (.tuple #[.int .u64 (bs x y b : Int), .int .u64 (bb x y b : Int)])) w := by
  have h : b = 0 ∨ b = 1 := by omega
  rw [run_callFunc_extern (fn := Tryd.f69) rfl (by kernel_rfl) (by kernel_rfl) (by kernel_rfl) (e := subEntry) (by kernel_rfl)]
  rcases h with rfl | rfl <;> rfl

theorem add64_run (x y b : Nat) (hb : b ≤ 1) (w : World) : (callFunc 75 #[.int .u64 (x : Int), .int .u64 (y : Int), .int .u64 (b : Int)]).run Tryd.prog w = .ok (.value (.tuple #[.int .u64 (as_ x y b : Int), .int .u64 (ac x y b : Int)])) w := by
  have h : b = 0 ∨ b = 1 := by omega
  rw [run_callFunc_extern (fn := Tryd.f75) rfl (by kernel_rfl) (by kernel_rfl) (by kernel_rfl) (e := add64Entry) (by kernel_rfl)]
  rcases h with rfl | rfl <;> rfl

abbrev I4 (a b c d : Int) : Value := .agg #[.int .u64 a, .int .u64 b, .int .u64 c, .int .u64 d]

set_option maxRecDepth 100000 in
set_option maxHeartbeats 1000000 in
theorem sub_walk (a0 a1 a2 a3 b0 b1 b2 b3 s0 s1 s2 s3 c1 c2 c3 c4 : Int) (w : World)
    (h0 : ∀ w : World, (callFunc 69 #[.int .u64 a0, .int .u64 b0, .int .u64 0]).run Tryd.prog w = .ok (.value (.tuple #[.int .u64 s0, .int .u64 c1])) w)
    (h1 : ∀ w : World, (callFunc 69 #[.int .u64 a1, .int .u64 b1, .int .u64 c1]).run Tryd.prog w = .ok (.value (.tuple #[.int .u64 s1, .int .u64 c2])) w)
    (h2 : ∀ w : World, (callFunc 69 #[.int .u64 a2, .int .u64 b2, .int .u64 c2]).run Tryd.prog w = .ok (.value (.tuple #[.int .u64 s2, .int .u64 c3])) w)
    (h3 : ∀ w : World, (callFunc 69 #[.int .u64 a3, .int .u64 b3, .int .u64 c3]).run Tryd.prog w = .ok (.value (.tuple #[.int .u64 s3, .int .u64 c4])) w) :
    Calls Tryd.prog 44 #[I4 a0 a1 a2 a3, I4 b0 b1 b2 b3] w fun e w' => e = .returned (.tuple #[I4 s0 s1 s2 s3, .bool (c4 != 0)]) ∧ Below w.heap.size w w' := by
  go_enter Tryd.func44, Tryd.ntmps44
  go_wp2
  refine wp_loop_rounds 5 ?_
  iterate 4
    rw [rounds_succ]
    go_wp2
    go_region
    go_wp2
  rw [rounds_succ]
  go_wp2
  refine bodyPost_ret (v := .tuple #[I4 s0 s1 s2 s3, .bool (c4 != 0)]) (by simp [results, Tryd.results44, go_sem]) rfl ⟨rfl, ?_⟩
  repeat (first | exact Below.refl _ _ | refine Below.drew ?_ | refine Below.alloc ?_ (by first | omega | (simp; done) | (simp; omega)) _)

theorem ne_zero_bool (n : Nat) (p : Prop) [Decidable p] (h : n = 0 ↔ ¬ p) : (((n : Nat) : Int) != 0) = decide p := by
  by_cases hp : p
  · have : n ≠ 0 := fun e => (h.1 e) hp
    simp [hp]; omega
  · have := h.2 hp
    simp [hp, this]

theorem sub_any (a b : Nat) (w : World) (ha : a < M256) (hb : b < M256) :
    Calls Tryd.prog 44 #[nv a, nv b] w fun e w' => e = .returned (.tuple #[nv ((a + M256 - b) % M256), .bool (decide (a < b))]) ∧ Below w.heap.size w w' := by
  obtain ⟨hs, l1, l2, l3, l4⟩ := sub_words a b ha hb
  refine (sub_walk _ _ _ _ _ _ _ _ _ _ _ _ _ _ _ _ w (fun w => by simpa using sub64_run (wd0 a) (wd0 b) 0 (by omega) w) (fun w => sub64_run (wd1 a) (wd1 b) _ l1 w) (fun w => sub64_run (wd2 a) (wd2 b) _ l2 w) (fun w => sub64_run (wd3 a) (wd3 b) _ l3 w)).mono ?_
  rintro e w' ⟨rfl, hb'⟩
  refine ⟨?_, hb'⟩
  have hlt := ofW_lt _ _ _ _ (bs_lt (wd0 a) (wd0 b) 0) (bs_lt (wd1 a) (wd1 b) (bb (wd0 a) (wd0 b) 0)) (bs_lt (wd2 a) (wd2 b) (bb (wd1 a) (wd1 b) (bb (wd0 a) (wd0 b) 0))) (bs_lt (wd3 a) (wd3 b) (bb (wd2 a) (wd2 b) (bb (wd1 a) (wd1 b) (bb (wd0 a) (wd0 b) 0))))
  rw [ne_zero_bool _ (a < b) ?h]
  case h =>
    generalize bb (wd3 a) (wd3 b) _ = c at *
    have : c = 0 ∨ c = 1 := by omega
    rcases this with rfl | rfl
    · simp only [Nat.mul_zero, Nat.add_zero] at hs; omega
    · simp only [Nat.mul_one] at hs; omega
  have e := nv_of_eq _ _ _ _ ((a + M256 - b) % M256) (bs_lt (wd0 a) (wd0 b) 0) (bs_lt (wd1 a) (wd1 b) (bb (wd0 a) (wd0 b) 0)) (bs_lt (wd2 a) (wd2 b) (bb (wd1 a) (wd1 b) (bb (wd0 a) (wd0 b) 0))) (bs_lt (wd3 a) (wd3 b) (bb (wd2 a) (wd2 b) (bb (wd1 a) (wd1 b) (bb (wd0 a) (wd0 b) 0)))) ?_
  · exact congrArg (fun x => Ending.returned (.tuple #[x, _])) e
  · generalize ofW _ _ _ _ = s at *
    generalize bb (wd3 a) (wd3 b) _ = c at *
    have : c = 0 ∨ c = 1 := by omega
    rcases this with rfl | rfl
    · simp only [Nat.mul_zero, Nat.add_zero] at hs
      have : a + M256 - b = s + M256 := by omega
      rw [this, Nat.add_mod_right, Nat.mod_eq_of_lt hlt]
    · simp only [Nat.mul_one] at hs
      have : a + M256 - b = s := by omega
      rw [this, Nat.mod_eq_of_lt hlt]

end Go.Proofs.YtkhiicnahijnoaaDoor
namespace Go.Proofs.YtkhiicnahijnoaaDoor
open Go.RowKit
set_option linter.unusedVariables false

theorem eq4_run (a b c d a' b' c' d' : Int) (w : World) : (Op.equalIn 10000 34 (I4 a b c d) (I4 a' b' c' d')).run Tryd.prog w = .ok (a == a' && (b == b' && (c == c' && (d == d' && true)))) w :=
  run_equalIn_arr w 9998 34 32 4 .u64 #[.int .u64 a, .int .u64 b, .int .u64 c, .int .u64 d] #[.int .u64 a', .int .u64 b', .int .u64 c', .int .u64 d'] (fun i => [a, b, c, d].getD i 0) (fun i => [a', b', c', d'].getD i 0) (by kernel_rfl) (by kernel_rfl) (by kernel_rfl)
    (fun i hi => by
      have : i = 0 ∨ i = 1 ∨ i = 2 ∨ i = 3 := by omega
      rcases this with rfl | rfl | rfl | rfl <;> exact ⟨rfl, rfl⟩)

theorem nv_eql (m n : Nat) (hm : m < M256) (hn : n < M256) (w : World) : (Op.equalIn 10000 34 (nv m) (nv n)).run Tryd.prog w = .ok (decide (m = n)) w := by
  rw [nv, nv, W4, W4, eq4_run]
  congr 1
  by_cases h : m = n
  · subst h; simp
  · rw [decide_eq_false h]
    rw [Bool.eq_false_iff]
    intro hq
    simp only [Bool.and_eq_true, beq_iff_eq, Int.natCast_inj, and_true] at hq
    exact h (nv_inj m n hm hn hq.1 hq.2.1 hq.2.2.1 hq.2.2.2)

theorem nv_small (n : Nat) (h : n < B64) : nv n = W4 n 0 0 0 := by
  have := nv_of_eq n 0 0 0 n h B64_pos B64_pos B64_pos (by unfold ofW; simp)
  exact this.symm

set_option maxRecDepth 100000 in
set_option maxHeartbeats 1000000 in
theorem of_walk (n : Int) (w : World) :
    Calls Tryd.prog 33 #[.int .u64 n] w fun e w' => e = .returned (I4 n 0 0 0) ∧ Below w.heap.size w w' := by
  go_enter Tryd.func33, Tryd.ntmps33
  go_wp2
  refine bodyPost_ret (v := I4 n 0 0 0) (by simp [results, Tryd.results33, go_sem]) rfl ⟨rfl, ?_⟩
  repeat (first | exact Below.refl _ _ | refine Below.drew ?_ | refine Below.alloc ?_ (by first | omega | (simp; done) | (simp; omega)) _)

theorem of_any (n : Nat) (w : World) (h : n < B64) :
    Calls Tryd.prog 33 #[.int .u64 (n : Int)] w fun e w' => e = .returned (nv n) ∧ Below w.heap.size w w' := by
  rw [nv_small n h]
  exact of_walk (n : Int) w

set_option maxRecDepth 100000 in
set_option maxHeartbeats 1000000 in
theorem zero_walk (a b c d : Int) (t : Bool) (w : World) (he : ∀ w, (Op.equalIn 10000 34 (I4 a b c d) (I4 0 0 0 0)).run Tryd.prog w = .ok t w) :
    Calls Tryd.prog 43 #[I4 a b c d] w fun e w' => e = .returned (.bool t) ∧ Below w.heap.size w w' := by
  go_enter Tryd.func43, Tryd.ntmps43
  go_wp2
  go_ret
  refine ⟨rfl, ?_⟩
  repeat (first | exact Below.refl _ _ | refine Below.drew ?_ | refine Below.alloc ?_ (by first | omega | (simp; done) | (simp; omega)) _)

theorem zero_any (n : Nat) (w : World) (h : n < M256) :
    Calls Tryd.prog 43 #[nv n] w fun e w' => e = .returned (.bool (decide (n = 0))) ∧ Below w.heap.size w w' := by
  have h0 : nv 0 = I4 0 0 0 0 := by rw [nv_small 0 B64_pos]; rfl
  exact zero_walk _ _ _ _ _ w (fun w => by have := nv_eql n 0 h M256_pos w; rwa [h0] at this)

end Go.Proofs.YtkhiicnahijnoaaDoor
namespace Go.Proofs.YtkhiicnahijnoaaDoor
open Go.RowKit
set_option linter.unusedVariables false

/-- The cells of such numbers, one behind the other. -/
def Nums (w : World) (b off : Nat) (xs : List Nat) : Prop := ∀ (k x : Nat), xs[k]? = some x →
  w.cell? ⟨b, off + k * 4, none⟩ = some (.int .u64 (wd0 x : Int)) ∧ w.cell? ⟨b, off + k * 4 + 1, none⟩ = some (.int .u64 (wd1 x : Int)) ∧
  w.cell? ⟨b, off + k * 4 + 2, none⟩ = some (.int .u64 (wd2 x : Int)) ∧ w.cell? ⟨b, off + k * 4 + 3, none⟩ = some (.int .u64 (wd3 x : Int))

abbrev A4 (a b c d : Nat) : Array Value := #[.int .u64 (a : Int), .int .u64 (b : Int), .int .u64 (c : Int), .int .u64 (d : Int)]

theorem take_sum_succ (xs : List Nat) (k x : Nat) (h : xs[k]? = some x) : (xs.take (k + 1)).sum = (xs.take k).sum + x := by
  rw [List.take_add_one, h]; simp

/-- What one round makes of the sum so far. -/
theorem add_step (s x : Nat) (hx : x < M256) :
    let p := s % M256
    let c1 := ac (wd0 p) (wd0 x) 0
    let c2 := ac (wd1 p) (wd1 x) c1
    let c3 := ac (wd2 p) (wd2 x) c2
    let c4 := ac (wd3 p) (wd3 x) c3
    as_ (wd0 p) (wd0 x) 0 = wd0 ((s + x) % M256) ∧ as_ (wd1 p) (wd1 x) c1 = wd1 ((s + x) % M256) ∧ as_ (wd2 p) (wd2 x) c2 = wd2 ((s + x) % M256) ∧ as_ (wd3 p) (wd3 x) c3 = wd3 ((s + x) % M256) ∧
    (c4 = 0 ↔ ¬ M256 ≤ p + x) ∧ c1 ≤ 1 ∧ c2 ≤ 1 ∧ c3 ≤ 1 := by
  intro p c1 c2 c3 c4
  have hp : p < M256 := Nat.mod_lt _ M256_pos
  obtain ⟨hs, l1, l2, l3, l4⟩ := add_words p x hp hx
  have hlt := ofW_lt _ _ _ _ (as_lt (wd0 p) (wd0 x) 0) (as_lt (wd1 p) (wd1 x) c1) (as_lt (wd2 p) (wd2 x) c2) (as_lt (wd3 p) (wd3 x) c3)
  obtain ⟨e1, e2⟩ := add_mod_of _ _ _ hlt hs
  have e3 : (s + x) % M256 = (p + x) % M256 := by
    show _ = (s % M256 + x) % M256
    rw [Nat.mod_add_mod]
  rw [e3, e1]
  obtain ⟨q0, q1, q2, q3⟩ := wd_ofW _ _ _ _ (as_lt (wd0 p) (wd0 x) 0) (as_lt (wd1 p) (wd1 x) c1) (as_lt (wd2 p) (wd2 x) c2) (as_lt (wd3 p) (wd3 x) c3)
  exact ⟨q0.symm, q1.symm, q2.symm, q3.symm, by rw [e2]; omega, l1, l2, l3⟩

theorem over_step (s x : Nat) : (decide (M256 ≤ s) || decide (M256 ≤ s % M256 + x)) = decide (M256 ≤ s + x) := by
  by_cases h : M256 ≤ s
  · have : M256 ≤ s + x := by omega
    simp [h, this]
  · rw [Nat.mod_eq_of_lt (by omega)]
    simp [h]

set_option maxRecDepth 100000 in
set_option maxHeartbeats 2000000 in
theorem nadd_any (xs : List Nat) (b off cap : Nat) (w : World) (hl : xs.length ≤ 1000000) (hlt : ∀ x ∈ xs, x < M256) (hn : Nums w b off xs) (hb : xs = [] ∨ b < w.heap.size) :
    Calls Tryd.prog 57 #[.slice (some ⟨b, off, none⟩) xs.length cap] w fun e w' => e = .returned (.tuple #[nv (xs.sum % M256), .bool (decide (M256 ≤ xs.sum))]) ∧ Below w.heap.size w w' := by
  have z0 : wd0 0 = 0 ∧ wd1 0 = 0 ∧ wd2 0 = 0 ∧ wd3 0 = 0 := by simp [wd0, wd1, wd2, wd3]
  have Z := Lib.hid z0
  clear z0
  have HLT := Lib.hid hlt
  have HN := Lib.hid hn
  have HB := Lib.hid hb
  clear hlt hn hb
  go_enter Tryd.func57, Tryd.ntmps57
  go_wp2
  go_loopw [5, 12] (fun o i wr => ∃ k : Nat, k ≤ xs.length ∧ i = .int .i64 k ∧ (∃ ob : Bool, o = .bool ob ∧ Hid (ob = decide (M256 ≤ (xs.take k).sum))) ∧ Below w.heap.size w wr ∧
    (∃ p : Nat, Hid (p = (xs.take k).sum % M256) ∧ Bk wr (w.heap.size + 1) 34 (A4 (wd0 p) (wd1 p) (wd2 p) (wd3 p))) ∧ Bk wr w.heap.size 34 #[.int .u64 0, .int .u64 0, .int .u64 0, .int .u64 0]) (fun _ i _ => xs.length - (intOf i).toNat)
  case atStart =>
    refine ⟨0, Nat.zero_le _, rfl, ⟨false, rfl, by have := M256_pos; simp [Hid]; omega⟩, ?_, ⟨0, by simp [Hid], ?_⟩, ?_⟩
    · repeat (first | exact Below.refl _ _ | refine Below.drew ?_ | refine Below.alloc ?_ (by first | omega | (simp; done) | (simp; omega)) _)
    · obtain ⟨e0, e1, e2, e3⟩ := Z.out
      rw [A4, e0, e1, e2, e3]
      exact Bk.new' _ _ _ (by simp)
    · exact (Bk.new _ _ _).alloc _
  case round =>
    obtain ⟨k, hk, rfl, ⟨ob, rfl, HO⟩, hbe, ⟨p, HP, hS⟩, hR⟩ := hrel
    have hz := hS.lt
    have s0 : wr.cell? ⟨w.heap.size + 1, 0, none⟩ = some (.int .u64 (wd0 p : Int)) := hS.cell 0
    have s1 : wr.cell? ⟨w.heap.size + 1, 1, none⟩ = some (.int .u64 (wd1 p : Int)) := hS.cell 1
    have s2 : wr.cell? ⟨w.heap.size + 1, 2, none⟩ = some (.int .u64 (wd2 p : Int)) := hS.cell 2
    have s3 : wr.cell? ⟨w.heap.size + 1, 3, none⟩ = some (.int .u64 (wd3 p : Int)) := hS.cell 3
    have f0 := hS.frozen 0
    have f1 := hS.frozen 1
    have f2 := hS.frozen 2
    have f3 := hS.frozen 3
    have t0 : wr.cell? ⟨w.heap.size, 0, none⟩ = some (.int .u64 0) := hR.cell 0
    have t1 : wr.cell? ⟨w.heap.size, 1, none⟩ = some (.int .u64 0) := hR.cell 1
    have t2 : wr.cell? ⟨w.heap.size, 2, none⟩ = some (.int .u64 0) := hR.cell 2
    have t3 : wr.cell? ⟨w.heap.size, 3, none⟩ = some (.int .u64 0) := hR.cell 3
    have k0 := hR.frozen 0
    have k1 := hR.frozen 1
    have k2 := hR.frozen 2
    have k3 := hR.frozen 3
    by_cases hlt : k < xs.length
    · obtain ⟨x, hx⟩ : ∃ x, xs[k]? = some x := ⟨xs[k], List.getElem?_eq_getElem hlt⟩
      have hbw : b < w.heap.size := by
        rcases HB.out with h | h
        · subst h; simp at hlt
        · exact h
      obtain ⟨g0, g1, g2, g3⟩ := HN.out k x hx
      have hc0 : wr.cell? ⟨b, off + k * 4, none⟩ = _ := (hbe.cell (p := ⟨b, _, none⟩) hbw).trans g0
      have hc1 : wr.cell? ⟨b, off + k * 4 + 1, none⟩ = _ := (hbe.cell (p := ⟨b, _, none⟩) hbw).trans g1
      have hc2 : wr.cell? ⟨b, off + k * 4 + 2, none⟩ = _ := (hbe.cell (p := ⟨b, _, none⟩) hbw).trans g2
      have hc3 : wr.cell? ⟨b, off + k * 4 + 3, none⟩ = _ := (hbe.cell (p := ⟨b, _, none⟩) hbw).trans g3
      have hxl := HLT.out x (List.mem_of_getElem? hx)
      obtain ⟨q0, q1, q2, q3, q4, l1, l2, l3⟩ := add_step (xs.take k).sum x hxl
      rw [← HP.out] at q0 q1 q2 q3 q4 l1 l2 l3
      have r0 : ∀ w : World, (callFunc 75 #[.int .u64 (wd0 p : Int), .int .u64 (wd0 x : Int), .int .u64 0]).run Tryd.prog w = _ := fun w => by simpa using add64_run (wd0 p) (wd0 x) 0 (by omega) w
      have r1 := add64_run (wd1 p) (wd1 x) _ l1
      have r2 := add64_run (wd2 p) (wd2 x) _ l2
      have r3 := add64_run (wd3 p) (wd3 x) _ l3
      rw [q0] at r0; rw [q1] at r1; rw [q2] at r2; rw [q3] at r3
      have QO : Hid ((((ac (wd3 p) (wd3 x) (ac (wd2 p) (wd2 x) (ac (wd1 p) (wd1 x) (ac (wd0 p) (wd0 x) 0))) : Nat) : Int) != 0) = decide (M256 ≤ p + x)) := ne_zero_bool _ _ q4
      have HE := take_sum_succ xs k x hx
      rw [← HE] at r0 r1 r2 r3
      have HE := Lib.hid HE
      generalize ac (wd3 p) (wd3 x) (ac (wd2 p) (wd2 x) (ac (wd1 p) (wd1 x) (ac (wd0 p) (wd0 x) 0))) = c4 at *
      generalize ac (wd2 p) (wd2 x) (ac (wd1 p) (wd1 x) (ac (wd0 p) (wd0 x) 0)) = c3 at *
      generalize ac (wd1 p) (wd1 x) (ac (wd0 p) (wd0 x) 0) = c2 at *
      generalize ac (wd0 p) (wd0 x) 0 = c1 at *
      have HX := Lib.hid hx
      clear q0 q1 q2 q3 q4 l1 l2 l3 g0 g1 g2 g3 hx hxl
      go_wp2
      refine wp_loop_rounds 5 ?_
      iterate 4
        rw [rounds_succ]
        go_wp2
        go_region
        go_wp2
      rw [rounds_succ]
      have hpos := Nat.le_of_lt hz
      cases ob
      all_goals go_wp2
      all_goals go_roundw
      case rel =>
        refine ⟨k + 1, by omega, by go_num, ⟨_, rfl, ?_⟩, Below.drew (Below.drew (Below.drew (Below.drew (Below.alloc (Below.set4 hbe (by omega) _ _ _ _) (by simp [World.setCell]; omega) _)))), ⟨_, ?_, (((((hS.set4 _ _ _ _).alloc _).drew).drew).drew).drew⟩, (((((hR.far4 (by omega) _ _ _ _).alloc _).drew).drew).drew).drew⟩
        · show _ = _
          rw [QO.out, HE.out, ← over_step (xs.take k).sum x, ← HO.out, ← HP.out]; simp
        · show _ = _
          rw [HE.out]
      case measure => simp [intOf]; omega
      case rel =>
        refine ⟨k + 1, by omega, by go_num, ⟨_, rfl, ?_⟩, Below.drew (Below.drew (Below.drew (Below.drew (Below.alloc (Below.set4 hbe (by omega) _ _ _ _) (by simp [World.setCell]; omega) _)))), ⟨_, ?_, (((((hS.set4 _ _ _ _).alloc _).drew).drew).drew).drew⟩, (((((hR.far4 (by omega) _ _ _ _).alloc _).drew).drew).drew).drew⟩
        · show _ = _
          rw [HE.out, ← over_step (xs.take k).sum x, ← HO.out]; simp
        · show _ = _
          rw [HE.out]
      case measure => simp [intOf]; omega
    · have hkl : k = xs.length := by omega
      have HK := Lib.hid hkl
      clear hkl
      go_wp2
      refine bodyPost_ret (v := .tuple #[nv p, .bool ob]) (by simp [results, Tryd.results57, go_sem, t0, t1, t2, t3]) rfl ⟨?_, Below.set4 hbe (by omega) _ _ _ _⟩
      have e1 : p = xs.sum % M256 := by rw [HP.out, HK.out, List.take_length]
      have e2 : ob = decide (M256 ≤ xs.sum) := by rw [HO.out, HK.out, List.take_length]
      subst e1 e2
      rfl
end Go.Proofs.YtkhiicnahijnoaaDoor
namespace Go.Proofs
open Go.Shelf
def Tryd.lays129_ren : Go.Shelf.Ren := ⟨fun | 129 => 66 | n => n, fun | 53 => 32 | 3 => 3 | 4 => 4 | 46 => 76 | 5 => 5 | 9 => 9 | n => n, fun | n => n⟩
theorem Tryd.lays129 : Go.Proofs.Lays.n129 Tryd.prog Tryd.lays129_ren := {
  mixed := by kernel_rfl
  f129 := Tryd.func66.trans (congrArg some (by kernel_rfl))
  t3 := Tryd.underlying3
  a3 := Tryd.isAgg3
  z3 := Tryd.sizeOf3
  v3 := Tryd.zeroValue3
  t4 := Tryd.underlying4
  a4 := Tryd.isAgg4
  z4 := Tryd.sizeOf4
  v4 := Tryd.zeroValue4
  t5 := Tryd.underlying5
  a5 := Tryd.isAgg5
  z5 := Tryd.sizeOf5
  v5 := Tryd.zeroValue5
  t9 := Tryd.underlying9
  a9 := Tryd.isAgg9
  z9 := Tryd.sizeOf9
  v9 := Tryd.zeroValue9
  t46 := Tryd.underlying76
  a46 := Tryd.isAgg76
  z46 := Tryd.sizeOf76
  v46 := Tryd.zeroValue76
  t53 := Tryd.underlying32
  a53 := Tryd.isAgg32
  z53 := Tryd.sizeOf32
  v53 := Tryd.zeroValue32 }
theorem Tryd.bits_Len64 (x : Int) (w : World) (h0 : 0 ≤ x) (h1 : x ≤ 18446744073709551615) :
    Calls Tryd.prog 66 #[.int .u64 x] w fun e w' => e = .returned (.int .i64 (Lib.bitLen x.toNat)) ∧ w' = w := Any.bits_Len64 Tryd.lays129 x w h0 h1
end Go.Proofs
namespace Go.Proofs.YtkhiicnahijnoaaDoor
open Go.RowKit
set_option linter.unusedVariables false

def cmpI (a b : Nat) : Int := if a < b then -1 else if a = b then 0 else 1

theorem ret_i64 {a b : Int} (h : a = b) : Ending.returned (.int .i64 a) = .returned (.int .i64 b) := by rw [h]

set_option maxRecDepth 100000 in
set_option maxHeartbeats 2000000 in
theorem cmp_any (a b : Nat) (w : World) (ha : a < M256) (hb : b < M256) :
    Calls Tryd.prog 18 #[nv a, nv b] w fun e w' => e = .returned (.int .i64 (cmpI a b)) ∧ Below w.heap.size w w' := by
  have he := nv_eql a b ha hb
  by_cases hq : a = b
  · have hc : cmpI a b = 0 := by unfold cmpI; rw [if_neg (by omega), if_pos hq]
    have HC := Lib.hid hc
    clear hc
    rw [decide_eq_true hq] at he
    have HQ := Lib.hid hq
    clear hq
    go_enter Tryd.func18, Tryd.ntmps18
    go_wp2_with fail
    go_ret
    refine ⟨ret_i64 HC.out.symm, ?_⟩
    repeat (first | exact Below.refl _ _ | refine Below.drew ?_ | refine Below.alloc ?_ (by first | omega | (simp; done) | (simp; omega)) _)
  · rw [decide_eq_false hq] at he
    have HQ := Lib.hid hq
    clear hq
    by_cases hl : a < b
    · have hc : cmpI a b = -1 := by unfold cmpI; rw [if_pos hl]
      have hd : decide (a < b) = true := decide_eq_true hl
      have HC := Lib.hid hc
      have HD := Lib.hid hd
      clear hc hl hd
      go_enter Tryd.func18, Tryd.ntmps18
      go_wp2_with fail
      refine (sub_any a b _ ha hb).mono ?_
      rw [HD.out]
      rintro e w1 ⟨rfl, hb1⟩
      have hz1 := hb1.size
      simp at hz1
      go_wp2_with fail
      go_ret
      refine ⟨ret_i64 HC.out.symm, ?_⟩
      repeat (first | exact Below.refl _ _ | refine Below.drew ?_ | refine Below.alloc ?_ (by first | omega | (simp; done) | (simp; omega)) _ | refine Below.trans ?_ (Below.mono hb1 (by first | omega | (simp; done) | (simp; omega))))
    · have hc : cmpI a b = 1 := by unfold cmpI; rw [if_neg hl, if_neg HQ.out]
      have hd : decide (a < b) = false := decide_eq_false hl
      have HC := Lib.hid hc
      have HD := Lib.hid hd
      clear hc hl hd
      go_enter Tryd.func18, Tryd.ntmps18
      go_wp2_with fail
      refine (sub_any a b _ ha hb).mono ?_
      rw [HD.out]
      rintro e w1 ⟨rfl, hb1⟩
      have hz1 := hb1.size
      simp at hz1
      go_wp2_with fail
      go_ret
      refine ⟨ret_i64 HC.out.symm, ?_⟩
      repeat (first | exact Below.refl _ _ | refine Below.drew ?_ | refine Below.alloc ?_ (by first | omega | (simp; done) | (simp; omega)) _ | refine Below.trans ?_ (Below.mono hb1 (by first | omega | (simp; done) | (simp; omega))))

/-! ### how many bits a number has -/
def blen (n : Nat) : Nat := Lib.bitLenAux 256 n

theorem aux_spec : ∀ (f n : Nat), n < 2 ^ f → n < 2 ^ Lib.bitLenAux f n ∧ (n ≠ 0 → 2 ^ Lib.bitLenAux f n ≤ 2 * n) ∧ (n = 0 → Lib.bitLenAux f n = 0)
  | 0, n, h => by
    have : n = 0 := by simpa using h
    subst this
    simp [Lib.bitLenAux]
  | f + 1, n, h => by
    simp only [Lib.bitLenAux]
    by_cases h0 : n = 0
    · subst h0; simp
    · rw [if_neg h0]
      obtain ⟨i1, i2, _⟩ := aux_spec f (n / 2) (by rw [Nat.pow_succ] at h; omega)
      have e : 2 ^ (1 + Lib.bitLenAux f (n / 2)) = 2 * 2 ^ Lib.bitLenAux f (n / 2) := by rw [Nat.add_comm, Nat.pow_succ, Nat.mul_comm]
      rw [e]
      refine ⟨by omega, fun _ => ?_, fun hn => absurd hn h0⟩
      by_cases h2 : n / 2 = 0
      · rw [h2]
        have : Lib.bitLenAux f 0 = 0 := by cases f <;> simp [Lib.bitLenAux]
        rw [this]; omega
      · have := i2 h2; omega

theorem len_unique (n k m : Nat) (h1 : n < 2 ^ k) (h2 : 2 ^ k ≤ 2 * n) (h3 : n < 2 ^ m) (h4 : 2 ^ m ≤ 2 * n) : k = m := by
  rcases Nat.lt_trichotomy k m with h | h | h
  · have := Nat.pow_le_pow_right (n := 2) (by omega) (Nat.succ_le_of_lt h)
    rw [Nat.pow_succ] at this; omega
  · exact h
  · have := Nat.pow_le_pow_right (n := 2) (by omega) (Nat.succ_le_of_lt h)
    rw [Nat.pow_succ] at this; omega

theorem M256_pow : M256 = 2 ^ 256 := by kernel_rfl
theorem B64_pow : B64 = 2 ^ 64 := by kernel_rfl

theorem blen_spec (n : Nat) (h : n < M256) : n < 2 ^ blen n ∧ (n ≠ 0 → 2 ^ blen n ≤ 2 * n) ∧ (n = 0 → blen n = 0) := aux_spec 256 n (by rw [← M256_pow]; exact h)
theorem blen_le (n : Nat) (h : n < M256) : blen n ≤ 256 := Lib.bitLenAux_le 256 n 256 (by rw [← M256_pow]; exact h)

/-- The length of a number whose highest word that isn't nought is x, with i whole words below. -/
theorem blen_top (n x low i : Nat) (hx0 : x ≠ 0) (hx : x < B64) (hlow : low < 2 ^ (64 * i)) (hn : n = low + 2 ^ (64 * i) * x) (hM : n < M256) : blen n = 64 * i + Lib.bitLen x := by
  obtain ⟨b1, b2, _⟩ := aux_spec 64 x (by rw [← B64_pow]; exact hx)
  have b2 := b2 hx0
  change x < 2 ^ Lib.bitLen x at b1
  change 2 ^ Lib.bitLen x ≤ 2 * x at b2
  obtain ⟨c1, c2, _⟩ := blen_spec n hM
  have hp : 0 < 2 ^ (64 * i) := Nat.two_pow_pos _
  have hne : n ≠ 0 := by
    have := Nat.mul_pos hp (Nat.pos_of_ne_zero hx0); omega
  refine len_unique n _ _ c1 (c2 hne) ?_ ?_
  · rw [Nat.pow_add, hn]
    have := Nat.mul_le_mul_left (2 ^ (64 * i)) (Nat.succ_le_of_lt b1)
    rw [Nat.mul_succ] at this; omega
  · rw [Nat.pow_add, hn]
    have := Nat.mul_le_mul_left (2 ^ (64 * i)) b2
    rw [Nat.mul_left_comm] at this; omega

theorem blen_words (a b c d : Nat) (ha : a < B64) (hb : b < B64) (hc : c < B64) (hd : d < B64) :
    blen (ofW a b c d) = if d ≠ 0 then 192 + Lib.bitLen d else if c ≠ 0 then 128 + Lib.bitLen c else if b ≠ 0 then 64 + Lib.bitLen b else if a ≠ 0 then Lib.bitLen a else 0 := by
  have hM := ofW_lt a b c d ha hb hc hd
  have e1 : 2 ^ (64 * 1) = B64 := by kernel_rfl
  have e2 : 2 ^ (64 * 2) = B64 * B64 := by kernel_rfl
  have e3 : 2 ^ (64 * 3) = B64 * B64 * B64 := by kernel_rfl
  have hp := B64_pos
  have g2 : a + B64 * b < B64 * B64 := by
    have := Nat.mul_le_mul_left B64 (Nat.succ_le_of_lt hb)
    rw [Nat.mul_succ] at this; omega
  have g3 : a + B64 * (b + B64 * c) < B64 * B64 * B64 := by
    have h1 : b + B64 * c < B64 * B64 := by
      have := Nat.mul_le_mul_left B64 (Nat.succ_le_of_lt hc)
      rw [Nat.mul_succ] at this; omega
    have := Nat.mul_le_mul_left B64 (Nat.succ_le_of_lt h1)
    rw [Nat.mul_succ] at this
    rw [Nat.mul_assoc]; omega
  by_cases h3 : d = 0
  · rw [if_neg (by simpa using h3)]
    by_cases h2 : c = 0
    · rw [if_neg (by simpa using h2)]
      by_cases h1 : b = 0
      · rw [if_neg (by simpa using h1)]
        by_cases h0 : a = 0
        · rw [if_neg (by simpa using h0)]
          subst h0 h1 h2 h3
          exact (blen_spec _ hM).2.2 (by unfold ofW; simp)
        · rw [if_pos h0]
          have := blen_top (ofW a b c d) a 0 0 h0 ha (by simp) (by subst h1 h2 h3; unfold ofW; simp) hM
          simpa using this
      · rw [if_pos h1]
        exact blen_top (ofW a b c d) b a 1 h1 hb (by rw [e1]; exact ha) (by subst h2 h3; unfold ofW; rw [e1]; simp) hM
    · rw [if_pos h2]
      exact blen_top (ofW a b c d) c (a + B64 * b) 2 h2 hc (by rw [e2]; exact g2) (by subst h3; unfold ofW; rw [e2]; simp [Nat.mul_add, Nat.mul_assoc, Nat.add_assoc]) hM
  · rw [if_pos h3]
    exact blen_top (ofW a b c d) d (a + B64 * (b + B64 * c)) 3 h3 hd (by rw [e3]; exact g3) (by unfold ofW; rw [e3]; simp [Nat.mul_add, Nat.mul_assoc, Nat.add_assoc]) hM

theorem len64c (x : Nat) (hx : x < B64) (w : World) : Calls Tryd.prog 66 #[.int .u64 (x : Int)] w fun e w' => e = .returned (.int .i64 (Lib.bitLen x : Int)) ∧ w' = w := by
  have := Tryd.bits_Len64 (x : Int) w (by omega) (by unfold B64 at hx; omega)
  simpa using this

theorem ne0_true {n : Nat} (h : n ≠ 0) : (((n : Nat) : Int) != 0) = true := by simp; omega
theorem ne0_false {n : Nat} (h : n = 0) : (((n : Nat) : Int) != 0) = false := by simp [h]

set_option maxRecDepth 100000 in
set_option maxHeartbeats 2000000 in
theorem len_walk (a0 a1 a2 a3 : Nat) (w : World) (h0 : a0 < B64) (h1 : a1 < B64) (h2 : a2 < B64) (h3 : a3 < B64) :
    Calls Tryd.prog 41 #[W4 a0 a1 a2 a3] w fun e w' => e = .returned (.int .i64 (blen (ofW a0 a1 a2 a3) : Int)) ∧ Below w.heap.size w w' := by
  have b0 := Lib.bitLen_le a0 64 (by omega) (by rw [← B64_pow]; exact h0)
  have b1 := Lib.bitLen_le a1 64 (by omega) (by rw [← B64_pow]; exact h1)
  have b2 := Lib.bitLen_le a2 64 (by omega) (by rw [← B64_pow]; exact h2)
  have b3 := Lib.bitLen_le a3 64 (by omega) (by rw [← B64_pow]; exact h3)
  have HB := Lib.hid (blen_words a0 a1 a2 a3 h0 h1 h2 h3)
  by_cases e3 : a3 = 0
  · have z3 := ne0_false e3
    by_cases e2 : a2 = 0
    · have z2 := ne0_false e2
      by_cases e1 : a1 = 0
      · have z1 := ne0_false e1
        by_cases e0 : a0 = 0
        · have z0 := ne0_false e0
          have hv : Hid (blen (ofW a0 a1 a2 a3) = 0) := by show _ = _; rw [HB.out]; simp [e0, e1, e2, e3]
          have E0 := Lib.hid e0
          have E1 := Lib.hid e1
          have E2 := Lib.hid e2
          have E3 := Lib.hid e3
          clear e0 e1 e2 e3 HB
          go_enter Tryd.func41, Tryd.ntmps41
          go_wp2_with fail
          refine wp_loop_rounds 5 ?_
          iterate 5
            rw [rounds_succ]
            go_wp2_with fail
          go_ret
          refine ⟨ret_i64 (by rw [hv.out]; rfl), ?_⟩
          repeat (first | exact Below.refl _ _ | refine Below.drew ?_ | refine Below.alloc ?_ (by first | omega | (simp; done) | (simp; omega)) _)
        · have z0 := ne0_true e0
          have hv : Hid (blen (ofW a0 a1 a2 a3) = Lib.bitLen a0) := by show _ = _; rw [HB.out]; simp [e0, e1, e2, e3]
          have E1 := Lib.hid e1
          have E2 := Lib.hid e2
          have E3 := Lib.hid e3
          clear e0 e1 e2 e3 HB
          go_enter Tryd.func41, Tryd.ntmps41
          go_wp2_with fail
          refine wp_loop_rounds 5 ?_
          iterate 4
            rw [rounds_succ]
            go_wp2_with fail
          refine (len64c a0 h0 _).mono ?_
          rintro e w' ⟨rfl, hw⟩
          rw [hw]
          clear hw
          go_wp2_with fail
          go_ret
          refine ⟨ret_i64 (by rw [hv.out]; try rfl), ?_⟩
          repeat (first | exact Below.refl _ _ | refine Below.drew ?_ | refine Below.alloc ?_ (by first | omega | (simp; done) | (simp; omega)) _)
      · have z1 := ne0_true e1
        have hv : Hid (blen (ofW a0 a1 a2 a3) = 64 + Lib.bitLen a1) := by show _ = _; rw [HB.out]; simp [e1, e2, e3]
        have E2 := Lib.hid e2
        have E3 := Lib.hid e3
        clear e1 e2 e3 HB
        go_enter Tryd.func41, Tryd.ntmps41
        go_wp2_with fail
        refine wp_loop_rounds 5 ?_
        iterate 3
          rw [rounds_succ]
          go_wp2_with fail
        refine (len64c a1 h1 _).mono ?_
        rintro e w' ⟨rfl, hw⟩
        rw [hw]
        clear hw
        go_wp2_with fail
        go_ret
        refine ⟨ret_i64 (by rw [hv.out]; omega), ?_⟩
        repeat (first | exact Below.refl _ _ | refine Below.drew ?_ | refine Below.alloc ?_ (by first | omega | (simp; done) | (simp; omega)) _)
    · have z2 := ne0_true e2
      have hv : Hid (blen (ofW a0 a1 a2 a3) = 128 + Lib.bitLen a2) := by show _ = _; rw [HB.out]; simp [e2, e3]
      have E3 := Lib.hid e3
      clear e2 e3 HB
      go_enter Tryd.func41, Tryd.ntmps41
      go_wp2_with fail
      refine wp_loop_rounds 5 ?_
      iterate 2
        rw [rounds_succ]
        go_wp2_with fail
      refine (len64c a2 h2 _).mono ?_
      rintro e w' ⟨rfl, hw⟩
      rw [hw]
      clear hw
      go_wp2_with fail
      go_ret
      refine ⟨ret_i64 (by rw [hv.out]; omega), ?_⟩
      repeat (first | exact Below.refl _ _ | refine Below.drew ?_ | refine Below.alloc ?_ (by first | omega | (simp; done) | (simp; omega)) _)
  · have z3 := ne0_true e3
    have hv : Hid (blen (ofW a0 a1 a2 a3) = 192 + Lib.bitLen a3) := by show _ = _; rw [HB.out]; simp [e3]
    clear e3 HB
    go_enter Tryd.func41, Tryd.ntmps41
    go_wp2_with fail
    refine wp_loop_rounds 5 ?_
    rw [rounds_succ]
    go_wp2_with fail
    refine (len64c a3 h3 _).mono ?_
    rintro e w' ⟨rfl, hw⟩
    rw [hw]
    clear hw
    go_wp2_with fail
    go_ret
    refine ⟨ret_i64 (by rw [hv.out]; omega), ?_⟩
    repeat (first | exact Below.refl _ _ | refine Below.drew ?_ | refine Below.alloc ?_ (by first | omega | (simp; done) | (simp; omega)) _)

theorem len_any (n : Nat) (w : World) (h : n < M256) :
    Calls Tryd.prog 41 #[nv n] w fun e w' => e = .returned (.int .i64 (blen n : Int)) ∧ Below w.heap.size w w' := by
  have := len_walk (wd0 n) (wd1 n) (wd2 n) (wd3 n) w (wd0_lt n) (wd1_lt n) (wd2_lt n) (wd3_lt n)
  rwa [ofW_wd n h] at this
end Go.Proofs.YtkhiicnahijnoaaDoor
namespace Go.Proofs.YtkhiicnahijnoaaDoor
open Go.RowKit
set_option linter.unusedVariables false

set_option maxRecDepth 100000 in
set_option maxHeartbeats 4000000 in
theorem shl_walk0 (a0 a1 a2 a3 n r : Int) (w : World) (h0 : 0 ≤ n) (h1 : n < 256) (hq : n / 64 = 0) (hr : n % 64 = r) (r0 : 0 ≤ r) (r1 : r < 64) :
    Calls Tryd.prog 68 #[I4 a0 a1 a2 a3, .int .i64 n] w fun e w' => e = .returned (I4 (IntKind.u64.wrap (a0 * 2 ^ r.toNat)) (bits BinOp.or IntKind.u64 (IntKind.u64.wrap (a1 * 2 ^ r.toNat)) (a0 / 2 ^ (64 - r).toNat)) (bits BinOp.or IntKind.u64 (IntKind.u64.wrap (a2 * 2 ^ r.toNat)) (a1 / 2 ^ (64 - r).toNat)) (bits BinOp.or IntKind.u64 (IntKind.u64.wrap (a3 * 2 ^ r.toNat)) (a2 / 2 ^ (64 - r).toNat))) ∧ Below w.heap.size w w' := by
  go_enter Tryd.func68, Tryd.ntmps68
  go_wp2
  refine wp_loop_rounds 5 ?_
  rw [rounds_succ]
  go_wp2
  rw [rounds_succ]
  go_wp2
  go_region
  go_wp2
  rw [rounds_succ]
  go_wp2
  go_region
  go_wp2
  rw [rounds_succ]
  go_wp2
  go_region
  go_wp2
  rw [rounds_succ]
  go_wp2
  refine bodyPost_ret (v := I4 (IntKind.u64.wrap (a0 * 2 ^ r.toNat)) (bits BinOp.or IntKind.u64 (IntKind.u64.wrap (a1 * 2 ^ r.toNat)) (a0 / 2 ^ (64 - r).toNat)) (bits BinOp.or IntKind.u64 (IntKind.u64.wrap (a2 * 2 ^ r.toNat)) (a1 / 2 ^ (64 - r).toNat)) (bits BinOp.or IntKind.u64 (IntKind.u64.wrap (a3 * 2 ^ r.toNat)) (a2 / 2 ^ (64 - r).toNat))) (by simp [results, Tryd.results68, go_sem]) rfl ⟨rfl, ?_⟩
  repeat (first | exact Below.refl _ _ | refine Below.drew ?_ | refine Below.alloc ?_ (by first | omega | (simp; done) | (simp; omega)) _)

set_option maxRecDepth 100000 in
set_option maxHeartbeats 4000000 in
theorem shl_walk1 (a0 a1 a2 a3 n r : Int) (w : World) (h0 : 0 ≤ n) (h1 : n < 256) (hq : n / 64 = 1) (hr : n % 64 = r) (r0 : 0 ≤ r) (r1 : r < 64) :
    Calls Tryd.prog 68 #[I4 a0 a1 a2 a3, .int .i64 n] w fun e w' => e = .returned (I4 0 (IntKind.u64.wrap (a0 * 2 ^ r.toNat)) (bits BinOp.or IntKind.u64 (IntKind.u64.wrap (a1 * 2 ^ r.toNat)) (a0 / 2 ^ (64 - r).toNat)) (bits BinOp.or IntKind.u64 (IntKind.u64.wrap (a2 * 2 ^ r.toNat)) (a1 / 2 ^ (64 - r).toNat))) ∧ Below w.heap.size w w' := by
  go_enter Tryd.func68, Tryd.ntmps68
  go_wp2
  refine wp_loop_rounds 5 ?_
  rw [rounds_succ]
  go_wp2
  rw [rounds_succ]
  go_wp2
  go_region
  go_wp2
  rw [rounds_succ]
  go_wp2
  go_region
  go_wp2
  rw [rounds_succ]
  go_wp2
  refine bodyPost_ret (v := I4 0 (IntKind.u64.wrap (a0 * 2 ^ r.toNat)) (bits BinOp.or IntKind.u64 (IntKind.u64.wrap (a1 * 2 ^ r.toNat)) (a0 / 2 ^ (64 - r).toNat)) (bits BinOp.or IntKind.u64 (IntKind.u64.wrap (a2 * 2 ^ r.toNat)) (a1 / 2 ^ (64 - r).toNat))) (by simp [results, Tryd.results68, go_sem]) rfl ⟨rfl, ?_⟩
  repeat (first | exact Below.refl _ _ | refine Below.drew ?_ | refine Below.alloc ?_ (by first | omega | (simp; done) | (simp; omega)) _)

set_option maxRecDepth 100000 in
set_option maxHeartbeats 4000000 in
theorem shl_walk2 (a0 a1 a2 a3 n r : Int) (w : World) (h0 : 0 ≤ n) (h1 : n < 256) (hq : n / 64 = 2) (hr : n % 64 = r) (r0 : 0 ≤ r) (r1 : r < 64) :
    Calls Tryd.prog 68 #[I4 a0 a1 a2 a3, .int .i64 n] w fun e w' => e = .returned (I4 0 0 (IntKind.u64.wrap (a0 * 2 ^ r.toNat)) (bits BinOp.or IntKind.u64 (IntKind.u64.wrap (a1 * 2 ^ r.toNat)) (a0 / 2 ^ (64 - r).toNat))) ∧ Below w.heap.size w w' := by
  go_enter Tryd.func68, Tryd.ntmps68
  go_wp2
  refine wp_loop_rounds 5 ?_
  rw [rounds_succ]
  go_wp2
  rw [rounds_succ]
  go_wp2
  go_region
  go_wp2
  rw [rounds_succ]
  go_wp2
  refine bodyPost_ret (v := I4 0 0 (IntKind.u64.wrap (a0 * 2 ^ r.toNat)) (bits BinOp.or IntKind.u64 (IntKind.u64.wrap (a1 * 2 ^ r.toNat)) (a0 / 2 ^ (64 - r).toNat))) (by simp [results, Tryd.results68, go_sem]) rfl ⟨rfl, ?_⟩
  repeat (first | exact Below.refl _ _ | refine Below.drew ?_ | refine Below.alloc ?_ (by first | omega | (simp; done) | (simp; omega)) _)

set_option maxRecDepth 100000 in
set_option maxHeartbeats 4000000 in
theorem shl_walk3 (a0 a1 a2 a3 n r : Int) (w : World) (h0 : 0 ≤ n) (h1 : n < 256) (hq : n / 64 = 3) (hr : n % 64 = r) (r0 : 0 ≤ r) (r1 : r < 64) :
    Calls Tryd.prog 68 #[I4 a0 a1 a2 a3, .int .i64 n] w fun e w' => e = .returned (I4 0 0 0 (IntKind.u64.wrap (a0 * 2 ^ r.toNat))) ∧ Below w.heap.size w w' := by
  go_enter Tryd.func68, Tryd.ntmps68
  go_wp2
  refine wp_loop_rounds 5 ?_
  rw [rounds_succ]
  go_wp2
  rw [rounds_succ]
  go_wp2
  refine bodyPost_ret (v := I4 0 0 0 (IntKind.u64.wrap (a0 * 2 ^ r.toNat))) (by simp [results, Tryd.results68, go_sem]) rfl ⟨rfl, ?_⟩
  repeat (first | exact Below.refl _ _ | refine Below.drew ?_ | refine Below.alloc ?_ (by first | omega | (simp; done) | (simp; omega)) _)

set_option maxRecDepth 100000 in
set_option maxHeartbeats 4000000 in
theorem shl_out (a0 a1 a2 a3 n : Int) (w : World) (h : n < 0 ∨ 256 ≤ n) :
    Calls Tryd.prog 68 #[I4 a0 a1 a2 a3, .int .i64 n] w fun e w' => e = .returned (I4 0 0 0 0) ∧ Below w.heap.size w w' := by
  rcases h with h | h
  all_goals
    go_enter Tryd.func68, Tryd.ntmps68
    go_wp2
    refine bodyPost_ret (v := I4 0 0 0 0) (by simp [results, Tryd.results68, go_sem]) rfl ⟨rfl, ?_⟩
    repeat (first | exact Below.refl _ _ | refine Below.drew ?_ | refine Below.alloc ?_ (by first | omega | (simp; done) | (simp; omega)) _)

end Go.Proofs.YtkhiicnahijnoaaDoor
namespace Go.Proofs.YtkhiicnahijnoaaDoor
open Go.RowKit
set_option linter.unusedVariables false

theorem ofW_step (N x y z t c : Nat) (h : N = ofW x y z t + M256 * c) : N * B64 = ofW 0 x y z + M256 * (t + c * B64) := by
  subst h
  unfold ofW M256
  simp only [Nat.add_mul, Nat.mul_add, Nat.mul_assoc, Nat.zero_add]
  simp only [Nat.mul_comm, Nat.mul_left_comm]
  omega

theorem ofW_drop (x y z t : Nat) (hx : x < B64) : ofW x y z t / B64 = ofW y z t 0 := by
  unfold ofW
  rw [Nat.add_mul_div_left _ _ B64_pos, Nat.div_eq_of_lt hx]
  simp

theorem pow_split (k r : Nat) : 2 ^ (64 * k + r) = 2 ^ r * B64 ^ k := by
  rw [Nat.add_comm, Nat.pow_add, Nat.pow_mul, B64_pow]

theorem shl0 (r x : Nat) (h : r < 64) : 2 ^ r * (x % 2 ^ (64 - r)) < B64 := by
  have h1 := pq r h
  have h2 : x % 2 ^ (64 - r) < 2 ^ (64 - r) := Nat.mod_lt _ (Nat.two_pow_pos _)
  have := Nat.mul_lt_mul_of_pos_left h2 (Nat.two_pow_pos r)
  omega

theorem nv_of_mod (a b c d N e : Nat) (ha : a < B64) (hb : b < B64) (hc : c < B64) (hd : d < B64) (h : N = ofW a b c d + M256 * e) : W4 a b c d = nv (N % M256) := by
  refine nv_of_eq a b c d _ ha hb hc hd ?_
  obtain ⟨e1, _⟩ := split_div N M256 e (ofW a b c d) M256_pos (by omega) (ofW_lt a b c d ha hb hc hd)
  exact e1.symm

theorem shl_any (a n : Nat) (w : World) (ha : a < M256) (hn : n < 256) :
    Calls Tryd.prog 68 #[nv a, .int .i64 (n : Int)] w fun e w' => e = .returned (nv (a * 2 ^ n % M256)) ∧ Below w.heap.size w w' := by
  obtain ⟨k, r, hk, hr, rfl⟩ : ∃ k r, k < 4 ∧ r < 64 ∧ n = 64 * k + r := ⟨n / 64, n % 64, by omega, by omega, by omega⟩
  have hw := shl_words (wd0 a) (wd1 a) (wd2 a) (wd3 a) (2 ^ r) (2 ^ (64 - r)) (pq r hr)
  rw [ofW_wd a ha] at hw
  unfold S0 S1 at hw
  obtain ⟨j1, l1⟩ := shl_join r (wd1 a) (wd0 a) hr (wd0_lt a)
  obtain ⟨j2, l2⟩ := shl_join r (wd2 a) (wd1 a) hr (wd1_lt a)
  obtain ⟨j3, l3⟩ := shl_join r (wd3 a) (wd2 a) hr (wd2_lt a)
  have j0 := shl_word r (wd0 a) hr
  have l0 := shl0 r (wd0 a) hr
  have E0 := hw.symm
  have E1 := ofW_step _ _ _ _ _ _ E0
  have E2 := ofW_step _ _ _ _ _ _ E1
  have E3 := ofW_step _ _ _ _ _ _ E2
  have hq : ((64 * k + r : Nat) : Int) / 64 = (k : Int) := by omega
  have hm : ((64 * k + r : Nat) : Int) % 64 = (r : Int) := by omega
  rw [pow_split]
  have hk4 : k = 0 ∨ k = 1 ∨ k = 2 ∨ k = 3 := by omega
  rcases hk4 with rfl | rfl | rfl | rfl
  · refine (shl_walk0 _ _ _ _ _ _ w (by omega) (by omega) hq hm (by omega) (by omega)).mono ?_
    rintro e w' ⟨rfl, hb⟩
    refine ⟨?_, hb⟩
    rw [j0, j1, j2, j3, Nat.pow_zero, Nat.mul_one]
    exact congrArg Ending.returned (nv_of_mod _ _ _ _ _ _ l0 l1 l2 l3 E0)
  · refine (shl_walk1 _ _ _ _ _ _ w (by omega) (by omega) hq hm (by omega) (by omega)).mono ?_
    rintro e w' ⟨rfl, hb⟩
    refine ⟨?_, hb⟩
    rw [j0, j1, j2, Nat.pow_one, ← Nat.mul_assoc]
    exact congrArg Ending.returned (nv_of_mod _ _ _ _ _ _ B64_pos l0 l1 l2 E1)
  · refine (shl_walk2 _ _ _ _ _ _ w (by omega) (by omega) hq hm (by omega) (by omega)).mono ?_
    rintro e w' ⟨rfl, hb⟩
    refine ⟨?_, hb⟩
    rw [j0, j1, show B64 ^ 2 = B64 * B64 from by rw [Nat.pow_succ, Nat.pow_one], ← Nat.mul_assoc, ← Nat.mul_assoc]
    exact congrArg Ending.returned (nv_of_mod _ _ _ _ _ _ B64_pos B64_pos l0 l1 E2)
  · refine (shl_walk3 _ _ _ _ _ _ w (by omega) (by omega) hq hm (by omega) (by omega)).mono ?_
    rintro e w' ⟨rfl, hb⟩
    refine ⟨?_, hb⟩
    rw [j0, show B64 ^ 3 = B64 * B64 * B64 from by rw [Nat.pow_succ, Nat.pow_succ, Nat.pow_one], ← Nat.mul_assoc, ← Nat.mul_assoc, ← Nat.mul_assoc]
    exact congrArg Ending.returned (nv_of_mod _ _ _ _ _ _ B64_pos B64_pos B64_pos l0 E3)

theorem nv_zero : nv 0 = I4 0 0 0 0 := by rw [nv_small 0 B64_pos]; rfl

theorem shl_none (a : Nat) (n : Int) (w : World) (h : n < 0 ∨ 256 ≤ n) :
    Calls Tryd.prog 68 #[nv a, .int .i64 n] w fun e w' => e = .returned (nv 0) ∧ Below w.heap.size w w' := by
  rw [nv_zero]; exact shl_out _ _ _ _ n w h
end Go.Proofs.YtkhiicnahijnoaaDoor
namespace Go.Proofs.YtkhiicnahijnoaaDoor
open Go.RowKit
set_option linter.unusedVariables false

/-- One bit more in a number whose lower bits, and this one, are nought. -/
theorem bit_other (q k i : Nat) (hk : k < 256) (hq : q % 2 ^ (k + 1) = 0) (hi : i ≠ k / 64) : wdi (q + 2 ^ k) i = wdi q i := by
  obtain ⟨m, hm⟩ : ∃ m, q = 2 ^ (k + 1) * m := ⟨q / 2 ^ (k + 1), by have := Nat.div_add_mod q (2 ^ (k + 1)); omega⟩
  subst hm
  obtain ⟨j, r, hr, rfl⟩ : ∃ j r, r < 64 ∧ k = 64 * j + r := ⟨k / 64, k % 64, by omega, by omega⟩
  rw [show (64 * j + r) / 64 = j from by omega] at hi
  have hB : ∀ t, B64 ^ t = 2 ^ (64 * t) := fun t => by rw [Nat.pow_mul, ← B64_pow]
  unfold wdi
  rcases Nat.lt_or_ge i j with h | h
  · have e : (2 : Nat) ^ (64 * j + r) = B64 ^ (i + 1) * 2 ^ (64 * (j - (i + 1)) + r) := by
      rw [hB, ← Nat.pow_add]; congr 1; omega
    rw [e, word_lo]
  · have hji : j < i := by omega
    have hle : 64 * j + r + 1 ≤ 64 * i := by omega
    obtain ⟨d, hd⟩ : ∃ d, 64 * i = (64 * j + r + 1) + d := ⟨64 * i - (64 * j + r + 1), by omega⟩
    have e1 : (2 ^ (64 * j + r + 1) * m + 2 ^ (64 * j + r)) / B64 ^ i = 2 ^ (64 * j + r + 1) * m / B64 ^ i := by
      rw [hB, hd, Nat.pow_add 2 (64 * j + r + 1) d, ← Nat.div_div_eq_div_mul, ← Nat.div_div_eq_div_mul]
      congr 1
      have hp : 0 < 2 ^ (64 * j + r + 1) := Nat.two_pow_pos _
      rw [Nat.mul_add_div hp, Nat.mul_div_cancel_left _ hp, Nat.div_eq_of_lt (by rw [Nat.pow_succ]; have := Nat.two_pow_pos (64 * j + r); omega), Nat.add_zero]
    rw [e1]

theorem bit_word (q k : Nat) (hk : k < 256) (hq : q % 2 ^ (k + 1) = 0) :
    wdi q (k / 64) ||| 2 ^ (k % 64) = wdi (q + 2 ^ k) (k / 64) ∧ 2 ^ (k % 64) < B64 := by
  obtain ⟨m, hm⟩ : ∃ m, q = 2 ^ (k + 1) * m := ⟨q / 2 ^ (k + 1), by have := Nat.div_add_mod q (2 ^ (k + 1)); omega⟩
  subst hm
  obtain ⟨j, r, hr, rfl⟩ : ∃ j r, r < 64 ∧ k = 64 * j + r := ⟨k / 64, k % 64, by omega, by omega⟩
  rw [show (64 * j + r) / 64 = j from by omega, show (64 * j + r) % 64 = r from by omega]
  have hB : B64 ^ j = 2 ^ (64 * j) := by rw [Nat.pow_mul, ← B64_pow]
  have hp : 0 < B64 ^ j := Nat.pow_pos B64_pos
  have hr64 : (2 : Nat) ^ r < B64 := by rw [B64_pow]; exact Nat.pow_lt_pow_right (by omega) hr
  refine ⟨?_, hr64⟩
  have e1 : (2 : Nat) ^ (64 * j + r + 1) * m = B64 ^ j * (2 ^ (r + 1) * m) := by rw [hB, ← Nat.mul_assoc, ← Nat.pow_add]; congr 2
  have e2 : (2 : Nat) ^ (64 * j + r) = B64 ^ j * 2 ^ r := by rw [hB, ← Nat.pow_add]
  unfold wdi
  rw [e1, e2, ← Nat.mul_add, Nat.mul_div_cancel_left _ hp, Nat.mul_div_cancel_left _ hp]
  have hd : B64 = 2 ^ (r + 1) * 2 ^ (63 - r) := by rw [← Nat.pow_add, show r + 1 + (63 - r) = 64 from by omega]; rfl
  have e3 : 2 ^ (r + 1) * m % B64 = 2 ^ (r + 1) * (m % 2 ^ (63 - r)) := by rw [hd, Nat.mul_mod_mul_left]
  have hlt : 2 ^ (r + 1) * (m % 2 ^ (63 - r)) + 2 ^ r < B64 := by
    have h1 : m % 2 ^ (63 - r) < 2 ^ (63 - r) := Nat.mod_lt _ (Nat.two_pow_pos _)
    have h2 := Nat.mul_le_mul_left (2 ^ (r + 1)) (Nat.succ_le_of_lt h1)
    rw [Nat.mul_succ, ← hd] at h2
    have h3 : (2 : Nat) ^ r < 2 ^ (r + 1) := Nat.pow_lt_pow_right (by omega) (by omega)
    omega
  have e4 : (2 ^ (r + 1) * m + 2 ^ r) % B64 = 2 ^ (r + 1) * (m % 2 ^ (63 - r)) + 2 ^ r := by
    have e5 := Nat.mod_add_div (2 ^ (r + 1) * m) B64
    rw [e3] at e5
    rw [show 2 ^ (r + 1) * m + 2 ^ r = 2 ^ (r + 1) * (m % 2 ^ (63 - r)) + 2 ^ r + B64 * (2 ^ (r + 1) * m / B64) from by omega, Nat.add_mul_mod_self_left, Nat.mod_eq_of_lt hlt]
  rw [e3, e4, or_join (r + 1) _ _ (Nat.mul_mod_right _ _) (Nat.pow_lt_pow_right (by omega) (by omega))]

/-- What holds at each round's head: k bits are still to come. -/
structure DivAt (a b k q L : Nat) : Prop where
  sum : L + b * q = a
  low : q % 2 ^ k = 0
  rest : L < b * 2 ^ k
  room : k = 0 ∨ k + blen b ≤ 257

theorem div_start (a b k : Nat) (ha : a < M256) (hb : b < M256) (hb0 : 0 < b) (hk : (k : Int) = (blen a : Int) - (blen b : Int) + 1 ∨ (k = 0 ∧ blen a < blen b)) : DivAt a b k 0 a := by
  obtain ⟨a1, _, _⟩ := blen_spec a ha
  obtain ⟨_, b2, _⟩ := blen_spec b hb
  have b2 := b2 (by omega)
  have la := blen_le a ha
  refine ⟨by simp, by simp, ?_, by omega⟩
  rcases hk with hk | ⟨rfl, hk⟩
  · have e : blen a + 1 = k + blen b := by omega
    have h1 : 2 ^ (blen a + 1) = 2 ^ k * 2 ^ blen b := by rw [e, Nat.pow_add]
    rw [Nat.pow_succ] at h1
    have h2 : 2 ^ k * 2 ^ blen b ≤ 2 ^ k * (2 * b) := Nat.mul_le_mul_left _ b2
    have h3 : 2 ^ k * (2 * b) = 2 * (b * 2 ^ k) := by rw [Nat.mul_left_comm, Nat.mul_comm (2 ^ k)]
    omega
  · have h1 : 2 ^ (blen a + 1) ≤ 2 ^ blen b := Nat.pow_le_pow_right (by omega) (by omega)
    rw [Nat.pow_succ] at h1
    simp; omega

theorem DivAt.fits {a b k q L : Nat} (h : DivAt a b (k + 1) q L) (hb : b < M256) : b * 2 ^ k < M256 ∧ k < 256 := by
  obtain ⟨b1, _, b3⟩ := blen_spec b hb
  have hr := h.room
  have h1 : b * 2 ^ k < 2 ^ blen b * 2 ^ k := Nat.mul_lt_mul_of_pos_right b1 (Nat.two_pow_pos k)
  rw [← Nat.pow_add] at h1
  have h2 : (2 : Nat) ^ (blen b + k) ≤ 2 ^ 256 := Nat.pow_le_pow_right (by omega) (by omega)
  rw [← M256_pow] at h2
  refine ⟨by omega, ?_⟩
  have hb0 : 0 < b := by
    rcases Nat.eq_zero_or_pos b with rfl | hp
    · have := h.rest; simp at this
    · exact hp
  have : blen b ≠ 0 := fun e => by rw [e] at b1; simp at b1; omega
  omega
theorem DivAt.less {a b k q L : Nat} (h : DivAt a b (k + 1) q L) (hl : L < b * 2 ^ k) : DivAt a b k q L := by
  refine ⟨h.sum, ?_, hl, by have := h.room; omega⟩
  obtain ⟨m, hm⟩ : ∃ m, q = 2 ^ (k + 1) * m := ⟨q / 2 ^ (k + 1), by have := Nat.div_add_mod q (2 ^ (k + 1)); have := h.low; omega⟩
  rw [hm, Nat.pow_succ, Nat.mul_assoc, Nat.mul_mod_right]
theorem DivAt.more {a b k q L : Nat} (h : DivAt a b (k + 1) q L) (hl : ¬ L < b * 2 ^ k) : DivAt a b k (q + 2 ^ k) (L - b * 2 ^ k) := by
  have hs := h.sum
  have hr := h.rest
  rw [Nat.pow_succ, ← Nat.mul_assoc] at hr
  refine ⟨by rw [Nat.mul_add]; omega, ?_, by omega, by have := h.room; omega⟩
  obtain ⟨m, hm⟩ : ∃ m, q = 2 ^ (k + 1) * m := ⟨q / 2 ^ (k + 1), by have := Nat.div_add_mod q (2 ^ (k + 1)); have := h.low; omega⟩
  rw [hm, Nat.pow_succ, Nat.mul_assoc, Nat.add_mod, Nat.mul_mod_right, Nat.mod_self]
  rfl
theorem DivAt.done {a b q L : Nat} (h : DivAt a b 0 q L) : q = a / b ∧ L = a % b := by
  have hs := h.sum
  have hr := h.rest
  simp at hr
  obtain ⟨e1, e2⟩ := split_div a b q L (by omega) (by omega) hr
  exact ⟨e2.symm, e1.symm⟩
theorem DivAt.le {a b k q L : Nat} (h : DivAt a b k q L) (hb0 : 0 < b) (ha : a < M256) : q < M256 ∧ L < M256 := by
  have hs := h.sum
  have : q ≤ b * q := Nat.le_mul_of_pos_left q hb0
  omega

end Go.Proofs.YtkhiicnahijnoaaDoor
namespace Go.Proofs.YtkhiicnahijnoaaDoor
open Go.RowKit
set_option linter.unusedVariables false
attribute [local go_sem ↓] Go.wp_at_zero Go.wp_at_succ

/-- A cell that is there stays. -/
theorem cellS {w w' : World} (h : Below w.heap.size w w') {p : Addr} {v : Value} (hc : w.cell? p = some v) : w'.cell? p = some v := (h.cell (block_lt_of_cell hc)).trans hc

theorem cell4_far {w : World} {p : Addr} {v : Value} {g : Nat} (h : w.cell? p = some v) (hg : p.block ≠ g) (x0 x1 x2 x3 : Value) :
    ((((w.setCell ⟨g, 0, none⟩ x0).setCell ⟨g, 1, none⟩ x1).setCell ⟨g, 2, none⟩ x2).setCell ⟨g, 3, none⟩ x3).cell? p = some v := by
  have hn : ∀ i, (⟨g, i, none⟩ : Addr) ≠ p := fun i e => hg (by rw [← e])
  rw [World.cell?_setCell_other _ _ _ _ (hn 3), World.cell?_setCell_other _ _ _ _ (hn 2), World.cell?_setCell_other _ _ _ _ (hn 1), World.cell?_setCell_other _ _ _ _ (hn 0), h]

/-- Whatever world it is, of which so much is known. -/
theorem wp_abs {P : Program} {c : Code} {Q : Exit → Act → World → Prop} {a : Act} {w : World} (S : World → Prop) (hS : S w) (h : ∀ W, S W → c.wp P Q a W) : c.wp P Q a w := h w hS

theorem bit_int (q k : Nat) (hk : k < 256) (hq : q % 2 ^ (k + 1) = 0) :
    bits BinOp.or IntKind.u64 ((wdi q (k / 64) : Nat) : Int) (IntKind.u64.wrap (2 ^ (k % 64))) = ((wdi (q + 2 ^ k) (k / 64) : Nat) : Int) := by
  obtain ⟨h1, h2⟩ := bit_word q k hk hq
  have e : IntKind.u64.wrap ((2 : Int) ^ (k % 64)) = ((2 ^ (k % 64) : Nat) : Int) := by
    rw [IntKind.wrap_u64]
    have : ((2 : Int) ^ (k % 64)) = ((2 ^ (k % 64) : Nat) : Int) := by rw [Int.natCast_pow]; rfl
    rw [this]
    generalize (2 : Nat) ^ (k % 64) = t at h2
    unfold B64 at h2
    omega
  rw [e, or64 (wdi q (k / 64)) _ (by unfold wdi; exact Nat.mod_lt _ B64_pos) h2, h1]

set_option maxRecDepth 100000 in
set_option maxHeartbeats 2000000 in
theorem div_zero (a : Nat) (w : World) : Calls Tryd.prog 58 #[nv a, nv 0] w fun e w' => e = .returned (.tuple #[nv 0, nv 0, .int .i64 1]) ∧ Below w.heap.size w w' := by
  rw [nv_zero]
  have HZ : ∀ W : World, Calls Tryd.prog 43 #[I4 0 0 0 0] W fun e w' => e = .returned (.bool true) ∧ Below W.heap.size W w' := fun W => by
    have := zero_any 0 W M256_pos
    rw [nv_zero] at this
    exact this
  have HZ := Lib.hid HZ
  go_enter Tryd.func58, Tryd.ntmps58
  go_wp2_with fail
  refine (HZ.out _).mono ?_
  rintro e w1 ⟨rfl, hb1⟩
  have C : Bk w1 (w.heap.size + 2) 34 #[.int .u64 0, .int .u64 0, .int .u64 0, .int .u64 0] := Bk.keep ((Bk.new' _ _ _ (by simp)).alloc _) hb1
  have D : Bk w1 (w.heap.size + 3) 34 #[.int .u64 0, .int .u64 0, .int .u64 0, .int .u64 0] := Bk.keep (Bk.new' _ _ _ (by simp)) hb1
  have hW : Below w.heap.size w w1 := below_step ((((Below.refl _ _).alloc (by simp) _).alloc (by simp) _).alloc (by simp; omega) _ |>.alloc (by simp; omega) _) (by simp; omega) hb1
  clear hb1
  obtain ⟨c0, c1, c2, c3, d0, d1, d2, d3, zc⟩ := C.f4
  obtain ⟨e0, e1, e2, e3, f0, f1, f2, f3, zd⟩ := D.f4
  go_wp2_with fail
  refine bodyPost_ret (v := .tuple #[I4 0 0 0 0, I4 0 0 0 0, .int .i64 1]) (by simp [results, Tryd.results58, go_sem, c0, c1, c2, c3, e0, e1, e2, e3]) rfl ⟨rfl, ?_⟩
  exact Below.set4 (Below.set4 hW (by omega) _ _ _ _) (by omega) _ _ _ _

set_option maxRecDepth 100000 in
set_option maxHeartbeats 4000000 in
theorem div_any (a b : Nat) (w : World) (ha : a < M256) (hb : b < M256) (hb0 : 0 < b) : Calls Tryd.prog 58 #[nv a, nv b] w fun e w' => e = .returned (.tuple #[nv (a / b), nv (a % b), .int .i64 0]) ∧ Below w.heap.size w w' := by
  have HZ : ∀ W : World, Calls Tryd.prog 43 #[nv b] W fun e w' => e = .returned (.bool false) ∧ Below W.heap.size W w' := fun W => by
    have := zero_any b W hb
    rw [decide_eq_false (by omega)] at this
    exact this
  have HZ := Lib.hid HZ
  have la := blen_le a ha
  have lb := blen_le b hb
  go_enter Tryd.func58, Tryd.ntmps58
  go_wp2_with fail
  refine (HZ.out _).mono ?_
  rintro e w1 ⟨rfl, hb1⟩
  have A : Bk w1 w.heap.size 34 (A4 (wd0 a) (wd1 a) (wd2 a) (wd3 a)) := Bk.keep ((((Bk.new _ _ _).alloc _).alloc _).alloc _) hb1
  have B : Bk w1 (w.heap.size + 1) 34 (A4 (wd0 b) (wd1 b) (wd2 b) (wd3 b)) := Bk.keep (((Bk.new' _ _ _ (by simp)).alloc _).alloc _) hb1
  have C : Bk w1 (w.heap.size + 2) 34 #[.int .u64 0, .int .u64 0, .int .u64 0, .int .u64 0] := Bk.keep ((Bk.new' _ _ _ (by simp)).alloc _) hb1
  have D : Bk w1 (w.heap.size + 3) 34 #[.int .u64 0, .int .u64 0, .int .u64 0, .int .u64 0] := Bk.keep (Bk.new' _ _ _ (by simp)) hb1
  have hW : Below w.heap.size w w1 := below_step ((((Below.refl _ _).alloc (by simp) _).alloc (by simp) _).alloc (by simp; omega) _ |>.alloc (by simp; omega) _) (by simp; omega) hb1
  clear hb1
  obtain ⟨a0, a1, a2, a3, a4, a5, a6, a7, za⟩ := A.f4
  go_wp2_with fail
  refine wp_abs (fun W => Below w.heap.size w W ∧ Bk W w.heap.size 34 (A4 (wd0 a) (wd1 a) (wd2 a) (wd3 a)) ∧ Bk W (w.heap.size + 1) 34 (A4 (wd0 b) (wd1 b) (wd2 b) (wd3 b)) ∧
    Bk W (w.heap.size + 2) 34 #[.int .u64 0, .int .u64 0, .int .u64 0, .int .u64 0] ∧ Bk W (w.heap.size + 3) 34 #[.int .u64 0, .int .u64 0, .int .u64 0, .int .u64 0] ∧
    Bk W w1.heap.size 34 #[.int .u64 0, .int .u64 0, .int .u64 0, .int .u64 0] ∧ Bk W (w1.heap.size + 1) 34 (A4 (wd0 a) (wd1 a) (wd2 a) (wd3 a)))
    ⟨(hW.alloc (by omega) _).alloc (by simp; omega) _, (A.alloc _).alloc _, (B.alloc _).alloc _, (C.alloc _).alloc _, (D.alloc _).alloc _, (Bk.new _ _ _).alloc _, Bk.new' _ _ _ (by simp)⟩ ?_
  have hw1 : w.heap.size + 3 < w1.heap.size := D.lt
  clear A B C D hW a0 a1 a2 a3 a4 a5 a6 a7 za
  generalize w1.heap.size = T at *
  rintro W ⟨hW, A, B, C, D, Q, L⟩
  obtain ⟨a0, a1, a2, a3, _, _, _, _, za⟩ := A.f4
  obtain ⟨b0, b1, b2, b3, _, _, _, _, zb⟩ := B.f4
  have q0 := cell_regrown a0
  have q1 := cell_regrown a1
  have q2 := cell_regrown a2
  have q3 := cell_regrown a3
  have q4 := cell_regrown b0
  have q5 := cell_regrown b1
  have q6 := cell_regrown b2
  have q7 := cell_regrown b3
  refine wp_region_quiet_below (by kernel_rfl) (by kernel_rfl) ?_
  quiet_step (fail)
  quiet_step (exact Calls.regrown_of (len_any a _ ha))
  quiet_step (fail)
  quiet_step (exact Calls.regrown_of (len_any b _ hb))
  quiet_step (fail)
  quiet_step (fail)
  refine wpQuiet_nil ?_
  intro _ hw'
  obtain ⟨⟨dq, osq⟩, hw''⟩ := hw'
  subst hw''
  have hG := below_regrown W dq osq
  have hWG : Below w.heap.size w (Go.Sort.grow (redrawn W dq) osq) := below_step hW (by omega) hG
  have A := A.keep hG
  have B := B.keep hG
  have C := C.keep hG
  have D := D.keep hG
  have Q := Q.keep hG
  have L := L.keep hG
  obtain ⟨d, hd⟩ : ∃ d : Int, IntKind.i64.wrap ((blen a : Int) - (blen b : Int)) = d ∧ d = (blen a : Int) - (blen b : Int) := ⟨_, rfl, IntWalk.i64_in _ (by omega)⟩
  rw [hd.1]
  have HD := Lib.hid hd.2
  clear hd a0 a1 a2 a3 b0 b1 b2 b3 q0 q1 q2 q3 q4 q5 q6 q7 za zb hW hG
  show Exit.then _ _ Exit.normal _ (Go.Sort.grow (redrawn W dq) osq)
  generalize Go.Sort.grow (redrawn W dq) osq = W2 at *
  go_wp2_with fail
  go_loopw [9] (fun nn wr => ∃ (d : Int) (q L : Nat), nn = .int .i64 d ∧ -300 ≤ d ∧ d ≤ 300 ∧ Hid (DivAt a b (d + 1).toNat q L) ∧ Below w.heap.size w wr ∧ Bk wr (w.heap.size + 1) 34 (A4 (wd0 b) (wd1 b) (wd2 b) (wd3 b)) ∧
    Bk wr (w.heap.size + 2) 34 #[.int .u64 0, .int .u64 0, .int .u64 0, .int .u64 0] ∧ Bk wr (w.heap.size + 3) 34 #[.int .u64 0, .int .u64 0, .int .u64 0, .int .u64 0] ∧
    Bk wr T 34 (A4 (wd0 q) (wd1 q) (wd2 q) (wd3 q)) ∧ Bk wr (T + 1) 34 (A4 (wd0 L) (wd1 L) (wd2 L) (wd3 L))) (fun nn _ => (intOf nn + 1).toNat)
  case atStart =>
    refine ⟨d, 0, a, rfl, by have := HD.out; omega, by have := HD.out; omega, div_start a b _ ha hb hb0 (by have := HD.out; omega), hWG, B, C, D, Q, L⟩
  case round =>
    obtain ⟨d, q, L, rfl, hd1, hd2, HI, hW, B, C, D, Q, L'⟩ := hrel
    obtain ⟨b0, b1, b2, b3, _, _, _, _, zb⟩ := B.f4
    obtain ⟨l0, l1, l2, l3, l4, l5, l6, l7, zl⟩ := L'.f4
    by_cases h0 : 0 ≤ d
    · obtain ⟨k, rfl⟩ := Int.eq_ofNat_of_zero_le h0
      have HI : Hid (DivAt a b (k + 1) q L) := by
        have := HI.out
        rwa [show ((k : Int) + 1).toNat = k + 1 from by omega] at this
      obtain ⟨hfit, hk⟩ := HI.out.fits hb
      obtain ⟨hql, hLl⟩ := HI.out.le hb0 ha
      have hsh := fun W : World => shl_any b k W hb hk
      rw [Nat.mod_eq_of_lt hfit] at hsh
      have hsu := fun W : World => sub_any L (b * 2 ^ k) W hLl hfit
      have HSH := Lib.hid hsh
      have HSU := Lib.hid hsu
      clear hsh hsu
      go_wp2_with fail
      go_upto_region 8 with fail
      go_cut [10, 11] (fun s10 s11 wx => ∃ g : Nat, s10 = .pointer (some ⟨g, 0, none⟩) ∧ s11 = .bool (decide (L < b * 2 ^ k)) ∧ Below wr.heap.size wr wx ∧ wr.heap.size ≤ g ∧
        Bk wx g 34 (A4 (wd0 ((L + M256 - b * 2 ^ k) % M256)) (wd1 ((L + M256 - b * 2 ^ k) % M256)) (wd2 ((L + M256 - b * 2 ^ k) % M256)) (wd3 ((L + M256 - b * 2 ^ k) % M256))))
      case first =>
        go_region_held3 (fun w' => w'.cell? ⟨w.heap.size + 1, 0, none⟩ = some (.int .u64 (wd0 b : Int)) ∧ w'.cell? ⟨w.heap.size + 1, 1, none⟩ = some (.int .u64 (wd1 b : Int)) ∧ w'.cell? ⟨w.heap.size + 1, 2, none⟩ = some (.int .u64 (wd2 b : Int)) ∧ w'.cell? ⟨w.heap.size + 1, 3, none⟩ = some (.int .u64 (wd3 b : Int)) ∧
          w'.cell? ⟨T + 1, 0, none⟩ = some (.int .u64 (wd0 L : Int)) ∧ w'.cell? ⟨T + 1, 1, none⟩ = some (.int .u64 (wd1 L : Int)) ∧ w'.cell? ⟨T + 1, 2, none⟩ = some (.int .u64 (wd2 L : Int)) ∧ w'.cell? ⟨T + 1, 3, none⟩ = some (.int .u64 (wd3 L : Int))) (first | with_reducible exact ⟨cell4_far k60 (Nat.ne_of_lt y52) _ _ _ _, cell4_far k61 (Nat.ne_of_lt y52) _ _ _ _, cell4_far k62 (Nat.ne_of_lt y52) _ _ _ _, cell4_far k63 (Nat.ne_of_lt y52) _ _ _ _, cell4_far k64 (Nat.ne_of_lt y51) _ _ _ _, cell4_far k65 (Nat.ne_of_lt y51) _ _ _ _, cell4_far k66 (Nat.ne_of_lt y51) _ _ _ _, cell4_far k67 (Nat.ne_of_lt y51) _ _ _ _⟩ | with_reducible exact ⟨cell4_far k60 (Nat.ne_of_lt y32) _ _ _ _, cell4_far k61 (Nat.ne_of_lt y32) _ _ _ _, cell4_far k62 (Nat.ne_of_lt y32) _ _ _ _, cell4_far k63 (Nat.ne_of_lt y32) _ _ _ _, cell4_far k64 (Nat.ne_of_lt y31) _ _ _ _, cell4_far k65 (Nat.ne_of_lt y31) _ _ _ _, cell4_far k66 (Nat.ne_of_lt y31) _ _ _ _, cell4_far k67 (Nat.ne_of_lt y31) _ _ _ _⟩ | go_keep)
          (first
            | (go_at_call 68; refine (HSH.out _).mono ?_; rintro e w5 ⟨rfl, hb5⟩; have hE5 : Below wr.heap.size wr w5 := below_step (by repeat (first | exact Below.refl _ _ | assumption | refine Below.drew ?_ | refine Below.alloc ?_ (by first | omega | (simp; done) | (simp; omega)) _)) (by first | (simp; done) | (simp; omega)) hb5; have z5 := hE5.size; have y31 : T + 1 < wr.heap.size := block_lt_of_cell l0; have y32 : w.heap.size + 1 < wr.heap.size := block_lt_of_cell b0; have y51 : T + 1 < w5.heap.size := Nat.lt_of_lt_of_le (block_lt_of_cell l0) z5; have y52 : w.heap.size + 1 < w5.heap.size := Nat.lt_of_lt_of_le (block_lt_of_cell b0) z5; have k50 := cellS hE5 b0; have k51 := cellS hE5 b1; have k52 := cellS hE5 b2; have k53 := cellS hE5 b3; have k54 := cellS hE5 l0; have k55 := cellS hE5 l1; have k56 := cellS hE5 l2; have k57 := cellS hE5 l3; try (have N5 : Bk w5 wr.heap.size 34 #[.int .u64 0, .int .u64 0, .int .u64 0, .int .u64 0] := (by first | exact Bk.keep (Bk.new _ _ _) hb5 | exact Bk.keep (Bk.drew (Bk.new _ _ _)) hb5); obtain ⟨n0, n1, n2, n3, n4, n5, n6, n7, n8⟩ := N5.f4))
            | (go_at_call 44; refine (HSU.out _).mono ?_; rintro e w6 ⟨rfl, hb6⟩; have hE6 : Below wr.heap.size wr w6 := below_step (by repeat (first | exact Below.refl _ _ | assumption | refine Below.drew ?_ | refine Below.alloc ?_ (by first | omega | (simp; done) | (simp; omega)) _)) (by first | omega | (simp; done) | (simp; omega)) hb6; have z6 := hE6.size; have k60 := cellS hE6 b0; have k61 := cellS hE6 b1; have k62 := cellS hE6 b2; have k63 := cellS hE6 b3; have k64 := cellS hE6 l0; have k65 := cellS hE6 l1; have k66 := cellS hE6 l2; have k67 := cellS hE6 l3; (first | (have N6 : Bk w6 wr.heap.size 34 #[.int .u64 0, .int .u64 0, .int .u64 0, .int .u64 0] := N5.keep hb6; obtain ⟨n0, n1, n2, n3, n4, n5, n6, n7, n8⟩ := N6.f4) | (have N6 : Bk w6 w5.heap.size 34 #[.int .u64 0, .int .u64 0, .int .u64 0, .int .u64 0] := Bk.keep (Bk.new _ _ _) hb6; obtain ⟨n0, n1, n2, n3, n4, n5, n6, n7, n8⟩ := N6.f4) | skip)))
        · go_wp2_with fail
          go_meet
          exact ⟨w6.heap.size, rfl, rfl, Below.alloc hE6 (by omega) _, z6, Bk.new _ _ _⟩
        · go_wp2_with fail
          go_meet
          exact ⟨w5.heap.size, rfl, rfl, Below.set4 hE6 z5 _ _ _ _, z5, N6.set4 _ _ _ _⟩
        · go_wp2_with fail
          go_meet
          exact ⟨wr.heap.size, rfl, rfl, Below.set4 hE6 (Nat.le_refl _) _ _ _ _, Nat.le_refl _, N6.set4 _ _ _ _⟩
      case rest =>
        obtain ⟨g, rfl, rfl, hbx, hg, hR⟩ := hcut
        have hWx : Below w.heap.size w wc := below_step hW (by have := B.lt; omega) hbx
        have ng1 : g ≠ T + 1 := by have := L'.lt; omega
        have ng0 : g ≠ T := by have := L'.lt; omega
        have B := B.keep hbx
        have C := C.keep hbx
        have D := D.keep hbx
        have Q := Q.keep hbx
        have L' := L'.keep hbx
        clear b0 b1 b2 b3 zb l0 l1 l2 l3 l4 l5 l6 l7 zl HSH HSU hbx hW
        by_cases hl : L < b * 2 ^ k
        · rw [decide_eq_true hl]
          have HN : Hid (DivAt a b (((k : Int) - 1) + 1).toNat q L) := by
            rw [show (((k : Int) - 1) + 1).toNat = k from by omega]
            exact HI.out.less hl
          clear hl
          go_wp2_with fail
          go_roundw
          case rel => exact ⟨(k : Int) - 1, q, L, rfl, by omega, by omega, HN, hWx, B, C, D, Q, L'⟩
          case measure => simp [intOf]
        · rw [decide_eq_false hl]
          have hv : (L + M256 - b * 2 ^ k) % M256 = L - b * 2 ^ k := by
            rw [show L + M256 - b * 2 ^ k = (L - b * 2 ^ k) + M256 from by omega, Nat.add_mod_right, Nat.mod_eq_of_lt (by omega)]
          rw [hv] at hR
          have HN : Hid (DivAt a b (((k : Int) - 1) + 1).toNat (q + 2 ^ k) (L - b * 2 ^ k)) := by
            rw [show (((k : Int) - 1) + 1).toNat = k from by omega]
            exact HI.out.more hl
          have hlow := HI.out.low
          clear hl hv
          have hw1 := bit_int q k hk hlow
          obtain ⟨r0, r1, r2, r3, _, _, _, _, zr⟩ := hR.f4
          obtain ⟨l0, l1, l2, l3, l4, l5, l6, l7, zl⟩ := L'.f4
          obtain ⟨q0, q1, q2, q3, q4, q5, q6, q7, zq⟩ := Q.f4
          generalize L - b * 2 ^ k = R at *
          have hj : k / 64 = 0 ∨ k / 64 = 1 ∨ k / 64 = 2 ∨ k / 64 = 3 := by omega
          have o0 := bit_other q k 0 hk hlow
          have o1 := bit_other q k 1 hk hlow
          have o2 := bit_other q k 2 hk hlow
          have o3 := bit_other q k 3 hk hlow
          have hL := Lib.hid hlow
          clear hlow hfit hql hLl
          rcases hj with hj | hj | hj | hj
          · have hd : (k : Int) / 64 = 0 := by omega
            rw [hj, ← wdi_0, ← wdi_0] at hw1
            have O1 : Hid (wd1 (q + 2 ^ k) = wd1 q) := by show _ = _; rw [wdi_1, wdi_1]; exact o1 (by omega)
            have O2 : Hid (wd2 (q + 2 ^ k) = wd2 q) := by show _ = _; rw [wdi_2, wdi_2]; exact o2 (by omega)
            have O3 : Hid (wd3 (q + 2 ^ k) = wd3 q) := by show _ = _; rw [wdi_3, wdi_3]; exact o3 (by omega)
            have HW := Lib.hid hw1
            have HJ := Lib.hid hj
            clear o0 o1 o2 o3 hw1 hj
            go_wp2_with fail
            go_region
            go_wp2_with fail
            refine ⟨⟨(k : Int) - 1, q + 2 ^ k, R, rfl, by omega, by omega, HN, Below.drew (Below.setCell (Below.set4 hWx (by omega) _ _ _ _) (by show w.heap.size ≤ T; omega) _),
              ((B.far4 (by omega) _ _ _ _).far (by show w.heap.size + 1 ≠ T; omega) _).drew, ((C.far4 (by omega) _ _ _ _).far (by show w.heap.size + 2 ≠ T; omega) _).drew, ((D.far4 (by omega) _ _ _ _).far (by show w.heap.size + 3 ≠ T; omega) _).drew, ?_,
              ((L'.set4 _ _ _ _).far (by show T + 1 ≠ T; omega) _).drew⟩, by simp [intOf]⟩
            have e := ((Q.far4 (by omega : T ≠ T + 1) (.int .u64 (wd0 R : Int)) (.int .u64 (wd1 R : Int)) (.int .u64 (wd2 R : Int)) (.int .u64 (wd3 R : Int))).set_ 0 (.int .u64 (wd0 (q + 2 ^ k) : Int))).drew
            rw [← HW.out] at e
            rw [A4, O1.out, O2.out, O3.out, ← HW.out]
            exact e
          · have hd : (k : Int) / 64 = 1 := by omega
            rw [hj, ← wdi_1, ← wdi_1] at hw1
            have O0 : Hid (wd0 (q + 2 ^ k) = wd0 q) := by show _ = _; rw [wdi_0, wdi_0]; exact o0 (by omega)
            have O2 : Hid (wd2 (q + 2 ^ k) = wd2 q) := by show _ = _; rw [wdi_2, wdi_2]; exact o2 (by omega)
            have O3 : Hid (wd3 (q + 2 ^ k) = wd3 q) := by show _ = _; rw [wdi_3, wdi_3]; exact o3 (by omega)
            have HW := Lib.hid hw1
            have HJ := Lib.hid hj
            clear o0 o1 o2 o3 hw1 hj
            go_wp2_with fail
            go_region
            go_wp2_with fail
            refine ⟨⟨(k : Int) - 1, q + 2 ^ k, R, rfl, by omega, by omega, HN, Below.drew (Below.setCell (Below.set4 hWx (by omega) _ _ _ _) (by show w.heap.size ≤ T; omega) _),
              ((B.far4 (by omega) _ _ _ _).far (by show w.heap.size + 1 ≠ T; omega) _).drew, ((C.far4 (by omega) _ _ _ _).far (by show w.heap.size + 2 ≠ T; omega) _).drew, ((D.far4 (by omega) _ _ _ _).far (by show w.heap.size + 3 ≠ T; omega) _).drew, ?_,
              ((L'.set4 _ _ _ _).far (by show T + 1 ≠ T; omega) _).drew⟩, by simp [intOf]⟩
            have e := ((Q.far4 (by omega : T ≠ T + 1) (.int .u64 (wd0 R : Int)) (.int .u64 (wd1 R : Int)) (.int .u64 (wd2 R : Int)) (.int .u64 (wd3 R : Int))).set_ 1 (.int .u64 (wd1 (q + 2 ^ k) : Int))).drew
            rw [← HW.out] at e
            rw [A4, O0.out, O2.out, O3.out, ← HW.out]
            exact e
          · have hd : (k : Int) / 64 = 2 := by omega
            rw [hj, ← wdi_2, ← wdi_2] at hw1
            have O0 : Hid (wd0 (q + 2 ^ k) = wd0 q) := by show _ = _; rw [wdi_0, wdi_0]; exact o0 (by omega)
            have O1 : Hid (wd1 (q + 2 ^ k) = wd1 q) := by show _ = _; rw [wdi_1, wdi_1]; exact o1 (by omega)
            have O3 : Hid (wd3 (q + 2 ^ k) = wd3 q) := by show _ = _; rw [wdi_3, wdi_3]; exact o3 (by omega)
            have HW := Lib.hid hw1
            have HJ := Lib.hid hj
            clear o0 o1 o2 o3 hw1 hj
            go_wp2_with fail
            go_region
            go_wp2_with fail
            refine ⟨⟨(k : Int) - 1, q + 2 ^ k, R, rfl, by omega, by omega, HN, Below.drew (Below.setCell (Below.set4 hWx (by omega) _ _ _ _) (by show w.heap.size ≤ T; omega) _),
              ((B.far4 (by omega) _ _ _ _).far (by show w.heap.size + 1 ≠ T; omega) _).drew, ((C.far4 (by omega) _ _ _ _).far (by show w.heap.size + 2 ≠ T; omega) _).drew, ((D.far4 (by omega) _ _ _ _).far (by show w.heap.size + 3 ≠ T; omega) _).drew, ?_,
              ((L'.set4 _ _ _ _).far (by show T + 1 ≠ T; omega) _).drew⟩, by simp [intOf]⟩
            have e := ((Q.far4 (by omega : T ≠ T + 1) (.int .u64 (wd0 R : Int)) (.int .u64 (wd1 R : Int)) (.int .u64 (wd2 R : Int)) (.int .u64 (wd3 R : Int))).set_ 2 (.int .u64 (wd2 (q + 2 ^ k) : Int))).drew
            rw [← HW.out] at e
            rw [A4, O0.out, O1.out, O3.out, ← HW.out]
            exact e
          · have hd : (k : Int) / 64 = 3 := by omega
            rw [hj, ← wdi_3, ← wdi_3] at hw1
            have O0 : Hid (wd0 (q + 2 ^ k) = wd0 q) := by show _ = _; rw [wdi_0, wdi_0]; exact o0 (by omega)
            have O1 : Hid (wd1 (q + 2 ^ k) = wd1 q) := by show _ = _; rw [wdi_1, wdi_1]; exact o1 (by omega)
            have O2 : Hid (wd2 (q + 2 ^ k) = wd2 q) := by show _ = _; rw [wdi_2, wdi_2]; exact o2 (by omega)
            have HW := Lib.hid hw1
            have HJ := Lib.hid hj
            clear o0 o1 o2 o3 hw1 hj
            go_wp2_with fail
            go_region
            go_wp2_with fail
            refine ⟨⟨(k : Int) - 1, q + 2 ^ k, R, rfl, by omega, by omega, HN, Below.drew (Below.setCell (Below.set4 hWx (by omega) _ _ _ _) (by show w.heap.size ≤ T; omega) _),
              ((B.far4 (by omega) _ _ _ _).far (by show w.heap.size + 1 ≠ T; omega) _).drew, ((C.far4 (by omega) _ _ _ _).far (by show w.heap.size + 2 ≠ T; omega) _).drew, ((D.far4 (by omega) _ _ _ _).far (by show w.heap.size + 3 ≠ T; omega) _).drew, ?_,
              ((L'.set4 _ _ _ _).far (by show T + 1 ≠ T; omega) _).drew⟩, by simp [intOf]⟩
            have e := ((Q.far4 (by omega : T ≠ T + 1) (.int .u64 (wd0 R : Int)) (.int .u64 (wd1 R : Int)) (.int .u64 (wd2 R : Int)) (.int .u64 (wd3 R : Int))).set_ 3 (.int .u64 (wd3 (q + 2 ^ k) : Int))).drew
            rw [← HW.out] at e
            rw [A4, O0.out, O1.out, O2.out, ← HW.out]
            exact e
    · have hd0 : (d + 1).toNat = 0 := by omega
      have HI : Hid (DivAt a b 0 q L) := by
        have := HI.out
        rwa [hd0] at this
      clear hd0
      obtain ⟨c0, c1, c2, c3, c4, c5, c6, c7, zc⟩ := C.f4
      obtain ⟨e0, e1, e2, e3, e4, e5, e6, e7, ze⟩ := D.f4
      obtain ⟨q0, q1, q2, q3, q4, q5, q6, q7, zq⟩ := Q.f4
      obtain ⟨l0, l1, l2, l3, l4, l5, l6, l7, zl⟩ := L'.f4
      go_wp2_with fail
      go_region
      go_wp2_with fail
      obtain ⟨eq, eL⟩ := HI.out.done
      refine bodyPost_ret (v := .tuple #[nv q, nv L, .int .i64 0]) (by simp [results, Tryd.results58, go_sem, c0, c1, c2, c3, e0, e1, e2, e3]) rfl ⟨by rw [eq, eL], ?_⟩
      exact Below.drew (Below.set4 (Below.set4 hW (by omega) _ _ _ _) (by omega) _ _ _ _)
end Go.Proofs.YtkhiicnahijnoaaDoor
namespace Go.Proofs.YtkhiicnahijnoaaDoor
open Go.RowKit
set_option linter.unusedVariables false

set_option maxRecDepth 100000 in
set_option maxHeartbeats 1000000 in
theorem not_walk (a b c d : Int) (w : World) :
    Calls Tryd.prog 59 #[I4 a b c d] w fun e w' => e = .returned (I4 (bits BinOp.xor IntKind.u64 IntKind.u64.max a) (bits BinOp.xor IntKind.u64 IntKind.u64.max b) (bits BinOp.xor IntKind.u64 IntKind.u64.max c) (bits BinOp.xor IntKind.u64 IntKind.u64.max d)) ∧ Below w.heap.size w w' := by
  have i0 : ∀ w : World, (Instr.index 34 (I4 a b c d) (.int .i64 0)).run Tryd.prog w = .ok (.int .u64 a) w := fun _ => by kernel_rfl
  have i1 : ∀ w : World, (Instr.index 34 (I4 a b c d) (.int .i64 1)).run Tryd.prog w = .ok (.int .u64 b) w := fun _ => by kernel_rfl
  have i2 : ∀ w : World, (Instr.index 34 (I4 a b c d) (.int .i64 2)).run Tryd.prog w = .ok (.int .u64 c) w := fun _ => by kernel_rfl
  have i3 : ∀ w : World, (Instr.index 34 (I4 a b c d) (.int .i64 3)).run Tryd.prog w = .ok (.int .u64 d) w := fun _ => by kernel_rfl
  go_enter Tryd.func59, Tryd.ntmps59
  go_wp2
  refine wp_loop_rounds 5 ?_
  iterate 5
    rw [rounds_succ]
    go_wp2
  refine bodyPost_ret (v := I4 (bits BinOp.xor IntKind.u64 IntKind.u64.max a) (bits BinOp.xor IntKind.u64 IntKind.u64.max b) (bits BinOp.xor IntKind.u64 IntKind.u64.max c) (bits BinOp.xor IntKind.u64 IntKind.u64.max d)) (by simp [results, Tryd.results59, go_sem]) rfl ⟨rfl, ?_⟩
  repeat (first | exact Below.refl _ _ | refine Below.drew ?_ | refine Below.alloc ?_ (by first | omega | (simp; done) | (simp; omega)) _)

theorem not64 (x : Nat) (h : x < B64) : bits BinOp.xor IntKind.u64 IntKind.u64.max (x : Int) = ((B64 - 1 - x : Nat) : Int) := by
  have hm : IntKind.u64.max = ((18446744073709551615 : Nat) : Int) := by decide
  rw [hm, bits_xor_u64_nat _ _ (by omega) h]
  congr 1
  have hb : BitVec.ofNat 64 (B64 - 1 - x) = ~~~ (BitVec.ofNat 64 x) := by
    apply BitVec.eq_of_toNat_eq
    rw [BitVec.toNat_not, BitVec.toNat_ofNat, BitVec.toNat_ofNat]
    unfold B64 at *
    omega
  have hx : 18446744073709551615 ^^^ x = (BitVec.ofNat 64 18446744073709551615 ^^^ BitVec.ofNat 64 x).toNat := by
    rw [BitVec.toNat_xor, BitVec.toNat_ofNat, BitVec.toNat_ofNat]
    unfold B64 at h
    rw [Nat.mod_eq_of_lt (by omega), Nat.mod_eq_of_lt (by omega)]
  have hall : BitVec.ofNat 64 18446744073709551615 = BitVec.allOnes 64 := by decide
  rw [hx, hall, BitVec.allOnes_xor, ← hb, BitVec.toNat_ofNat]
  unfold B64 at *
  omega

theorem ofW_add (a b c d a' b' c' d' : Nat) : ofW a b c d + ofW a' b' c' d' = ofW (a + a') (b + b') (c + c') (d + d') := by
  unfold ofW
  simp only [Nat.mul_add]
  omega
theorem ofW_max : ofW (B64 - 1) (B64 - 1) (B64 - 1) (B64 - 1) = M256 - 1 := by kernel_rfl

theorem not_any (n : Nat) (w : World) (h : n < M256) :
    Calls Tryd.prog 59 #[nv n] w fun e w' => e = .returned (nv (M256 - 1 - n)) ∧ Below w.heap.size w w' := by
  refine (not_walk _ _ _ _ w).mono ?_
  rintro e w' ⟨rfl, hb⟩
  refine ⟨?_, hb⟩
  rw [not64 _ (wd0_lt n), not64 _ (wd1_lt n), not64 _ (wd2_lt n), not64 _ (wd3_lt n)]
  have e := nv_of_eq (B64 - 1 - wd0 n) (B64 - 1 - wd1 n) (B64 - 1 - wd2 n) (B64 - 1 - wd3 n) (M256 - 1 - n) (by have := B64_pos; omega) (by have := B64_pos; omega) (by have := B64_pos; omega) (by have := B64_pos; omega) ?_
  · exact congrArg Ending.returned e
  · have e0 := ofW_wd n h
    have l0 := wd0_lt n
    have l1 := wd1_lt n
    have l2 := wd2_lt n
    have l3 := wd3_lt n
    have hp := B64_pos
    generalize wd0 n = a at *
    generalize wd1 n = b at *
    generalize wd2 n = c at *
    generalize wd3 n = d at *
    have s : ofW (B64 - 1 - a) (B64 - 1 - b) (B64 - 1 - c) (B64 - 1 - d) + ofW a b c d = M256 - 1 := by
      rw [ofW_add, show B64 - 1 - a + a = B64 - 1 from by omega, show B64 - 1 - b + b = B64 - 1 from by omega, show B64 - 1 - c + c = B64 - 1 from by omega, show B64 - 1 - d + d = B64 - 1 from by omega]
      exact ofW_max
    omega

end Go.Proofs.YtkhiicnahijnoaaDoor
namespace Go.Proofs.YtkhiicnahijnoaaDoor
open Go.RowKit
set_option linter.unusedVariables false

set_option maxRecDepth 100000 in
set_option maxHeartbeats 4000000 in
theorem shr_walk0 (a0 a1 a2 a3 n r : Int) (w : World) (h0 : 0 ≤ n) (h1 : n < 256) (hq : n / 64 = 0) (hr : n % 64 = r) (r0 : 0 ≤ r) (r1 : r < 64) :
    Calls Tryd.prog 67 #[I4 a0 a1 a2 a3, .int .i64 n] w fun e w' => e = .returned (I4 (bits BinOp.or IntKind.u64 (a0 / 2 ^ r.toNat) (IntKind.u64.wrap (a1 * 2 ^ (64 - r).toNat))) (bits BinOp.or IntKind.u64 (a1 / 2 ^ r.toNat) (IntKind.u64.wrap (a2 * 2 ^ (64 - r).toNat))) (bits BinOp.or IntKind.u64 (a2 / 2 ^ r.toNat) (IntKind.u64.wrap (a3 * 2 ^ (64 - r).toNat))) (a3 / 2 ^ r.toNat)) ∧ Below w.heap.size w w' := by
  go_enter Tryd.func67, Tryd.ntmps67
  go_wp2
  refine wp_loop_rounds 5 ?_
  rw [rounds_succ]
  go_wp2
  go_region
  go_wp2
  rw [rounds_succ]
  go_wp2
  go_region
  go_wp2
  rw [rounds_succ]
  go_wp2
  go_region
  go_wp2
  rw [rounds_succ]
  go_wp2
  rw [rounds_succ]
  go_wp2
  refine bodyPost_ret (v := I4 (bits BinOp.or IntKind.u64 (a0 / 2 ^ r.toNat) (IntKind.u64.wrap (a1 * 2 ^ (64 - r).toNat))) (bits BinOp.or IntKind.u64 (a1 / 2 ^ r.toNat) (IntKind.u64.wrap (a2 * 2 ^ (64 - r).toNat))) (bits BinOp.or IntKind.u64 (a2 / 2 ^ r.toNat) (IntKind.u64.wrap (a3 * 2 ^ (64 - r).toNat))) (a3 / 2 ^ r.toNat)) (by simp [results, Tryd.results67, go_sem]) rfl ⟨rfl, ?_⟩
  repeat (first | exact Below.refl _ _ | refine Below.drew ?_ | refine Below.alloc ?_ (by first | omega | (simp; done) | (simp; omega)) _)

set_option maxRecDepth 100000 in
set_option maxHeartbeats 4000000 in
theorem shr_walk1 (a0 a1 a2 a3 n r : Int) (w : World) (h0 : 0 ≤ n) (h1 : n < 256) (hq : n / 64 = 1) (hr : n % 64 = r) (r0 : 0 ≤ r) (r1 : r < 64) :
    Calls Tryd.prog 67 #[I4 a0 a1 a2 a3, .int .i64 n] w fun e w' => e = .returned (I4 (bits BinOp.or IntKind.u64 (a1 / 2 ^ r.toNat) (IntKind.u64.wrap (a2 * 2 ^ (64 - r).toNat))) (bits BinOp.or IntKind.u64 (a2 / 2 ^ r.toNat) (IntKind.u64.wrap (a3 * 2 ^ (64 - r).toNat))) (a3 / 2 ^ r.toNat) 0) ∧ Below w.heap.size w w' := by
  go_enter Tryd.func67, Tryd.ntmps67
  go_wp2
  refine wp_loop_rounds 5 ?_
  rw [rounds_succ]
  go_wp2
  go_region
  go_wp2
  rw [rounds_succ]
  go_wp2
  go_region
  go_wp2
  rw [rounds_succ]
  go_wp2
  rw [rounds_succ]
  go_wp2
  refine bodyPost_ret (v := I4 (bits BinOp.or IntKind.u64 (a1 / 2 ^ r.toNat) (IntKind.u64.wrap (a2 * 2 ^ (64 - r).toNat))) (bits BinOp.or IntKind.u64 (a2 / 2 ^ r.toNat) (IntKind.u64.wrap (a3 * 2 ^ (64 - r).toNat))) (a3 / 2 ^ r.toNat) 0) (by simp [results, Tryd.results67, go_sem]) rfl ⟨rfl, ?_⟩
  repeat (first | exact Below.refl _ _ | refine Below.drew ?_ | refine Below.alloc ?_ (by first | omega | (simp; done) | (simp; omega)) _)

set_option maxRecDepth 100000 in
set_option maxHeartbeats 4000000 in
theorem shr_walk2 (a0 a1 a2 a3 n r : Int) (w : World) (h0 : 0 ≤ n) (h1 : n < 256) (hq : n / 64 = 2) (hr : n % 64 = r) (r0 : 0 ≤ r) (r1 : r < 64) :
    Calls Tryd.prog 67 #[I4 a0 a1 a2 a3, .int .i64 n] w fun e w' => e = .returned (I4 (bits BinOp.or IntKind.u64 (a2 / 2 ^ r.toNat) (IntKind.u64.wrap (a3 * 2 ^ (64 - r).toNat))) (a3 / 2 ^ r.toNat) 0 0) ∧ Below w.heap.size w w' := by
  go_enter Tryd.func67, Tryd.ntmps67
  go_wp2
  refine wp_loop_rounds 5 ?_
  rw [rounds_succ]
  go_wp2
  go_region
  go_wp2
  rw [rounds_succ]
  go_wp2
  rw [rounds_succ]
  go_wp2
  refine bodyPost_ret (v := I4 (bits BinOp.or IntKind.u64 (a2 / 2 ^ r.toNat) (IntKind.u64.wrap (a3 * 2 ^ (64 - r).toNat))) (a3 / 2 ^ r.toNat) 0 0) (by simp [results, Tryd.results67, go_sem]) rfl ⟨rfl, ?_⟩
  repeat (first | exact Below.refl _ _ | refine Below.drew ?_ | refine Below.alloc ?_ (by first | omega | (simp; done) | (simp; omega)) _)

set_option maxRecDepth 100000 in
set_option maxHeartbeats 4000000 in
theorem shr_walk3 (a0 a1 a2 a3 n r : Int) (w : World) (h0 : 0 ≤ n) (h1 : n < 256) (hq : n / 64 = 3) (hr : n % 64 = r) (r0 : 0 ≤ r) (r1 : r < 64) :
    Calls Tryd.prog 67 #[I4 a0 a1 a2 a3, .int .i64 n] w fun e w' => e = .returned (I4 (a3 / 2 ^ r.toNat) 0 0 0) ∧ Below w.heap.size w w' := by
  go_enter Tryd.func67, Tryd.ntmps67
  go_wp2
  refine wp_loop_rounds 5 ?_
  rw [rounds_succ]
  go_wp2
  rw [rounds_succ]
  go_wp2
  refine bodyPost_ret (v := I4 (a3 / 2 ^ r.toNat) 0 0 0) (by simp [results, Tryd.results67, go_sem]) rfl ⟨rfl, ?_⟩
  repeat (first | exact Below.refl _ _ | refine Below.drew ?_ | refine Below.alloc ?_ (by first | omega | (simp; done) | (simp; omega)) _)

set_option maxRecDepth 100000 in
set_option maxHeartbeats 4000000 in
theorem shr_out (a0 a1 a2 a3 n : Int) (w : World) (h : n < 0 ∨ 256 ≤ n) :
    Calls Tryd.prog 67 #[I4 a0 a1 a2 a3, .int .i64 n] w fun e w' => e = .returned (I4 0 0 0 0) ∧ Below w.heap.size w w' := by
  rcases h with h | h
  all_goals
    go_enter Tryd.func67, Tryd.ntmps67
    go_wp2
    refine bodyPost_ret (v := I4 0 0 0 0) (by simp [results, Tryd.results67, go_sem]) rfl ⟨rfl, ?_⟩
    repeat (first | exact Below.refl _ _ | refine Below.drew ?_ | refine Below.alloc ?_ (by first | omega | (simp; done) | (simp; omega)) _)

theorem shr_none (a : Nat) (n : Int) (w : World) (h : n < 0 ∨ 256 ≤ n) :
    Calls Tryd.prog 67 #[nv a, .int .i64 n] w fun e w' => e = .returned (nv 0) ∧ Below w.heap.size w w' := by
  rw [nv_zero]; exact shr_out _ _ _ _ n w h

/-- shr_join at whatever r. -/
theorem shr_join' (r x y : Nat) (h : r < 64) (hy : y < B64) :
    bits BinOp.or IntKind.u64 ((y : Int) / 2 ^ ((r : Int)).toNat) (IntKind.u64.wrap ((x : Int) * 2 ^ (64 - (r : Int)).toNat)) = ((y / 2 ^ r + 2 ^ (64 - r) * (x % 2 ^ r) : Nat) : Int) ∧ y / 2 ^ r + 2 ^ (64 - r) * (x % 2 ^ r) < B64 := by
  rcases Nat.eq_zero_or_pos r with rfl | hr
  · have e : (x : Int) * 2 ^ (64 - ((0 : Nat) : Int)).toNat = (x : Int) * 18446744073709551616 := rfl
    have e2 : IntKind.u64.wrap ((x : Int) * 18446744073709551616) = ((0 : Nat) : Int) := by rw [IntKind.wrap_u64]; omega
    have e3 : (y : Int) / 2 ^ (((0 : Nat) : Int)).toNat = (y : Int) := by simp
    rw [e, e2, e3, or64 y 0 hy B64_pos]
    simp [Nat.mod_one, hy]
  · exact shr_join r x y h hr hy

theorem shr_any (a n : Nat) (w : World) (ha : a < M256) (hn : n < 256) :
    Calls Tryd.prog 67 #[nv a, .int .i64 (n : Int)] w fun e w' => e = .returned (nv (a / 2 ^ n)) ∧ Below w.heap.size w w' := by
  obtain ⟨k, r, hk, hr, rfl⟩ : ∃ k r, k < 4 ∧ r < 64 ∧ n = 64 * k + r := ⟨n / 64, n % 64, by omega, by omega, by omega⟩
  have hw := shr_words (wd0 a) (wd1 a) (wd2 a) (wd3 a) (2 ^ r) (2 ^ (64 - r)) (pq r hr)
  rw [ofW_wd a ha] at hw
  obtain ⟨j0, l0⟩ := shr_join' r (wd1 a) (wd0 a) hr (wd0_lt a)
  obtain ⟨j1, l1⟩ := shr_join' r (wd2 a) (wd1 a) hr (wd1_lt a)
  obtain ⟨j2, l2⟩ := shr_join' r (wd3 a) (wd2 a) hr (wd2_lt a)
  have j3 : ((wd3 a : Nat) : Int) / 2 ^ ((r : Int)).toNat = ((wd3 a / 2 ^ r : Nat) : Int) := by rw [Int.toNat_natCast]; exact shr_word _ _
  have l3 : wd3 a / 2 ^ r < B64 := Nat.lt_of_le_of_lt (Nat.div_le_self _ _) (wd3_lt a)
  have hp := Nat.two_pow_pos r
  have E0 : a / 2 ^ r = ofW (wd0 a / 2 ^ r + 2 ^ (64 - r) * (wd1 a % 2 ^ r)) (wd1 a / 2 ^ r + 2 ^ (64 - r) * (wd2 a % 2 ^ r)) (wd2 a / 2 ^ r + 2 ^ (64 - r) * (wd3 a % 2 ^ r)) (wd3 a / 2 ^ r) :=
    (split_div a (2 ^ r) _ (wd0 a % 2 ^ r) hp (hw.symm.trans (by rw [Nat.mul_comm (2 ^ r), Nat.add_comm])) (Nat.mod_lt _ hp)).2
  have E1 := (congrArg (· / B64) E0).trans (ofW_drop _ _ _ _ l0)
  have E2 := (congrArg (· / B64) E1).trans (ofW_drop _ _ _ _ l1)
  have E3 := (congrArg (· / B64) E2).trans (ofW_drop _ _ _ _ l2)
  have hq : ((64 * k + r : Nat) : Int) / 64 = (k : Int) := by omega
  have hm : ((64 * k + r : Nat) : Int) % 64 = (r : Int) := by omega
  rw [pow_split]
  have hk4 : k = 0 ∨ k = 1 ∨ k = 2 ∨ k = 3 := by omega
  rcases hk4 with rfl | rfl | rfl | rfl
  · refine (shr_walk0 _ _ _ _ _ _ w (by omega) (by omega) hq hm (by omega) (by omega)).mono ?_
    rintro e w' ⟨rfl, hb⟩
    refine ⟨?_, hb⟩
    rw [j0, j1, j2, j3, Nat.pow_zero, Nat.mul_one]
    exact congrArg Ending.returned (nv_of_eq _ _ _ _ _ l0 l1 l2 l3 E0.symm)
  · refine (shr_walk1 _ _ _ _ _ _ w (by omega) (by omega) hq hm (by omega) (by omega)).mono ?_
    rintro e w' ⟨rfl, hb⟩
    refine ⟨?_, hb⟩
    rw [j1, j2, j3, Nat.pow_one, ← Nat.div_div_eq_div_mul]
    exact congrArg Ending.returned (nv_of_eq _ _ _ _ _ l1 l2 l3 B64_pos E1.symm)
  · refine (shr_walk2 _ _ _ _ _ _ w (by omega) (by omega) hq hm (by omega) (by omega)).mono ?_
    rintro e w' ⟨rfl, hb⟩
    refine ⟨?_, hb⟩
    rw [j2, j3, show B64 ^ 2 = B64 * B64 from by rw [Nat.pow_succ, Nat.pow_one], ← Nat.div_div_eq_div_mul, ← Nat.div_div_eq_div_mul]
    exact congrArg Ending.returned (nv_of_eq _ _ _ _ _ l2 l3 B64_pos B64_pos E2.symm)
  · refine (shr_walk3 _ _ _ _ _ _ w (by omega) (by omega) hq hm (by omega) (by omega)).mono ?_
    rintro e w' ⟨rfl, hb⟩
    refine ⟨?_, hb⟩
    rw [j3, show B64 ^ 3 = B64 * B64 * B64 from by rw [Nat.pow_succ, Nat.pow_succ, Nat.pow_one], ← Nat.div_div_eq_div_mul, ← Nat.div_div_eq_div_mul, ← Nat.div_div_eq_div_mul]
    exact congrArg Ending.returned (nv_of_eq _ _ _ _ _ l3 B64_pos B64_pos B64_pos E3.symm)

end Go.Proofs.YtkhiicnahijnoaaDoor
namespace Go.Proofs.YtkhiicnahijnoaaDoor
open Go.RowKit
set_option linter.unusedVariables false

theorem nums2 (w : World) (x y : Nat) : Nums (w.alloc (.cells #[.int .u64 (wd0 x : Int), .int .u64 (wd1 x : Int), .int .u64 (wd2 x : Int), .int .u64 (wd3 x : Int), .int .u64 (wd0 y : Int), .int .u64 (wd1 y : Int), .int .u64 (wd2 y : Int), .int .u64 (wd3 y : Int)] 34)) w.heap.size 0 [x, y] := by
  have h := heap_alloc_new w (.cells #[.int .u64 (wd0 x : Int), .int .u64 (wd1 x : Int), .int .u64 (wd2 x : Int), .int .u64 (wd3 x : Int), .int .u64 (wd0 y : Int), .int .u64 (wd1 y : Int), .int .u64 (wd2 y : Int), .int .u64 (wd3 y : Int)] 34)
  have hc := fun j => cell_of_row _ w.heap.size j _ _ _ h
  intro k z hz
  match k with
  | 0 =>
    obtain rfl : x = z := by simpa using hz
    exact ⟨hc 0, hc 1, hc 2, hc 3⟩
  | 1 =>
    obtain rfl : y = z := by simpa using hz
    exact ⟨hc 4, hc 5, hc 6, hc 7⟩
  | k + 2 => simp at hz

theorem add2 (x y : Nat) (w : World) (hx : x < M256) (hy : y < M256) :
    Calls Tryd.prog 57 #[.slice (some ⟨w.heap.size, 0, none⟩) 2 2] (w.alloc (.cells #[.int .u64 (wd0 x : Int), .int .u64 (wd1 x : Int), .int .u64 (wd2 x : Int), .int .u64 (wd3 x : Int), .int .u64 (wd0 y : Int), .int .u64 (wd1 y : Int), .int .u64 (wd2 y : Int), .int .u64 (wd3 y : Int)] 34)) fun e w' =>
      e = .returned (.tuple #[nv ((x + y) % M256), .bool (decide (M256 ≤ x + y))]) ∧ Below w.heap.size w w' := by
  refine (nadd_any [x, y] w.heap.size 0 2 _ (by simp) (by intro z hz; simp at hz; rcases hz with rfl | rfl <;> assumption) (nums2 w x y) (.inr (by simp))).mono ?_
  rintro e w' ⟨rfl, hb⟩
  have hs : [x, y].sum = x + y := by simp
  refine ⟨by rw [hs], below_step ((Below.refl _ _).alloc (Nat.le_refl _) _) (by simp) hb⟩

end Go.Proofs.YtkhiicnahijnoaaDoor
namespace Go.Proofs.YtkhiicnahijnoaaDoor
open Go.RowKit
set_option linter.unusedVariables false

/-- A number times 256 to the power of n, rounded down, and cut to 256 bits. -/
def mv (a : Nat) (n : Int) : Nat := if n < 0 then a / 2 ^ (8 * (-n).toNat) else a * 2 ^ (8 * n.toNat) % M256
theorem M256_pos' : 0 < M256 := by rw [M256_pow]; exact Nat.two_pow_pos 256
theorem mv_lt (a : Nat) (n : Int) (ha : a < M256) : mv a n < M256 := by
  unfold mv
  split
  · exact Nat.lt_of_le_of_lt (Nat.div_le_self _ _) ha
  · exact Nat.mod_lt _ M256_pos'
theorem shr_mv (a : Nat) (n : Int) (w : World) (ha : a < M256) (hn : n < 0) :
    Calls Tryd.prog 67 #[nv a, .int .i64 (-n * 8)] w fun e w' => e = .returned (nv (mv a n)) ∧ Below w.heap.size w w' := by
  unfold mv
  rw [if_pos hn]
  obtain ⟨k, rfl⟩ : ∃ k : Nat, n = -(k : Int) := ⟨(-n).toNat, by omega⟩
  rw [Int.neg_neg, Int.toNat_natCast, show ((k : Int) * 8) = ((8 * k : Nat) : Int) from by omega]
  by_cases h : 8 * k < 256
  · exact shr_any a (8 * k) w ha h
  · have e : a / 2 ^ (8 * k) = 0 := Nat.div_eq_of_lt (Nat.lt_of_lt_of_le ha (by rw [M256_pow]; exact Nat.pow_le_pow_right (by omega) (by omega)))
    rw [e]
    exact shr_none a _ w (.inr (by omega))
theorem shl_mv (a : Nat) (n : Int) (w : World) (ha : a < M256) (hn : ¬ n < 0) :
    Calls Tryd.prog 68 #[nv a, .int .i64 (n * 8)] w fun e w' => e = .returned (nv (mv a n)) ∧ Below w.heap.size w w' := by
  unfold mv
  rw [if_neg hn]
  obtain ⟨k, rfl⟩ : ∃ k : Nat, n = (k : Int) := ⟨n.toNat, by omega⟩
  rw [Int.toNat_natCast, show ((k : Int) * 8) = ((8 * k : Nat) : Int) from by omega]
  by_cases h : 8 * k < 256
  · exact shl_any a (8 * k) w ha h
  · have e : a * 2 ^ (8 * k) % M256 = 0 := by
      rw [M256_pow, show 8 * k = 256 + (8 * k - 256) from by omega, Nat.pow_add, Nat.mul_left_comm]
      exact Nat.mul_mod_right _ _
    rw [e]
    exact shl_none a _ w (.inr (by omega))
theorem num_info : (Tryd.prog.info? 34).map (·.size) = some 4 := by kernel_rfl
/-- A function that hands back a number out of its own block. -/
theorem num_ret {P : Func} {a : Act} {w W : World} {r g : Nat} {nm : Nat} (hp : P.results = #[ResultVar.cell nm 34]) (hr : P.resultTypes = #[34]) (hd : a.defers = []) (hv : a.tmps.getD nm undef = .pointer (some ⟨g, 0, none⟩))
    (hR : Bk W g 34 (A4 (wd0 r) (wd1 r) (wd2 r) (wd3 r))) (hB : Below w.heap.size w W) : bodyPost Tryd.prog P (fun e w' => e = .returned (nv r) ∧ Below w.heap.size w w') Exit.ret a W := by
  refine bodyPost_ret (results_cell_row hp _ _ g 34 (A4 (wd0 r) (wd1 r) (wd2 r) (wd3 r)) (0, 0) _ hv hR Tryd.underlying34 rfl num_info) hd ⟨rfl, hB⟩
set_option maxRecDepth 100000 in
set_option maxHeartbeats 1000000 in
theorem move_any (a : Nat) (n : Int) (w : World) (ha : a < M256) (h0 : -1000 ≤ n) (h1 : n ≤ 1000) :
    Calls Tryd.prog 42 #[nv a, .int .i64 n] w fun e w' => e = .returned (nv (mv a n)) ∧ Below w.heap.size w w' := by
  by_cases hn : n < 0
  · have H := fun W => shr_mv a n W ha hn
    generalize mv a n = r at *
    have H := Lib.hid H
    have hd : decide (n < 0) = true := decide_eq_true hn
    have q : IntKind.i64.wrap (-n) = -n := IntWalk.i64_in _ (by omega)
    have q2 : IntKind.i64.wrap (-n * 8) = -n * 8 := IntWalk.i64_in _ (by omega)
    go_enter Tryd.func42, Tryd.ntmps42
    go_wp2_with fail
    refine (H.out _).mono ?_
    rintro e w1 ⟨rfl, hb⟩
    have R : Bk w1 (w.heap.size + 1) 34 #[.int .u64 0, .int .u64 0, .int .u64 0, .int .u64 0] := Bk.keep (Bk.new' _ _ _ (by simp)) hb
    have hW : Below w.heap.size w w1 := below_step (((Below.refl _ _).alloc (Nat.le_refl _) _).alloc (by simp) _) (by simp; omega) hb
    obtain ⟨r0, r1, r2, r3, r4, r5, r6, r7, zr⟩ := R.f4
    clear hb
    go_wp2_with fail
    exact num_ret rfl rfl rfl rfl (R.set4 _ _ _ _) (Below.set4 hW (by omega) _ _ _ _)
  · have H := fun W => shl_mv a n W ha hn
    generalize mv a n = r at *
    have H := Lib.hid H
    have hd : decide (n < 0) = false := decide_eq_false hn
    have q : IntKind.i64.wrap (n * 8) = n * 8 := IntWalk.i64_in _ (by omega)
    clear hn
    go_enter Tryd.func42, Tryd.ntmps42
    go_wp2_with fail
    refine (H.out _).mono ?_
    rintro e w1 ⟨rfl, hb⟩
    have R : Bk w1 (w.heap.size + 1) 34 #[.int .u64 0, .int .u64 0, .int .u64 0, .int .u64 0] := Bk.keep (Bk.new' _ _ _ (by simp)) hb
    have hW : Below w.heap.size w w1 := below_step (((Below.refl _ _).alloc (Nat.le_refl _) _).alloc (by simp) _) (by simp; omega) hb
    obtain ⟨r0, r1, r2, r3, r4, r5, r6, r7, zr⟩ := R.f4
    clear hb
    go_wp2_with fail
    exact num_ret rfl rfl rfl rfl (R.set4 _ _ _ _) (Below.set4 hW (by omega) _ _ _ _)

/-- The short form of a number. -/
def shortN (a : Nat) : Nat := if a = 0 then 0 else (blen a / 8 + 1) * 16777216 ||| (wd0 (mv a (3 - ((blen a / 8 + 1 : Nat) : Int))) % 4294967296)
end Go.Proofs.YtkhiicnahijnoaaDoor
namespace Go.Proofs.YtkhiicnahijnoaaDoor
open Go.RowKit
set_option linter.unusedVariables false

/-- What short bits mean: a number, and whether it is one. -/
def tgtV (b : Nat) : Nat := if 8388608 ≤ b % 16777216 then 0 else if 256 < (blen (b % 16777216) : Int) + (((b / 16777216 : Nat) : Int) - 3) * 8 then 0 else mv (b % 16777216) (((b / 16777216 : Nat) : Int) - 3)
theorem tgtV_lt (b : Nat) : tgtV b < M256 := by
  unfold tgtV
  split
  · exact M256_pos'
  · split
    · exact M256_pos'
    · exact mv_lt _ _ (by rw [M256_pow]; exact Nat.lt_of_lt_of_le (show b % 16777216 < 2 ^ 24 by omega) (Nat.pow_le_pow_right (by omega) (by omega)))
/-- A function that hands back a number out of its own block, and a word. -/
theorem num_ret2 {P : Func} {a : Act} {w W : World} {r g nm k : Nat} {v : Value} (hp : P.results = #[ResultVar.cell nm 34, ResultVar.tmp k]) (hd : a.defers = []) (hv : a.tmps.getD nm undef = .pointer (some ⟨g, 0, none⟩)) (hk : a.tmps.getD k undef = v)
    (hR : Bk W g 34 (A4 (wd0 r) (wd1 r) (wd2 r) (wd3 r))) (hB : Below w.heap.size w W) : bodyPost Tryd.prog P (fun e w' => e = .returned (.tuple #[nv r, v]) ∧ Below w.heap.size w w') Exit.ret a W := by
  have h1 := run_loadVar_row (P := Tryd.prog) W g 34 34 (A4 (wd0 r) (wd1 r) (wd2 r) (wd3 r)) (0, 0) _ hR Tryd.underlying34 rfl num_info
  refine bodyPost_ret (v := .tuple #[nv r, v]) ?_ hd ⟨rfl, hB⟩
  rw [results_cell_tmp hp, hv, hk]
  show ((asAddr (.pointer (some ⟨g, 0, none⟩))).run Tryd.prog W).andThen _ = _
  simp only [asAddr, Sem.run_pure, Result.andThen_ok, h1]
theorem zero_cells : A4 (wd0 0) (wd1 0) (wd2 0) (wd3 0) = #[Value.int .u64 0, .int .u64 0, .int .u64 0, .int .u64 0] := by kernel_rfl
theorem and24 (b : Nat) (h : b < 4294967296) : bits BinOp.and IntKind.u32 (b : Int) 16777215 = ((b % 16777216 : Nat) : Int) := by
  have e := u32_and_nat b 16777215 h (by omega)
  rw [show (16777216 : Nat) = 2 ^ 24 from rfl, ← Nat.and_two_pow_sub_one_eq_mod]
  exact e
set_option maxRecDepth 100000 in
set_option maxHeartbeats 1000000 in
theorem target_any (b : Nat) (w : World) (hb : b < 4294967296) :
    Calls Tryd.prog 16 #[.int .u32 (b : Int)] w fun e w' => e = .returned (.tuple #[nv (tgtV b), .bool (!decide (tgtV b = 0))]) ∧ Below w.heap.size w w' := by
  have ha := and24 b hb
  have HT : Hid (tgtV b = if 8388608 ≤ b % 16777216 then 0 else if 256 < (blen (b % 16777216) : Int) + (((b / 16777216 : Nat) : Int) - 3) * 8 then 0 else mv (b % 16777216) (((b / 16777216 : Nat) : Int) - 3)) := rfl
  have hx : b % 16777216 < 16777216 := Nat.mod_lt _ (by omega)
  have hy : b / 16777216 < 256 := by omega
  have hsh : ((b : Int) / 16777216) = ((b / 16777216 : Nat) : Int) := by omega
  have ht := tgtV_lt b
  generalize tgtV b = t at *
  generalize b % 16777216 = x at *
  generalize b / 16777216 = y at *
  have hxM : x < M256 := by rw [M256_pow]; exact Nat.lt_of_lt_of_le (show x < 2 ^ 24 by omega) (Nat.pow_le_pow_right (by omega) (by omega))
  by_cases h1 : 8388608 ≤ x
  · have e1 : t = 0 := by rw [HT.out, if_pos h1]
    subst e1
    rw [show (!decide ((0 : Nat) = 0)) = false from rfl]
    have hd : decide ((8388608 : Int) ≤ (x : Int)) = true := decide_eq_true (by omega)
    clear hsh ht HT
    go_enter Tryd.func16, Tryd.ntmps16
    go_wp2_with fail
    exact num_ret2 rfl rfl rfl rfl (by rw [zero_cells]; exact Bk.new _ _ _) ((Below.refl _ _).alloc (Nat.le_refl _) _)
  · have hd : decide ((8388608 : Int) ≤ (x : Int)) = false := decide_eq_false (by omega)
    have HO := Lib.hid (fun W => of_any x W (by rw [B64_pow]; exact Nat.lt_of_lt_of_le (show x < 2 ^ 24 by omega) (Nat.pow_le_pow_right (by omega) (by omega))))
    have HL := Lib.hid (fun W => len_any x W hxM)
    have hbl := blen_le x hxM
    rw [if_neg h1] at HT
    obtain ⟨l, hl⟩ : ∃ l, l = blen x := ⟨_, rfl⟩
    rw [← hl] at HT HL hbl
    clear hl h1
    by_cases h2 : 256 < (l : Int) + ((y : Int) - 3) * 8
    · have e1 : t = 0 := by rw [HT.out, if_pos h2]
      subst e1
      rw [show (!decide ((0 : Nat) = 0)) = false from rfl]
      have hd2 : decide ((256 : Int) < (l : Int) + ((y : Int) - 3) * 8) = true := decide_eq_true h2
      clear ht HT
      go_enter Tryd.func16, Tryd.ntmps16
      go_wp2_with fail
      refine (HO.out _).mono ?_
      rintro e w1 ⟨rfl, hb1⟩
      have R : Bk w1 w.heap.size 34 (A4 (wd0 0) (wd1 0) (wd2 0) (wd3 0)) := by rw [zero_cells]; exact Bk.keep (Bk.new _ _ _) hb1
      have hW : Below w.heap.size w w1 := below_step ((Below.refl _ _).alloc (Nat.le_refl _) _) (by simp) hb1
      clear hb1
      go_wp2_with fail
      refine (HL.out _).mono ?_
      rintro e w2 ⟨rfl, hb2⟩
      have R := (R.alloc (.cells (A4 (wd0 x) (wd1 x) (wd2 x) (wd3 x)) 34)).keep hb2
      have hW := below_step (hW.alloc hW.size (.cells (A4 (wd0 x) (wd1 x) (wd2 x) (wd3 x)) 34)) (by have := hW.size; simp; omega) hb2
      clear hb2
      rw [zero_cells] at R
      obtain ⟨r0, r1, r2, r3, r4, r5, r6, r7, zr⟩ := R.f4
      go_wp2_with fail
      refine num_ret2 rfl rfl rfl rfl ?_ (Below.set4 hW (Nat.le_refl _) _ _ _ _)
      rw [zero_cells]
      exact R.set4 _ _ _ _
    · have e1 : t = mv x ((y : Int) - 3) := by rw [HT.out, if_neg h2]
      have hd2 : decide ((256 : Int) < (l : Int) + ((y : Int) - 3) * 8) = false := decide_eq_false h2
      have HM := Lib.hid (fun W => move_any x ((y : Int) - 3) W hxM (by omega) (by omega))
      rw [← e1] at HM
      have HZ := Lib.hid (fun W => zero_any t W ht)
      clear ht HT h2 e1
      generalize decide (t = 0) = o at *
      go_enter Tryd.func16, Tryd.ntmps16
      go_wp2_with fail
      refine (HO.out _).mono ?_
      rintro e w1 ⟨rfl, hb1⟩
      have R : Bk w1 w.heap.size 34 #[.int .u64 0, .int .u64 0, .int .u64 0, .int .u64 0] := Bk.keep (Bk.new _ _ _) hb1
      have hW : Below w.heap.size w w1 := below_step ((Below.refl _ _).alloc (Nat.le_refl _) _) (by simp) hb1
      clear hb1
      go_wp2_with fail
      refine (HL.out _).mono ?_
      rintro e w2 ⟨rfl, hb2⟩
      have R := (R.alloc (.cells (A4 (wd0 x) (wd1 x) (wd2 x) (wd3 x)) 34)).keep hb2
      have X : Bk w2 w1.heap.size 34 (A4 (wd0 x) (wd1 x) (wd2 x) (wd3 x)) := (Bk.new _ _ _).keep hb2
      have hg1 := hW.size
      have hW := below_step (hW.alloc hW.size (.cells (A4 (wd0 x) (wd1 x) (wd2 x) (wd3 x)) 34)) (by have := hW.size; simp; omega) hb2
      clear hb2
      generalize w1.heap.size = g1 at *
      obtain ⟨a0, a1, a2, a3, a4, a5, a6, a7, za⟩ := X.f4
      go_wp2_with fail
      refine (HM.out _).mono ?_
      rintro e w3 ⟨rfl, hb3⟩
      have R := R.keep hb3
      have hW := below_step hW hW.size hb3
      clear hb3 a0 a1 a2 a3 a4 a5 a6 a7 za X
      go_upto_region 8 with fail
      have M : Bk (w3.alloc (.cells (A4 (wd0 t) (wd1 t) (wd2 t) (wd3 t)) 34)) w3.heap.size 34 (A4 (wd0 t) (wd1 t) (wd2 t) (wd3 t)) := Bk.new _ _ _
      have hg3 := R.lt
      refine wp_abs (fun W => Below w.heap.size w W ∧ Bk W w.heap.size 34 #[.int .u64 0, .int .u64 0, .int .u64 0, .int .u64 0] ∧ Bk W w3.heap.size 34 (A4 (wd0 t) (wd1 t) (wd2 t) (wd3 t))) ⟨hW.alloc hW.size _, R.alloc _, M⟩ ?_
      clear hW R M
      generalize w3.heap.size = g3 at *
      rintro W ⟨hW, R, M⟩
      obtain ⟨m0, m1, m2, m3, m4, m5, m6, m7, zm⟩ := M.f4
      obtain ⟨r0, r1, r2, r3, r4, r5, r6, r7, zr⟩ := R.f4
      have hne : g3 ≠ w.heap.size := by omega
      go_region_law (go_simp; go_at_call 43; refine (HZ.out _).mono ?_; rintro e w5 ⟨rfl, hb5⟩; have hE5 : Below W.heap.size W w5 := below_step ((Below.refl _ _).drew) (Nat.le_refl _) hb5; have R5 := R.keep hE5; have k0 := cellS hE5 m0; have k1 := cellS hE5 m1; have k2 := cellS hE5 m2; have k3 := cellS hE5 m3; obtain ⟨p0, p1, p2, p3, p4, p5, p6, p7, zp⟩ := R5.f4)
      all_goals
        go_wp2_with fail

        exact num_ret2 rfl rfl rfl rfl (R5.set4 _ _ _ _) (Below.set4 (below_step hW hW.size hE5) (Nat.le_refl _) _ _ _ _)
end Go.Proofs.YtkhiicnahijnoaaDoor
