/-
  The contract of package num's Add, of however many numbers.
-/
import Derived.Test.YtljfhabhenaapaaDoorNumB
import Derived.Test.YtljfhabhenaapaaDoorBasZ
namespace Go.Proofs.YtljfhabhenaapaaDoor
open Go.RowKit
set_option maxRecDepth 100000
set_option linter.unusedVariables false

/-- The cells of such numbers, one behind the other. -/
def Nums (w : World) (b off : Nat) (xs : List Nat) : Prop := ∀ (k x : Nat), xs[k]? = some x →
  w.cell? ⟨b, off + k * 4, none⟩ = some (.int .u64 (wd0 x : Int)) ∧ w.cell? ⟨b, off + k * 4 + 1, none⟩ = some (.int .u64 (wd1 x : Int)) ∧
  w.cell? ⟨b, off + k * 4 + 2, none⟩ = some (.int .u64 (wd2 x : Int)) ∧ w.cell? ⟨b, off + k * 4 + 3, none⟩ = some (.int .u64 (wd3 x : Int))

abbrev A4 (a b c d : Nat) : Array Value := #[.int .u64 (a : Int), .int .u64 (b : Int), .int .u64 (c : Int), .int .u64 (d : Int)]

theorem take_sum_succ (xs : List Nat) (k x : Nat) (h : xs[k]? = some x) : (xs.take (k + 1)).sum = (xs.take k).sum + x := by
  rw [List.take_add_one, h]; simp

/-- What one round makes of the sum so far. -/
theorem add_step (s x : Nat) (hx : x < M256) :
    let p := s % M256
    let c1 := ac (wd0 p) (wd0 x) 0
    let c2 := ac (wd1 p) (wd1 x) c1
    let c3 := ac (wd2 p) (wd2 x) c2
    let c4 := ac (wd3 p) (wd3 x) c3
    as_ (wd0 p) (wd0 x) 0 = wd0 ((s + x) % M256) ∧ as_ (wd1 p) (wd1 x) c1 = wd1 ((s + x) % M256) ∧ as_ (wd2 p) (wd2 x) c2 = wd2 ((s + x) % M256) ∧ as_ (wd3 p) (wd3 x) c3 = wd3 ((s + x) % M256) ∧
    (c4 = 0 ↔ ¬ M256 ≤ p + x) ∧ c1 ≤ 1 ∧ c2 ≤ 1 ∧ c3 ≤ 1 := by
  intro p c1 c2 c3 c4
  have hp : p < M256 := Nat.mod_lt _ M256_pos
  obtain ⟨hs, l1, l2, l3, l4⟩ := add_words p x hp hx
  have hlt := ofW_lt _ _ _ _ (as_lt (wd0 p) (wd0 x) 0) (as_lt (wd1 p) (wd1 x) c1) (as_lt (wd2 p) (wd2 x) c2) (as_lt (wd3 p) (wd3 x) c3)
  obtain ⟨e1, e2⟩ := add_mod_of _ _ _ hlt hs
  have e3 : (s + x) % M256 = (p + x) % M256 := by
    show _ = (s % M256 + x) % M256
    rw [Nat.mod_add_mod]
  rw [e3, e1]
  obtain ⟨q0, q1, q2, q3⟩ := wd_ofW _ _ _ _ (as_lt (wd0 p) (wd0 x) 0) (as_lt (wd1 p) (wd1 x) c1) (as_lt (wd2 p) (wd2 x) c2) (as_lt (wd3 p) (wd3 x) c3)
  exact ⟨q0.symm, q1.symm, q2.symm, q3.symm, by rw [e2]; omega, l1, l2, l3⟩

theorem over_step (s x : Nat) : (decide (M256 ≤ s) || decide (M256 ≤ s % M256 + x)) = decide (M256 ≤ s + x) := by
  by_cases h : M256 ≤ s
  · have : M256 ≤ s + x := by omega
    simp [h, this]
  · rw [Nat.mod_eq_of_lt (by omega)]
    simp [h]

set_option maxRecDepth 100000 in
set_option maxHeartbeats 2000000 in
theorem nadd_any (xs : List Nat) (b off cap : Nat) (w : World) (hl : xs.length ≤ 1000000) (hlt : ∀ x ∈ xs, x < M256) (hn : Nums w b off xs) (hb : xs = [] ∨ b < w.heap.size) :
    Calls Tryd.prog 34 #[.slice (some ⟨b, off, none⟩) xs.length cap] w fun e w' => e = .returned (.tuple #[nv (xs.sum % M256), .bool (decide (M256 ≤ xs.sum))]) ∧ Below w.heap.size w w' := by
  have z0 : wd0 0 = 0 ∧ wd1 0 = 0 ∧ wd2 0 = 0 ∧ wd3 0 = 0 := by simp [wd0, wd1, wd2, wd3]
  have Z := Lib.hid z0
  clear z0
  have HLT := Lib.hid hlt
  have HN := Lib.hid hn
  have HB := Lib.hid hb
  clear hlt hn hb
  go_enter Tryd.func34, Tryd.ntmps34
  go_wp2
  go_loopw [5, 12] (fun o i wr => ∃ k : Nat, k ≤ xs.length ∧ i = .int .i64 k ∧ (∃ ob : Bool, o = .bool ob ∧ Hid (ob = decide (M256 ≤ (xs.take k).sum))) ∧ Below w.heap.size w wr ∧
    (∃ p : Nat, Hid (p = (xs.take k).sum % M256) ∧ Bk wr (w.heap.size + 1) 43 (A4 (wd0 p) (wd1 p) (wd2 p) (wd3 p))) ∧ Bk wr w.heap.size 43 #[.int .u64 0, .int .u64 0, .int .u64 0, .int .u64 0]) (fun _ i _ => xs.length - (intOf i).toNat)
  case atStart =>
    refine ⟨0, Nat.zero_le _, rfl, ⟨false, rfl, by have := M256_pos; simp [Hid]; omega⟩, ?_, ⟨0, by simp [Hid], ?_⟩, ?_⟩
    · repeat (first | exact Below.refl _ _ | refine Below.drew ?_ | refine Below.alloc ?_ (by first | omega | (simp; done) | (simp; omega)) _)
    · obtain ⟨e0, e1, e2, e3⟩ := Z.out
      rw [A4, e0, e1, e2, e3]
      exact Bk.new' _ _ _ (by simp)
    · exact (Bk.new _ _ _).alloc _
  case round =>
    obtain ⟨k, hk, rfl, ⟨ob, rfl, HO⟩, hbe, ⟨p, HP, hS⟩, hR⟩ := hrel
    have hz := hS.lt
    have s0 : wr.cell? ⟨w.heap.size + 1, 0, none⟩ = some (.int .u64 (wd0 p : Int)) := hS.cell 0
    have s1 : wr.cell? ⟨w.heap.size + 1, 1, none⟩ = some (.int .u64 (wd1 p : Int)) := hS.cell 1
    have s2 : wr.cell? ⟨w.heap.size + 1, 2, none⟩ = some (.int .u64 (wd2 p : Int)) := hS.cell 2
    have s3 : wr.cell? ⟨w.heap.size + 1, 3, none⟩ = some (.int .u64 (wd3 p : Int)) := hS.cell 3
    have f0 := hS.frozen 0
    have f1 := hS.frozen 1
    have f2 := hS.frozen 2
    have f3 := hS.frozen 3
    have t0 : wr.cell? ⟨w.heap.size, 0, none⟩ = some (.int .u64 0) := hR.cell 0
    have t1 : wr.cell? ⟨w.heap.size, 1, none⟩ = some (.int .u64 0) := hR.cell 1
    have t2 : wr.cell? ⟨w.heap.size, 2, none⟩ = some (.int .u64 0) := hR.cell 2
    have t3 : wr.cell? ⟨w.heap.size, 3, none⟩ = some (.int .u64 0) := hR.cell 3
    have k0 := hR.frozen 0
    have k1 := hR.frozen 1
    have k2 := hR.frozen 2
    have k3 := hR.frozen 3
    by_cases hlt : k < xs.length
    · obtain ⟨x, hx⟩ : ∃ x, xs[k]? = some x := ⟨xs[k], List.getElem?_eq_getElem hlt⟩
      have hbw : b < w.heap.size := by
        rcases HB.out with h | h
        · subst h; simp at hlt
        · exact h
      obtain ⟨g0, g1, g2, g3⟩ := HN.out k x hx
      have hc0 : wr.cell? ⟨b, off + k * 4, none⟩ = _ := (hbe.cell (p := ⟨b, _, none⟩) hbw).trans g0
      have hc1 : wr.cell? ⟨b, off + k * 4 + 1, none⟩ = _ := (hbe.cell (p := ⟨b, _, none⟩) hbw).trans g1
      have hc2 : wr.cell? ⟨b, off + k * 4 + 2, none⟩ = _ := (hbe.cell (p := ⟨b, _, none⟩) hbw).trans g2
      have hc3 : wr.cell? ⟨b, off + k * 4 + 3, none⟩ = _ := (hbe.cell (p := ⟨b, _, none⟩) hbw).trans g3
      have hxl := HLT.out x (List.mem_of_getElem? hx)
      obtain ⟨q0, q1, q2, q3, q4, l1, l2, l3⟩ := add_step (xs.take k).sum x hxl
      rw [← HP.out] at q0 q1 q2 q3 q4 l1 l2 l3
      have r0 : ∀ w : World, (callFunc 53 #[.int .u64 (wd0 p : Int), .int .u64 (wd0 x : Int), .int .u64 0]).run Tryd.prog w = _ := fun w => by simpa using add64_run (wd0 p) (wd0 x) 0 (by omega) w
      have r1 := add64_run (wd1 p) (wd1 x) _ l1
      have r2 := add64_run (wd2 p) (wd2 x) _ l2
      have r3 := add64_run (wd3 p) (wd3 x) _ l3
      rw [q0] at r0; rw [q1] at r1; rw [q2] at r2; rw [q3] at r3
      have QO : Hid ((((ac (wd3 p) (wd3 x) (ac (wd2 p) (wd2 x) (ac (wd1 p) (wd1 x) (ac (wd0 p) (wd0 x) 0))) : Nat) : Int) != 0) = decide (M256 ≤ p + x)) := ne_zero_bool _ _ q4
      have HE := take_sum_succ xs k x hx
      rw [← HE] at r0 r1 r2 r3
      have HE := Lib.hid HE
      generalize ac (wd3 p) (wd3 x) (ac (wd2 p) (wd2 x) (ac (wd1 p) (wd1 x) (ac (wd0 p) (wd0 x) 0))) = c4 at *
      generalize ac (wd2 p) (wd2 x) (ac (wd1 p) (wd1 x) (ac (wd0 p) (wd0 x) 0)) = c3 at *
      generalize ac (wd1 p) (wd1 x) (ac (wd0 p) (wd0 x) 0) = c2 at *
      generalize ac (wd0 p) (wd0 x) 0 = c1 at *
      have HX := Lib.hid hx
      clear q0 q1 q2 q3 q4 l1 l2 l3 g0 g1 g2 g3 hx hxl
      go_wp2
      refine wp_loop_rounds 5 ?_
      iterate 4
        rw [rounds_succ]
        go_wp2
        go_region
        go_wp2
      rw [rounds_succ]
      have hpos := Nat.le_of_lt hz
      cases ob
      all_goals go_wp2
      all_goals go_roundw
      case rel =>
        refine ⟨k + 1, by omega, by go_num, ⟨_, rfl, ?_⟩, Below.drew (Below.drew (Below.drew (Below.drew (Below.alloc (Below.set4 hbe (by omega) _ _ _ _) (by simp [World.setCell]; omega) _)))), ⟨_, ?_, (((((hS.set4 _ _ _ _).alloc _).drew).drew).drew).drew⟩, (((((hR.far4 (by omega) _ _ _ _).alloc _).drew).drew).drew).drew⟩
        · show _ = _
          rw [QO.out, HE.out, ← over_step (xs.take k).sum x, ← HO.out, ← HP.out]; simp
        · show _ = _
          rw [HE.out]
      case measure => simp [intOf]; omega
      case rel =>
        refine ⟨k + 1, by omega, by go_num, ⟨_, rfl, ?_⟩, Below.drew (Below.drew (Below.drew (Below.drew (Below.alloc (Below.set4 hbe (by omega) _ _ _ _) (by simp [World.setCell]; omega) _)))), ⟨_, ?_, (((((hS.set4 _ _ _ _).alloc _).drew).drew).drew).drew⟩, (((((hR.far4 (by omega) _ _ _ _).alloc _).drew).drew).drew).drew⟩
        · show _ = _
          rw [HE.out, ← over_step (xs.take k).sum x, ← HO.out]; simp
        · show _ = _
          rw [HE.out]
      case measure => simp [intOf]; omega
    · have hkl : k = xs.length := by omega
      have HK := Lib.hid hkl
      clear hkl
      go_wp2
      refine bodyPost_ret (v := .tuple #[nv p, .bool ob]) (by simp [results, Tryd.results34, go_sem, t0, t1, t2, t3]) rfl ⟨?_, Below.set4 hbe (by omega) _ _ _ _⟩
      have e1 : p = xs.sum % M256 := by rw [HP.out, HK.out, List.take_length]
      have e2 : ob = decide (M256 ≤ xs.sum) := by rw [HO.out, HK.out, List.take_length]
      subst e1 e2
      rfl
end Go.Proofs.YtljfhabhenaapaaDoor
