/-
  What is proved: the two ways out of WireReads for bytes or lists that are too long; and that the statement follows from the walk.
-/
import Derived.Test.YtccgfjkahdbboaaWfJ
import Derived.Test.YtccgfjkahdbboaaWls
namespace Go.Proofs.Ytccgfjkahdbboaa.wireReads
open Go.ChangeShapes Go.WideShapes Go.ChangeAt Go.RowKit
set_option linter.unusedVariables false

theorem own : ownKnob Try.prog.godebug = none := by kernel_rfl
theorem laidOut : laidOutB Try.prog = true := by kernel_rfl

set_option maxRecDepth 100000 in
set_option maxHeartbeats 1000000 in
theorem walk_bigb (s t : Option Addr) (len cap n c : Nat) (w : World) (h : 2000 < len) :
    Calls Try.prog 3 #[.slice s len cap, .slice t n c] w fun e w' => e = .returned (.bool true) ∧ Below w.heap.size w w' := by
  have hz : (2000 : Int) < (len : Int) := by omega
  have hz2 : decide ((2000 : Int) < (len : Int)) = true := decide_eq_true hz
  go_enter Try.func3, Try.ntmps3
  go_wp2_with fail
  refine (writes_any _).mono ?_
  rintro e w1 ⟨rfl, hb1⟩
  go_wp2_with fail
  go_ret
  exact ⟨rfl, hb1⟩
set_option maxRecDepth 100000 in
set_option maxHeartbeats 1000000 in
theorem walk_bigl (s t : Option Addr) (len cap n c : Nat) (w : World) (h1 : len ≤ 2000) (h : 50 < n) :
    Calls Try.prog 3 #[.slice s len cap, .slice t n c] w fun e w' => e = .returned (.bool true) ∧ Below w.heap.size w w' := by
  have hz : decide ((2000 : Int) < (len : Int)) = false := decide_eq_false (by omega)
  have hz1 : ¬ (2000 : Int) < (len : Int) := by omega
  have hz2 : (50 : Int) < (n : Int) := by omega
  have hz3 : decide ((50 : Int) < (n : Int)) = true := decide_eq_true hz2
  go_enter Try.func3, Try.ntmps3
  go_wp2_with fail
  refine (writes_any _).mono ?_
  rintro e w1 ⟨rfl, hb1⟩
  go_wp2_with fail
  go_ret
  exact ⟨rfl, hb1⟩
set_option maxRecDepth 100000 in
set_option maxHeartbeats 2000000 in
theorem lifted (HWALK : ∀ (xs : List Nat) (v lv : Value) (L : List Pt) (w : World), BsV w w.heap.size v xs → PtsV w lv L → Calls Try.prog 3 #[v, lv] w fun e w' => e = .returned (.bool true) ∧ Below w.heap.size w w') (os : Os) (started : os.Started) (H : Type) (enc : TypeId × Value → H) :
    ReturnsInHanded {} Try.checked os 3 .any (Rows.wireReadsSpec.pre6 enc Try.prog Try.f3 Rows.wireReadsRow.domain false) (Rows.wireReadsSpec.post enc Try.prog Try.f3 false true false false) := by
  refine returnsInHanded_of_change (C := Try.checked) own started (by kernel_rfl) Try.func3
    (ChangeSpec.witness6 (enc := enc) (C := Try.checked) false ⟨#[], #[.slice none 0 0, .slice none 0 0], []⟩ 8 (by kernel_rfl) (by kernel_rfl) (by kernel_rfl) (by kernel_rfl)) ?_
  intro W base args ds gs before hval0 hW hcnd _
  have hval : ∀ (j : Nat) t v, Try.f3.params[j]? = some t → args[j]? = some v → Value.okWide Try.prog W .any base t v := hval0
  have hW' := hW
  obtain ⟨p, q, hA0, hV, rfl, hfz, hnd⟩ := hW
  have hA : DataW.TrodAll enc Try.prog W 0 (fun _ => true) true Try.f3.params.toList args.toList ds p := hA0
  rw [Try.params3] at hA hval
  obtain ⟨v0, vs0, d0, ds0, p0, q0, hargs, rfl, rfl, h0, r0⟩ := trodAll_cons hA
  obtain ⟨v1, vs1, d1, ds1, p1, q1, rfl, rfl, rfl, h1, r1⟩ := trodAll_cons r0
  obtain ⟨rfl, rfl, rfl⟩ := trodAll_nil r1
  obtain rfl : args = #[v0, v1] := by cases args; simp_all
  obtain ⟨rfl, rfl⟩ := trodVars_none hV
  have lt0 : ∀ x ∈ p0, x.block < W.heap.size := by obtain ⟨m, hm⟩ := h0; exact DataW.trod_lt m _ _ _ hm
  have lt1 : ∀ x ∈ p1, x.block < W.heap.size := by obtain ⟨m, hm⟩ := h1; exact DataW.trod_lt m _ _ _ hm
  obtain ⟨x0, hb0⟩ := bytes_arg (hval 0 22 v0 rfl rfl) h0
  obtain ⟨x1, hb1⟩ := pts_arg (hval 1 23 v1 rfl rfl) h1
  clear hA0 hval0
  have hwalk := HWALK x0 _ _ x1 W hb0 hb1
  refine hwalk.mono fun e W' ⟨he, bel⟩ => ?_
  subst he
  exact ⟨_, rfl, _, _, _, [], _, [], hW', trodAll_mk1 (shut_bool Try.underlying4 _), (trodAll_cons_mk (Below.trod laidOut (by kernel_rfl) (of_decide_eq_true (by kernel_rfl)) h0 bel lt0) (trodAll_cons_mk (Below.trod laidOut (by kernel_rfl) (of_decide_eq_true (by kernel_rfl)) h1 bel lt1) trodAll_mk0)), rfl, bel.frame _, fun h => by cases h⟩

end Go.Proofs.Ytccgfjkahdbboaa.wireReads
