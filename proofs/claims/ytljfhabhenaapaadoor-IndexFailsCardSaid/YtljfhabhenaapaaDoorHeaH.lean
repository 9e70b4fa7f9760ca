/-
  Two headers that are the same; two names.
-/
import Derived.Test.YtljfhabhenaapaaDoorHeaZ
import Derived.Laws.StructEq
namespace Go.Proofs.YtljfhabhenaapaaDoor
open Go.RowKit
set_option maxRecDepth 100000
set_option linter.unusedVariables false

theorem list_eql (x y : List Nat) (hx : x.length = 32) (hy : y.length = 32) : ((List.range 32).all fun i => ((x.getD i 0 : Nat) : Int) == ((y.getD i 0 : Nat) : Int)) = decide (x = y) := by
  by_cases e : x = y
  · subst e
    simp
  · rw [decide_eq_false e, Bool.eq_false_iff]
    intro hq
    apply e
    apply List.ext_getElem (by omega)
    intro i h1 h2
    rw [List.all_eq_true] at hq
    have h3 := hq i (by simp; omega)
    have h4 : ((x.getD i 0 : Nat) : Int) = ((y.getD i 0 : Nat) : Int) := by simpa using h3
    have h5 : x.getD i 0 = y.getD i 0 := by omega
    rw [List.getD, List.getD, List.getElem?_eq_getElem h1, List.getElem?_eq_getElem h2] at h5
    exact h5
theorem name_eqlD (d : Nat) (x y : List Nat) (hx : x.length = 32) (hy : y.length = 32) (w : World) : (Op.equalIn (d + 2) 30 (idv x) (idv y)).run Tryd.prog w = .ok (decide (x = y)) w := by
  have h := run_equalIn_arr (P := Tryd.prog) w d 30 5 32 .u8 (idA x) (idA y) (fun i => ((x.getD i 0 : Nat) : Int)) (fun i => ((y.getD i 0 : Nat) : Int)) (by kernel_rfl) (by kernel_rfl) (by kernel_rfl)
    (fun i hi => ⟨idA_get x i (by omega), idA_get y i (by omega)⟩)
  rw [h, list_eql x y hx hy]
theorem name_eql (x y : List Nat) (hx : x.length = 32) (hy : y.length = 32) (w : World) : (Op.equalIn 10000 30 (idv x) (idv y)).run Tryd.prog w = .ok (decide (x = y)) w := name_eqlD 9998 x y hx hy w
theorem part_u32 (h : Hd) (o : Nat) (x : Nat) (hc : (hdA h)[o]? = some (.int .u32 (x : Int))) (w : World) : (part 28 (hdA h) o).run Tryd.prog w = .ok (.int .u32 (x : Int)) w :=
  run_part_int (P := Tryd.prog) (k := .u32) (by kernel_rfl) (hdA h) o _ hc w
theorem hd_ext (a b : Hd) : a = b ↔ a.v = b.v ∧ a.p = b.p ∧ a.r = b.r ∧ a.t = b.t ∧ a.b = b.b ∧ a.n = b.n := by
  cases a; cases b; simp
def hdEq (a b : Hd) : Bool := ((a.v : Int) == (b.v : Int)) && (decide (a.p = b.p) && (decide (a.r = b.r) && (((a.t : Int) == (b.t : Int)) && (((a.b : Int) == (b.b : Int)) && ((a.n : Int) == (b.n : Int))))))
theorem hdEq_iff (a b : Hd) : hdEq a b = true ↔ a = b := by
  rw [hd_ext]
  unfold hdEq
  simp [Int.natCast_inj]
theorem part_name (h : Hd) (k : IsHd h) (w : World) : (part 30 (hdA h) 1).run Tryd.prog w = .ok (idv h.p) w ∧ (part 30 (hdA h) 33).run Tryd.prog w = .ok (idv h.r) w := by
  have hag : (isAgg 30).run Tryd.prog w = .ok true w := by kernel_rfl
  have e1 : (hdA h).extract 1 (1 + 32) = idA h.p := by
    unfold hdA hdL idA
    simp [k.pl]
  have e2 : (hdA h).extract 33 (33 + 32) = idA h.r := by
    unfold hdA hdL idA
    simp [k.pl, k.rl]
  constructor
  · simp [part, hag, e1]
  · simp [part, hag, e2]
theorem fields_cons {P : Program} {d : Nat} {xs ys : Array Value} {f : Field} {fs : List Field} {x y : Value} {r : Bool} {w : World} (hn : ¬ f.name = "_") (h1 : (part f.type xs f.offset).run P w = .ok x w) (h2 : (part f.type ys f.offset).run P w = .ok y w) (h3 : (Op.equalIn d f.type x y).run P w = .ok r w) :
    (Op.eqFields d xs ys (f :: fs)).run P w = if r = true then (Op.eqFields d xs ys fs).run P w else .ok false w := by
  have e : Op.eqFields d xs ys (f :: fs) = if f.name ≠ "_" then (part f.type xs f.offset >>= fun a => part f.type ys f.offset >>= fun b => Op.equalIn d f.type a b >>= fun r => if (!r) = true then pure false else Op.eqFields d xs ys fs) else Op.eqFields d xs ys fs := rfl
  rw [e, if_pos hn]
  simp only [Sem.run_bind, h1, h2, h3, Result.andThen_ok]
  cases r <;> simp
set_option maxRecDepth 100000 in
set_option maxHeartbeats 2000000 in
theorem hd_eql {a b : Hd} (ha : IsHd a) (hb : IsHd b) (w : World) : (Op.equalIn 10000 32 (hdv a) (hdv b)).run Tryd.prog w = .ok (hdEq a b) w := by
  rw [show (10000 : Nat) = 9999 + 1 from rfl, run_equalIn_struct (P := Tryd.prog) w 9999 32 (hdA a) (hdA b) (by kernel_rfl) (by kernel_rfl)]
  have av := fun w => part_u32 a 0 a.v (hdA_v a) w
  have bv := fun w => part_u32 b 0 b.v (hdA_v b) w
  have at_ := fun w => part_u32 a 65 a.t (hdA_t ha) w
  have bt := fun w => part_u32 b 65 b.t (hdA_t hb) w
  have ab := fun w => part_u32 a 66 a.b (hdA_b ha) w
  have bb := fun w => part_u32 b 66 b.b (hdA_b hb) w
  have an := fun w => part_u32 a 67 a.n (hdA_n ha) w
  have bn := fun w => part_u32 b 67 b.n (hdA_n hb) w
  have ap := fun w => (part_name a ha w).1
  have bp := fun w => (part_name b hb w).1
  have ar := fun w => (part_name a ha w).2
  have br := fun w => (part_name b hb w).2
  have ep := fun w => name_eqlD 9997 a.p b.p ha.pl hb.pl w
  have er := fun w => name_eqlD 9997 a.r b.r ha.rl hb.rl w
  simp only [Program.fieldsOf, Tryd.underlying32]
  have ei : ∀ (x y : Int) (w : World), (Op.equalIn 9999 28 (.int .u32 x) (.int .u32 y)).run Tryd.prog w = .ok (x == y) w := fun x y w => run_equalIn_int (P := Tryd.prog) w 9998 28 .u32 .u32 x y Tryd.underlying28
  unfold hdEq
  refine (fields_cons (by decide) (av w) (bv w) (ei _ _ w)).trans ?_
  generalize ((a.v : Int) == (b.v : Int)) = c
  cases c
  · simp
  simp only [if_true, Bool.true_and]
  refine (fields_cons (by decide) (ap w) (bp w) (ep w)).trans ?_
  generalize (decide (a.p = b.p)) = c
  cases c
  · simp
  simp only [if_true, Bool.true_and]
  refine (fields_cons (by decide) (ar w) (br w) (er w)).trans ?_
  generalize (decide (a.r = b.r)) = c
  cases c
  · simp
  simp only [if_true, Bool.true_and]
  refine (fields_cons (by decide) (at_ w) (bt w) (ei _ _ w)).trans ?_
  generalize ((a.t : Int) == (b.t : Int)) = c
  cases c
  · simp
  simp only [if_true, Bool.true_and]
  refine (fields_cons (by decide) (ab w) (bb w) (ei _ _ w)).trans ?_
  generalize ((a.b : Int) == (b.b : Int)) = c
  cases c
  · simp
  simp only [if_true, Bool.true_and]
  refine (fields_cons (by decide) (an w) (bn w) (ei _ _ w)).trans ?_
  generalize ((a.n : Int) == (b.n : Int)) = c
  cases c <;> simp [Op.eqFields]
end Go.Proofs.YtljfhabhenaapaaDoor
