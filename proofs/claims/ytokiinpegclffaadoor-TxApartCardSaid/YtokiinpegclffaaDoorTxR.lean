/-
  Two points, and two outputs, that are the same.
-/
import Derived.Test.YtokiinpegclffaaDoorTxQ
import Derived.Laws.StructEq
namespace Go.Proofs.YtokiinpegclffaaDoor
open Go.RowKit
set_option linter.unusedVariables false
set_option linter.unusedSimpArgs false

theorem list_eql (x y : List Nat) (hx : x.length = 32) (hy : y.length = 32) : ((List.range 32).all fun i => ((x.getD i 0 : Nat) : Int) == ((y.getD i 0 : Nat) : Int)) = decide (x = y) := by
  by_cases e : x = y
  · subst e
    simp
  · rw [decide_eq_false e, Bool.eq_false_iff]
    intro hq
    apply e
    apply List.ext_getElem (by omega)
    intro i h1 h2
    rw [List.all_eq_true] at hq
    have h3 := hq i (by simp; omega)
    have h4 : ((x.getD i 0 : Nat) : Int) = ((y.getD i 0 : Nat) : Int) := by simpa using h3
    have h5 : x.getD i 0 = y.getD i 0 := by omega
    rw [List.getD, List.getD, List.getElem?_eq_getElem h1, List.getElem?_eq_getElem h2] at h5
    exact h5
theorem name_eqlD (d : Nat) (x y : List Nat) (hx : x.length = 32) (hy : y.length = 32) (w : World) : (Op.equalIn (d + 2) 29 (idv x) (idv y)).run Tryd.prog w = .ok (decide (x = y)) w := by
  have h := run_equalIn_arr (P := Tryd.prog) w d 29 5 32 .u8 (idA x) (idA y) (fun i => ((x.getD i 0 : Nat) : Int)) (fun i => ((y.getD i 0 : Nat) : Int)) (by kernel_rfl) (by kernel_rfl) (by kernel_rfl)
    (fun i hi => ⟨idA_get x i (by omega), idA_get y i (by omega)⟩)
  rw [h, list_eql x y hx hy]
theorem fields_cons {P : Program} {d : Nat} {xs ys : Array Value} {f : Field} {fs : List Field} {x y : Value} {r : Bool} {w : World} (hn : ¬ f.name = "_") (h1 : (part f.type xs f.offset).run P w = .ok x w) (h2 : (part f.type ys f.offset).run P w = .ok y w) (h3 : (Op.equalIn d f.type x y).run P w = .ok r w) :
    (Op.eqFields d xs ys (f :: fs)).run P w = if r = true then (Op.eqFields d xs ys fs).run P w else .ok false w := by
  have e : Op.eqFields d xs ys (f :: fs) = if f.name ≠ "_" then (part f.type xs f.offset >>= fun a => part f.type ys f.offset >>= fun b => Op.equalIn d f.type a b >>= fun r => if (!r) = true then pure false else Op.eqFields d xs ys fs) else Op.eqFields d xs ys fs := rfl
  rw [e, if_pos hn]
  simp only [Sem.run_bind, h1, h2, h3, Result.andThen_ok]
  cases r <;> simp

/-- A point's cells. -/
def ptA (x : InM) : Array Value := List.toArray (x.tx.1.map byteV ++ [Value.int .u32 (x.ix : Int)])
def ouA (x : OutM) : Array Value := (ouL x).toArray
theorem ptA_ix (x : InM) : (ptA x)[32]? = some (.int .u32 (x.ix : Int)) := by
  have h := x.tx.2.1
  unfold ptA
  rw [List.getElem?_toArray, List.getElem?_append_right (by rw [List.length_map, h]; exact Nat.le_refl _), List.length_map, h]
  rfl
theorem part_pt (x : InM) (w : World) : (part 29 (ptA x) 0).run Tryd.prog w = .ok (idv x.tx.1) w := by
  have hag : (isAgg 29).run Tryd.prog w = .ok true w := by kernel_rfl
  have e1 : (ptA x).extract 0 (0 + 32) = idA x.tx.1 := by
    unfold ptA idA
    simp [x.tx.2.1]
  simp [part, hag, e1]
theorem part_ou (x : OutM) (w : World) : (part 29 (ouA x) 1).run Tryd.prog w = .ok (idv x.lock.1) w := by
  have hag : (isAgg 29).run Tryd.prog w = .ok true w := by kernel_rfl
  have e1 : (ouA x).extract 1 (1 + 32) = idA x.lock.1 := by
    unfold ouA ouL idA
    simp [x.lock.2.1]
    exact List.take_of_length_le (by rw [List.length_map, x.lock.2.1]; exact Nat.le_refl _)
  simp [part, hag, e1]
def ptEq (x y : InM) : Bool := decide (x.tx.1 = y.tx.1) && ((x.ix : Int) == (y.ix : Int))
def ouEq (x y : OutM) : Bool := (x.am == y.am) && decide (x.lock.1 = y.lock.1)
theorem ptEq_iff (x y : InM) : ptEq x y = true ↔ x.tx.1 = y.tx.1 ∧ x.ix = y.ix := by
  unfold ptEq
  simp [Int.natCast_inj]
theorem ouEq_iff (x y : OutM) : ouEq x y = true ↔ OutE x y := by
  unfold ouEq OutE
  simp
set_option maxRecDepth 100000 in
set_option maxHeartbeats 2000000 in
theorem pt_eql (x y : InM) (w : World) : (Op.equalIn 10000 32 (.agg (ptA x)) (.agg (ptA y))).run Tryd.prog w = .ok (ptEq x y) w := by
  rw [show (10000 : Nat) = 9999 + 1 from rfl, run_equalIn_struct (P := Tryd.prog) w 9999 32 (ptA x) (ptA y) (by kernel_rfl) (by kernel_rfl)]
  have ax := fun w => part_pt x w
  have ay := fun w => part_pt y w
  have bx : ∀ w, (part 30 (ptA x) 32).run Tryd.prog w = .ok (.int .u32 (x.ix : Int)) w := fun w => run_part_int (P := Tryd.prog) (k := .u32) (by kernel_rfl) (ptA x) 32 _ (ptA_ix x) w
  have bys : ∀ w, (part 30 (ptA y) 32).run Tryd.prog w = .ok (.int .u32 (y.ix : Int)) w := fun w => run_part_int (P := Tryd.prog) (k := .u32) (by kernel_rfl) (ptA y) 32 _ (ptA_ix y) w
  have ep := fun w => name_eqlD 9997 x.tx.1 y.tx.1 x.tx.2.1 y.tx.2.1 w
  have ei : ∀ (x y : Int) (w : World), (Op.equalIn 9999 30 (.int .u32 x) (.int .u32 y)).run Tryd.prog w = .ok (x == y) w := fun x y w => run_equalIn_int (P := Tryd.prog) w 9998 30 .u32 .u32 x y Tryd.underlying30
  simp only [Program.fieldsOf, Tryd.underlying32]
  unfold ptEq
  refine (fields_cons (by decide) (ax w) (ay w) (ep w)).trans ?_
  generalize (decide (x.tx.1 = y.tx.1)) = c
  cases c
  · simp
  simp only [if_true, Bool.true_and]
  refine (fields_cons (by decide) (bx w) (bys w) (ei _ _ w)).trans ?_
  generalize ((x.ix : Int) == (y.ix : Int)) = c
  cases c <;> simp [Op.eqFields]
set_option maxRecDepth 100000 in
set_option maxHeartbeats 2000000 in
theorem ou_eql (x y : OutM) (w : World) : (Op.equalIn 10000 37 (.agg (ouA x)) (.agg (ouA y))).run Tryd.prog w = .ok (ouEq x y) w := by
  rw [show (10000 : Nat) = 9999 + 1 from rfl, run_equalIn_struct (P := Tryd.prog) w 9999 37 (ouA x) (ouA y) (by kernel_rfl) (by kernel_rfl)]
  have ax := fun w => part_ou x w
  have ay := fun w => part_ou y w
  have bx : ∀ w, (part 2 (ouA x) 0).run Tryd.prog w = .ok (.int .i64 x.am) w := fun w => run_part_int (P := Tryd.prog) (k := .i64) (by kernel_rfl) (ouA x) 0 _ rfl w
  have bys : ∀ w, (part 2 (ouA y) 0).run Tryd.prog w = .ok (.int .i64 y.am) w := fun w => run_part_int (P := Tryd.prog) (k := .i64) (by kernel_rfl) (ouA y) 0 _ rfl w
  have ep := fun w => name_eqlD 9997 x.lock.1 y.lock.1 x.lock.2.1 y.lock.2.1 w
  have ei : ∀ (x y : Int) (w : World), (Op.equalIn 9999 2 (.int .i64 x) (.int .i64 y)).run Tryd.prog w = .ok (x == y) w := fun x y w => run_equalIn_int (P := Tryd.prog) w 9998 2 .i64 .i64 x y Tryd.underlying2
  simp only [Program.fieldsOf, Tryd.underlying37]
  unfold ouEq
  refine (fields_cons (by decide) (bx w) (bys w) (ei _ _ w)).trans ?_
  generalize (x.am == y.am) = c
  cases c
  · simp
  simp only [if_true, Bool.true_and]
  refine (fields_cons (by decide) (ax w) (ay w) (ep w)).trans ?_
  generalize (decide (x.lock.1 = y.lock.1)) = c
  cases c <;> simp [Op.eqFields]
end Go.Proofs.YtokiinpegclffaaDoor
