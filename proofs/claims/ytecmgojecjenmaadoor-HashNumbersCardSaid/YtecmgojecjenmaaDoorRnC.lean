/-
  The document's mul: two rows of digits, multiplied.
-/
import Derived.Test.YtecmgojecjenmaaDoorRnB
namespace Go.Proofs.YtecmgojecjenmaaDoor
open Go.RowKit
set_option linter.unusedVariables false

def d64 : Nat := 18446744073709551616
def dA (xs : List Nat) : Array Value := (xs.map fun (x : Nat) => Value.int .u64 (x : Int)).toArray
theorem dA_get (xs : List Nat) (k : Nat) (h : k < xs.length) : (dA xs)[k]? = some (.int .u64 ((nth xs k : Nat) : Int)) := by
  unfold dA nth
  rw [List.getElem?_toArray, List.getElem?_map, List.getD, List.getElem?_eq_getElem h]
  rfl
theorem dA_set (xs : List Nat) (k x : Nat) : (dA xs).setIfInBounds k (.int .u64 (x : Int)) = dA (xs.set k x) := by
  apply Array.ext_getElem?
  intro i
  unfold dA
  rw [List.setIfInBounds_toArray, List.getElem?_toArray, List.getElem?_toArray, List.map_set]
theorem dA_flat (xs : List Nat) : (ddR.flat xs).toArray = dA xs := by
  unfold dA RowT.flat
  congr 1
  induction xs with
  | nil => rfl
  | cons x r ih => rw [List.flatMap_cons, List.map_cons, ih]; rfl
theorem dA_setI {w : World} {g : Nat} {t : TypeId} {xs : List Nat} (h : Bk w g t (dA xs)) (k x : Nat) {v : Int} (hv : v = (x : Int)) : Bk (w.setCell ⟨g, k, none⟩ (.int .u64 v)) g t (dA (xs.set k x)) := by
  subst hv
  have e := h.set_ k (.int .u64 (x : Int))
  rw [dA_set] at e
  exact e
theorem run_makeD (w : World) (m : Nat) (hm : m ≤ 1000000) :
    (Instr.makeSlice 61 (.int .i64 (m : Int)) (.int .i64 (m : Int))).run Tryd.prog w = .ok (.slice (some ⟨w.heap.size, 0, none⟩) m m) (w.alloc (.cells (dA (zeros m)) 46)) := by
  obtain ⟨i, zv, hi, hz, hs, hby, hzc⟩ := ddR_ok.info
  have h := run_make (P := Tryd.prog) w 61 46 i _ Tryd.underlying61 hi hz .i64 .i64 (m : Int) (m : Int) (by omega) (by omega) (by rw [hby]; show (8 : Int) * (m : Int) ≤ _; omega) (by omega)
  have e : madeCells zv.cells (m * 1) = dA (zeros m) := by
    have h2 : madeCells zv.cells (m * 1) = Builtin.zeroCells zv.cells m := by
      rw [hzc]
      rfl
    rw [h2, ← dA_flat]
    exact zero_rows ddR_ok zv hzc m
  rw [Int.toNat_natCast, hs] at h
  rw [show ddR.k = 1 from rfl, e] at h
  exact h
/-- One step of the double loop. -/
def mu1 (xs ys : List Nat) (i k : Nat) (o : List Nat) : List Nat := o.set (i + k) ((nth o (i + k) + nth xs i * nth ys k) % d64)
def mu2 (p : Nat) (o : List Nat) : List Nat := o.set (p + 1) ((nth o (p + 1) + nth o p / d24) % d64)
def mu3 (p : Nat) (o : List Nat) : List Nat := o.set p (nth o p % d24)
def muS (xs ys : List Nat) (i k : Nat) (o : List Nat) : List Nat := mu3 (i + k) (mu2 (i + k) (mu1 xs ys i k o))
def muK (xs ys : List Nat) (i : Nat) (o : List Nat) : Nat → List Nat
  | 0 => o
  | k + 1 => muS xs ys i k (muK xs ys i o k)
def muI (xs ys : List Nat) : Nat → List Nat
  | 0 => zeros (xs.length + ys.length + 1)
  | i + 1 => muK xs ys i (muI xs ys i) ys.length
def caK (o : List Nat) : Nat → List Nat
  | 0 => o
  | k + 1 => mu3 k (mu2 k (caK o k))
def trF (o : List Nat) : Nat → Nat
  | 0 => 0
  | n + 1 => if nth o n = 0 then trF o n else n + 1
def mulN (xs ys : List Nat) : List Nat := (caK (muI xs ys xs.length) (xs.length + ys.length)).take (trF (caK (muI xs ys xs.length) (xs.length + ys.length)) (xs.length + ys.length + 1))
theorem muK_length (xs ys : List Nat) (i : Nat) (o : List Nat) : ∀ k, (muK xs ys i o k).length = o.length
  | 0 => rfl
  | k + 1 => by
    rw [muK, muS, mu3, mu2, mu1, List.length_set, List.length_set, List.length_set]
    exact muK_length xs ys i o k
theorem muI_length (xs ys : List Nat) : ∀ i, (muI xs ys i).length = xs.length + ys.length + 1
  | 0 => by rw [muI, zeros_length]
  | i + 1 => by rw [muI, muK_length]; exact muI_length xs ys i
theorem caK_length (o : List Nat) : ∀ k, (caK o k).length = o.length
  | 0 => rfl
  | k + 1 => by
    rw [caK, mu3, mu2, List.length_set, List.length_set]
    exact caK_length o k
theorem mu1_int (a b c : Nat) : (((a : Int) + ((b : Int) * (c : Int)) % 18446744073709551616) % 18446744073709551616) = (((a + b * c) % d64 : Nat) : Int) := by
  have e : ((b : Int) * (c : Int)) = ((b * c : Nat) : Int) := by simp
  rw [e]
  unfold d64
  omega
theorem mu2_int (a b : Nat) : (((a : Int) + (b : Int) / 16777216) % 18446744073709551616) = (((a + b / d24) % d64 : Nat) : Int) := by
  unfold d64 d24
  omega
end Go.Proofs.YtecmgojecjenmaaDoor
