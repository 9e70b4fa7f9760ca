/-
  Steps of a region that draws, as laws: appends of bytes and of elements, a slice of one element, an alloc.
-/
import Derived.Test.YtjnbdajdllpchaaDoorFrV
import Derived.Test.YtjnbdajdllpchaaDoorFrF
import Derived.Great.BuildSlice
import Derived.Great.FillDense
namespace Go.Proofs.YtjnbdajdllpchaaDoor
open Go.RowKit
set_option linter.unusedVariables false
set_option linter.unusedSimpArgs false
set_option maxRecDepth 100000
theorem stepR_app {α : Type} {R : RowT α} (h : R.Ok) {ops : Array Oper} {o : Oper} {a : Act} {w : World} {K : Act → World → Prop} {Q : Exit → Act → World → Prop} {E : Prop} {v1 v2 : Value} (xs ys : List α) (lo : Nat)
    (hg : o.guard = none) (s y : Operand) (hop : o.op = Op.call { callee := Callee.builtin Builtin.append, args := #[s, y], argTypes := #[R.t, R.t] }) (hty : o.type = R.t)
    (hs : a.eval s = v1) (hy : a.eval y = v2) (hm : MineR R w lo v1 xs) (hlo : lo ≤ w.heap.size) (hu : RowV R w w.heap.size v2 ys) (hlt : xs.length + ys.length ≤ 1500000)
    (hK : ∀ v W, MineR R W lo v (xs ++ ys) → Below lo w W → ButR v1 w W → K (a.put o.dst v) W) :
    if Region.wanted o (yielded ops a.tmps) = true then Oper.wp Tryd.prog o a w K Q else E := by
  obtain ⟨v, W, hrun, hM, hb, hbut⟩ := appR h xs ys v1 v2 lo w hm hlo hu hlt
  have hw : Region.wanted o (yielded ops a.tmps) = true := by simp [Region.wanted, hg]
  rw [if_pos hw]
  unfold Oper.wp
  simp [execOp, hop, resolve, invoke, builtin, hs, hy, hty, hrun, Result.andThen]
  exact hK v W hM hb hbut
theorem stepB_app {ops : Array Oper} {o : Oper} {a : Act} {w : World} {K : Act → World → Prop} {Q : Exit → Act → World → Prop} {E : Prop} {v1 v2 : Value} (xs ys : List Nat) (lo : Nat)
    (hg : o.guard = none) (s y : Operand) (hop : o.op = Op.call { callee := Callee.builtin Builtin.append, args := #[s, y], argTypes := #[32, 32] }) (hty : o.type = 32)
    (hs : a.eval s = v1) (hy : a.eval y = v2) (hm : Mine w lo v1 xs) (hlo : lo ≤ w.heap.size) (hu : BsV w w.heap.size v2 ys) (hlt : xs.length + ys.length ≤ 1500000)
    (hK : ∀ v W, Mine W lo v (xs ++ ys) → But (slb v1) w W → (∀ k, slb v k → slb v1 k ∨ w.heap.size ≤ k) → K (a.put o.dst v) W) :
    if Region.wanted o (yielded ops a.tmps) = true then Oper.wp Tryd.prog o a w K Q else E := by
  obtain ⟨v, W, hrun, hM, hb, hbut⟩ := app3 xs ys v1 v2 lo w hm hlo hu (Nat.le_trans hlt (by decide))
  have hw : Region.wanted o (yielded ops a.tmps) = true := by simp [Region.wanted, hg]
  rw [if_pos hw]
  unfold Oper.wp
  simp [execOp, hop, resolve, invoke, builtin, hs, hy, hty, hrun, Result.andThen]
  exact hK v W hM hb hbut
theorem stepR_one {α : Type} {R : RowT α} (h : R.Ok) {ops : Array Oper} {o : Oper} {a : Act} {w : World} {K : Act → World → Prop} {Q : Exit → Act → World → Prop} {E : Prop} (x : α) (hsm : R.k ≤ 4096)
    (hg : o.guard = none) (k : Operand) (ho : o.op = .buildSlice R.t 1 #[(0, k)]) (v : Value) (hv : v.cells = (R.c x).toArray) (hev : a.eval k = v)
    (hK : K (a.put o.dst (.slice (some ⟨w.heap.size, 0, none⟩) 1 1)) (w.alloc (.cells (R.c x).toArray R.e))) :
    if Region.wanted o (yielded ops a.tmps) = true then Oper.wp Tryd.prog o a w K Q else E := by
  have hw : Region.wanted o (yielded ops a.tmps) = true := by simp [Region.wanted, hg]
  rw [if_pos hw]
  obtain ⟨i, zv, hi, hz, hs, hby, hc⟩ := h.info
  have hp := h.pos
  have hb := h.bys
  have hl := h.len x
  refine wp_buildSlice R.t R.e 1 _ ho (R.c x).toArray i zv h.ht hi hz ?_ (by rw [hs]; omega) ?_ hK
  · rw [hs]
    omega
  · have hf := Great.fill_whole (s := i.size) (by rw [hs]; exact hp) [v] ((Array.range (1 * i.size)).map (zv.cells[· % zv.cells.size]!)) (by
      intro u hu
      rw [List.mem_singleton.1 hu, hv, List.size_toArray, hl, hs]) (by simp)
    have e : (Array.map (fun (p : Nat × Operand) => (p.1, a.eval p.2)) #[(0, k)]).toList = (([v].zipIdx 0).map fun x => (x.2, x.1)) := by simp [hev]
    refine Eq.trans ?_ (hf.trans ?_)
    · congr 1
    · simp [hv]
end Go.Proofs.YtjnbdajdllpchaaDoor
