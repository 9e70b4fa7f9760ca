/-
  Steps of a region that draws, as laws: appends and slices of one element of any kind, allocs, stores, calls.
-/
import Derived.Test.YtljfhabhenaapaaDoorRwX
import Derived.Great.BuildSlice
import Derived.Great.FillDense
import Derived.Deep.MidRow
namespace Go.Proofs.YtljfhabhenaapaaDoor
open Go.RowKit
set_option linter.unusedVariables false
set_option linter.unusedSimpArgs false
set_option maxRecDepth 100000
section
variable {ops : Array Oper} {o : Oper} {a : Act} {w : World} {K : Act → World → Prop} {Q : Exit → Act → World → Prop} {E : Prop}
theorem sx_app {α : Type} {R : RowT α} (h : R.Ok) {v1 v2 : Value} (xs ys : List α) (lo : Nat)
    (hg : o.guard = none) (s y : Operand) (hop : o.op = Op.call { callee := Callee.builtin Builtin.append, args := #[s, y], argTypes := #[R.t, R.t] }) (hty : o.type = R.t)
    (hs : a.eval s = v1) (hy : a.eval y = v2) (hm : MineR R w lo v1 xs) (hlo : lo ≤ w.heap.size) (hu : RowV R w w.heap.size v2 ys) (hlt : xs.length + ys.length ≤ 1500000)
    (hK : ∀ v W, MineR R W lo v (xs ++ ys) → But (slb v1) w W → (∀ k, slb v k → slb v1 k ∨ w.heap.size ≤ k) → K (a.put o.dst v) W) :
    if Region.wanted o (yielded ops a.tmps) = true then Oper.wp Tryd.prog o a w K Q else E := by
  obtain ⟨v, W, hrun, hM, hb, hbut⟩ := appB h xs ys v1 v2 lo w hm hlo hu hlt
  have hw : Region.wanted o (yielded ops a.tmps) = true := by simp [Region.wanted, hg]
  rw [if_pos hw]
  unfold Oper.wp
  simp [execOp, hop, resolve, invoke, builtin, hs, hy, hty, hrun, Result.andThen]
  exact hK v W hM hb hbut
theorem sx_one {α : Type} {R : RowT α} (h : R.Ok) (x : α) (hsm : R.k ≤ 4096)
    (hg : o.guard = none) (k : Operand) (ho : o.op = .buildSlice R.t 1 #[(0, k)]) (v : Value) (hv : v.cells = (R.c x).toArray) (hev : a.eval k = v)
    (hK : K (a.put o.dst (.slice (some ⟨w.heap.size, 0, none⟩) 1 1)) (w.alloc (.cells (R.c x).toArray R.e))) :
    if Region.wanted o (yielded ops a.tmps) = true then Oper.wp Tryd.prog o a w K Q else E := by
  have hw : Region.wanted o (yielded ops a.tmps) = true := by simp [Region.wanted, hg]
  rw [if_pos hw]
  obtain ⟨i, zv, hi, hz, hs, hby, hc⟩ := h.info
  have hp := h.pos
  have hb := h.bys
  have hl := h.len x
  refine wp_buildSlice R.t R.e 1 _ ho (R.c x).toArray i zv h.ht hi hz ?_ (by rw [hs]; omega) ?_ hK
  · rw [hs]
    omega
  · have hf := Great.fill_whole (s := i.size) (by rw [hs]; exact hp) [v] ((Array.range (1 * i.size)).map (zv.cells[· % zv.cells.size]!)) (by
      intro u hu
      rw [List.mem_singleton.1 hu, hv, List.size_toArray, hl, hs]) (by simp)
    have e : (Array.map (fun (p : Nat × Operand) => (p.1, a.eval p.2)) #[(0, k)]).toList = (([v].zipIdx 0).map fun x => (x.2, x.1)) := by simp [hev]
    refine Eq.trans ?_ (hf.trans ?_)
    · congr 1
    · simp [hv]
theorem sx_call (hw : Region.wanted o (yielded ops a.tmps) = true) (f : FuncId) (args : Array Value) {R : Ending → World → Prop}
    (hc : Calls Tryd.prog f args w R) (hrun : (execOp a.eval o).run Tryd.prog w = .ok (.enter f args) w)
    (hR : ∀ e w', R e w' → ∃ v, e = .returned v ∧ K (a.put o.dst v) w') :
    if Region.wanted o (yielded ops a.tmps) = true then Oper.wp Tryd.prog o a w K Q else E := by
  rw [if_pos hw]
  unfold Oper.wp
  rw [hrun, Oper.upon_enter]
  refine hc.mono ?_
  intro e w' h
  obtain ⟨v, rfl, hk⟩ := hR e w' h
  exact hk
theorem sx_alloc (t : TypeId) (Z : Array Value) (hz : ∀ w, (zeroValue t).run Tryd.prog w = .ok (.agg Z) w) (hne : (Z = #[]) = False) (hg : o.guard = none) (ho : o.op = .alloc t)
    (hK : K (a.put o.dst (.pointer (some ⟨w.heap.size, 0, none⟩))) (w.alloc (.cells Z t))) :
    if Region.wanted o (yielded ops a.tmps) = true then Oper.wp Tryd.prog o a w K Q else E := by
  obtain ⟨d, op, ty, pos, after, g⟩ := o
  obtain rfl : op = .alloc t := ho
  obtain rfl : g = none := hg
  go_simp
  exact hK
theorem sx_store (hg : o.guard = none) (ty : TypeId) (x y : Operand) (ho : o.op = .store ty x y)
    (b f : Nat) (cells : Array Value) (hx : a.eval x = .pointer (some ⟨b, f, none⟩)) (hy : a.eval y = .agg cells)
    (ht : w.there b f cells.size) (hi : (Tryd.prog.info? ty).map (·.size) = some cells.size) (h1 : cells.all (·.oneCell') = true)
    (hK : K (a.put o.dst undef) (w.setCells b f cells.toList)) :
    if Region.wanted o (yielded ops a.tmps) = true then Oper.wp Tryd.prog o a w K Q else E := by
  have hw : Region.wanted o (yielded ops a.tmps) = true := by simp [Region.wanted, hg]
  rw [if_pos hw]
  exact wp_store_mid ty x y ho b f cells hx hy ht hi h1 hK
theorem sx_mu {M X V : Value} {W : World} (hg : o.guard = none) (m x v : Operand) (t : TypeId) (hop : o.op = Op.mapUpdate t m x v)
    (hm : a.eval m = M) (hx : a.eval x = X) (hv : a.eval v = V) (hrun : (Instr.mapUpdate t M X V).run Tryd.prog w = .ok () W) (hK : K (a.put o.dst undef) W) :
    if Region.wanted o (yielded ops a.tmps) = true then Oper.wp Tryd.prog o a w K Q else E := by
  have hw : Region.wanted o (yielded ops a.tmps) = true := by simp [Region.wanted, hg]
  rw [if_pos hw]
  unfold Oper.wp
  simp [execOp, hop, hm, hx, hv, hrun, Result.andThen]
  exact hK
theorem sx_slice (hg : o.guard = none) (t : TypeId) (hsz : ∀ w, (sizeOf t).run Tryd.prog w = .ok 1 w) (x y : Operand) (ho : o.op = .store t x y)
    (b f : Nat) (v : Value) (hv : ∃ s n c, v = .slice s n c) (hx : a.eval x = .pointer (some ⟨b, f, none⟩)) (hy : a.eval y = v) (u : Value) (hc : w.cell? ⟨b, f, none⟩ = some u) (hf : w.frozen? ⟨b, f, none⟩ = false)
    (hK : K (a.put o.dst undef) (w.setCell ⟨b, f, none⟩ v)) :
    if Region.wanted o (yielded ops a.tmps) = true then Oper.wp Tryd.prog o a w K Q else E := by
  obtain ⟨d, op, ty, pos, after, g⟩ := o
  obtain rfl : op = .store t x y := ho
  obtain rfl : g = none := hg
  obtain ⟨s, n, c, rfl⟩ := hv
  have hx' : Act.eval a x = .pointer (some ⟨b, f, none⟩) := hx
  have hw : Region.wanted ({ dst := d, op := .store t x y, type := ty, pos := pos, after := after, guard := none } : Oper) (yielded ops a.tmps) = true := by simp [Region.wanted]
  rw [if_pos hw]
  unfold Oper.wp execOp
  simp only [hx, hy]
  go_simp
  exact hK
end
end Go.Proofs.YtljfhabhenaapaaDoor
