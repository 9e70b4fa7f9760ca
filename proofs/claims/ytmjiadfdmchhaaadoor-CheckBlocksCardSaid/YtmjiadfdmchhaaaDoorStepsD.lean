/-
  Steps of a region that draws its order, as laws: an alloc, a row of one name, a store of a row.
-/
import Derived.Test.YtmjiadfdmchhaaaDoorTwinD
import Derived.Deep.RegionHeld
namespace Go.Proofs.YtmjiadfdmchhaaaDoor
open Go.RowKit
set_option linter.unusedVariables false
set_option linter.unusedSimpArgs false

theorem step_alloc {ops : Array Oper} {o : Oper} {a : Act} {w : World} {K : Act → World → Prop} {Q : Exit → Act → World → Prop} {E : Prop} (hg : o.guard = none) (ho : o.op = .alloc 23)
    (hK : K (a.put o.dst (.pointer (some ⟨w.heap.size, 0, none⟩))) (w.alloc (.cells (idA (zeros 32)) 23))) :
    if Region.wanted o (yielded ops a.tmps) = true then Oper.wp Tryd.prog o a w K Q else E := by
  obtain ⟨d, op, ty, pos, after, g⟩ := o
  obtain rfl : op = .alloc 23 := ho
  obtain rfl : g = none := hg
  go_simp
  exact hK
theorem step_bsI {ops : Array Oper} {o : Oper} {a : Act} {w : World} {K : Act → World → Prop} {Q : Exit → Act → World → Prop} {E : Prop} (hg : o.guard = none) (len : Nat) (parts : Array (Nat × Operand)) (ho : o.op = .buildSlice 60 len parts)
    (L : List (List Nat)) (hL : IsIds L) (hlen : len = L.length) (hpos : 0 < len) (hsmall : len ≤ 1000) (hparts : (parts.map fun (i, x) => (i, a.eval x)).toList = ((L.map fun x => idv x).zipIdx 0).map fun x => (x.2, x.1))
    (hK : K (a.put o.dst (.slice (some ⟨w.heap.size, 0, none⟩) len len)) (w.alloc (.cells (idA L.flatten) 23))) :
    if Region.wanted o (yielded ops a.tmps) = true then Oper.wp Tryd.prog o a w K Q else E := by
  have hw : Region.wanted o (yielded ops a.tmps) = true := by simp [Region.wanted, hg]
  rw [if_pos hw]
  obtain ⟨i, hi, hz, hs, hby⟩ := id_infoA
  refine wp_buildSlice 60 23 len parts ho _ i _ Tryd.underlying60 hi hz (by rw [hs]; omega) (by rw [hs]; omega) ?_ hK
  rw [hparts, hs, ← flat_cells]
  refine Great.fill_whole (by omega) _ _ ?_ ?_
  · intro v hv
    obtain ⟨x, hx, rfl⟩ := List.mem_map.1 hv
    show (idA x).size = 32
    rw [idA_size, (hL x hx).1]
  · rw [List.length_map, ← hlen]
    simp
theorem step_bs1 {ops : Array Oper} {o : Oper} {a : Act} {w : World} {K : Act → World → Prop} {Q : Exit → Act → World → Prop} {E : Prop} (hg : o.guard = none) (k : Operand) (ho : o.op = .buildSlice 60 1 #[(0, k)])
    (x : List Nat) (hx : IsId x) (hev : a.eval k = .agg (idA x)) (hK : K (a.put o.dst (.slice (some ⟨w.heap.size, 0, none⟩) 1 1)) (w.alloc (.cells (idA x) 23))) :
    if Region.wanted o (yielded ops a.tmps) = true then Oper.wp Tryd.prog o a w K Q else E := by
  have e : [x].flatten = x := by simp
  refine step_bsI hg 1 _ ho [x] (IsIds.one hx) rfl (by omega) (by omega) ?_ (by rw [e]; exact hK)
  have hev2 : a.eval k = idv x := hev
  rw [Array.toList_map]
  simp [hev2]
theorem step_storeD {ops : Array Oper} {o : Oper} {a : Act} {w : World} {K : Act → World → Prop} {Q : Exit → Act → World → Prop} {E : Prop} (hg : o.guard = none) (ty : TypeId) (x y : Operand) (ho : o.op = .store ty x y)
    (b f : Nat) (cells : Array Value) (hx : a.eval x = .pointer (some ⟨b, f, none⟩)) (hy : a.eval y = .agg cells)
    (ht : w.there b f cells.size) (hi : (Tryd.prog.info? ty).map (·.size) = some cells.size) (h1 : cells.all (·.oneCell') = true)
    (hK : K (a.put o.dst undef) (w.setCells b f cells.toList)) :
    if Region.wanted o (yielded ops a.tmps) = true then Oper.wp Tryd.prog o a w K Q else E := by
  have hw : Region.wanted o (yielded ops a.tmps) = true := by simp [Region.wanted, hg]
  rw [if_pos hw]
  exact wp_store_mid ty x y ho b f cells hx hy ht hi h1 hK
/-- A call of a Go function whose contract is at hand, as a step of a region that draws. -/
theorem step_call {ops : Array Oper} {o : Oper} {a : Act} {w : World} {K : Act → World → Prop} {Q : Exit → Act → World → Prop} {E : Prop} (hg : o.guard = none) (f : FuncId) (args : Array Value) (v : Value)
    (hc : Calls Tryd.prog f args w fun e w' => e = .returned v ∧ Below w.heap.size w w') (hrun : (execOp a.eval o).run Tryd.prog w = .ok (.enter f args) w)
    (hK : ∀ w', Below w.heap.size w w' → K (a.put o.dst v) w') :
    if Region.wanted o (yielded ops a.tmps) = true then Oper.wp Tryd.prog o a w K Q else E := by
  have hw : Region.wanted o (yielded ops a.tmps) = true := by simp [Region.wanted, hg]
  rw [if_pos hw]
  unfold Oper.wp
  rw [hrun, Oper.upon_enter]
  refine hc.mono ?_
  rintro e w' ⟨rfl, hb⟩
  exact hK _ hb
end Go.Proofs.YtmjiadfdmchhaaaDoor
