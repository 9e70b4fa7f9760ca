/-
  The contract of package head's Read.
-/
import Derived.Test.YtljfhabhenaapaaDoorHeaZ
import Derived.Test.YtljfhabhenaapaaDoorHeaE
import Derived.Laws.ResultCell
namespace Go.Proofs.YtljfhabhenaapaaDoor
open Go.RowKit
set_option maxRecDepth 100000
set_option linter.unusedVariables false

theorem zero_hd (w : World) : (zeroValue 32).run Tryd.prog w = .ok (.agg (hdA hd0)) w := by kernel_rfl
theorem hd_ret {P : Func} {a : Act} {W : World} {g nm k : Nat} {A : Array Value} {v : Value} (hp : P.results = #[ResultVar.cell nm 32, ResultVar.tmp k]) (hd : a.defers = []) (hv : a.tmps.getD nm undef = .pointer (some ⟨g, 0, none⟩)) (hk : a.tmps.getD k undef = v) (hs : A.size = 68) (hR : Bk W g 32 A) {K : Ending → World → Prop} (hK : K (.returned (.tuple #[.agg A, v])) W) :
    bodyPost Tryd.prog P K Exit.ret a W := by
  have h1 := run_loadVar_row (P := Tryd.prog) W g 32 32 A (0, 0) _ hR Tryd.underlying32 rfl (by rw [hs]; exact hd_info)
  refine bodyPost_ret (v := .tuple #[.agg A, v]) ?_ hd hK
  rw [results_cell_tmp hp, hv, hk]
  show ((asAddr (.pointer (some ⟨g, 0, none⟩))).run Tryd.prog W).andThen _ = _
  simp only [asAddr, Sem.run_pure, Result.andThen_ok, h1]
theorem wp_gen2 {P : World → Prop} {w : World} (S : World → Prop) (hS : S w) (h : ∀ W, S W → P W) : P w := h w hS
/-- A store of a row, as a step of a region that draws. -/
theorem step_store {ops : Array Oper} {o : Oper} {a : Act} {w : World} {K : Act → World → Prop} {Q : Exit → Act → World → Prop} {E : Prop} (hg : o.guard = none) (ty : TypeId) (x y : Operand) (ho : o.op = .store ty x y)
    (b f : Nat) (cells : Array Value) (hx : a.eval x = .pointer (some ⟨b, f, none⟩)) (hy : a.eval y = .agg cells)
    (ht : w.there b f cells.size) (hi : (Tryd.prog.info? ty).map (·.size) = some cells.size) (h1 : cells.all (·.oneCell') = true)
    (hK : K (a.put o.dst undef) (w.setCells b f cells.toList)) :
    if Region.wanted o (yielded ops a.tmps) = true then Oper.wp Tryd.prog o a w K Q else E := by
  have hw : Region.wanted o (yielded ops a.tmps) = true := by simp [Region.wanted, hg]
  rw [if_pos hw]
  exact wp_store_mid ty x y ho b f cells hx hy ht hi h1 hK
theorem hd_store (g : Nat) (A : Array Value) (w : World) (h1 : A.all (·.oneCell') = true) (hs : A.size = 68) (h : w.there g 0 68) : (storeCells ⟨g, 0, none⟩ A.toList).run Tryd.prog w = .ok () (w.setCells g 0 A.toList) := by
  have hl : A.toList.length = 68 := by rw [Array.length_toList, hs]
  have e := run_storeCells_cells (P := Tryd.prog) g 0 A.toList 0 w (fun j hj => by simpa using (h j (by omega)).1) (fun j hj => by simpa using (h j (by omega)).2) (fun v hv => by
    have := Array.all_eq_true_iff_forall_mem.1 h1 v (by simpa using hv)
    simpa using this)
  simpa using e
theorem hd_built (m0 m1 m2 m3 : Nat) : ((((hdA hd0).setIfInBounds 0 (.int .u32 (m0 : Int))).setIfInBounds 65 (.int .u32 (m1 : Int))).setIfInBounds 66 (.int .u32 (m2 : Int))).setIfInBounds 67 (.int .u32 (m3 : Int)) = hdA ⟨m0, zeros 32, zeros 32, m1, m2, m3⟩ := by
  unfold hdA hdL hd0
  rfl
theorem hd_ne : ¬ (hdA hd0 = #[]) := by
  intro h
  have e := congrArg Array.size h
  rw [hdA_size hd0_is] at e
  simp at e
theorem splice_hd1 (m0 m1 m2 m3 : Nat) (z r p : List Nat) (hz : z.length = 32) (hp : p.length = 32) : (splice (hdA ⟨m0, z, r, m1, m2, m3⟩).toList 1 (p.map byteV)).toArray = hdA ⟨m0, p, r, m1, m2, m3⟩ := by
  have e := splice_mid [u32V m0] (z.map byteV) (r.map byteV ++ [u32V m1, u32V m2, u32V m3]) (p.map byteV) 0 (by simp [hz, hp])
  have e2 : splice (z.map byteV) 0 (p.map byteV) = p.map byteV := by unfold splice; rw [List.take_zero, List.drop_of_length_le (by simp [hz, hp])]; simp
  rw [e2] at e
  exact congrArg List.toArray e
theorem splice_hd2 (m0 m1 m2 m3 : Nat) (q z r : List Nat) (hq : q.length = 32) (hz : z.length = 32) (hr : r.length = 32) : (splice (hdA ⟨m0, q, z, m1, m2, m3⟩).toList 33 (r.map byteV)).toArray = hdA ⟨m0, q, r, m1, m2, m3⟩ := by
  have e := splice_mid (u32V m0 :: q.map byteV) (z.map byteV) [u32V m1, u32V m2, u32V m3] (r.map byteV) 0 (by simp [hz, hr])
  have e2 : splice (z.map byteV) 0 (r.map byteV) = r.map byteV := by unfold splice; rw [List.take_zero, List.drop_of_length_le (by simp [hz, hr])]; simp
  rw [e2] at e
  have el : (u32V m0 :: q.map byteV).length + 0 = 33 := by simp [hq]
  rw [el] at e
  have ea : (hdA ⟨m0, q, z, m1, m2, m3⟩).toList = (u32V m0 :: q.map byteV) ++ (z.map byteV ++ [u32V m1, u32V m2, u32V m3]) := by simp [hdA, hdL]
  have eb : hdA ⟨m0, q, r, m1, m2, m3⟩ = ((u32V m0 :: q.map byteV) ++ (r.map byteV ++ [u32V m1, u32V m2, u32V m3])).toArray := by simp [hdA, hdL]
  rw [ea, eb, e]
theorem by_one (xs : List Nat) : ∀ v ∈ xs.map byteV, v.oneCell' = true := by intro v hv; simp only [List.mem_map] at hv; obtain ⟨x, _, rfl⟩ := hv; rfl
theorem bs_drop {w : World} {B b o c : Nat} {xs : List Nat} (h : BsV w B (.slice (some ⟨b, o, none⟩) xs.length c) xs) (k : Nat) (hk : k ≤ xs.length) (hb : b < B) (hc : ∀ i, i < xs.length → w.cell? ⟨b, o + i, none⟩ = some (.int .u8 ((nth xs i : Nat) : Int))) (n d : Nat) (hn : n = xs.length - k) (hd : d = c - k) : BsV w B (.slice (some ⟨b, o + k, none⟩) n d) (xs.drop k) := by
  obtain ⟨s, cap, e, h1, h2, h3, h4⟩ := h
  cases e
  refine ⟨_, _, by rw [List.length_drop, hn], by rw [List.length_drop]; omega, by omega, fun x hx => h3 x (List.mem_of_mem_drop hx), fun _ => ⟨b, o + k, rfl, ?_, fun i hi => ?_⟩⟩
  · exact hb
  · rw [List.length_drop] at hi
    have e := hc (k + i) (by omega)
    have e2 : nth (xs.drop k) i = nth xs (k + i) := by unfold nth; rw [List.getD, List.getD, List.getElem?_drop]
    rw [e2, Nat.add_assoc]
    exact e
end Go.Proofs.YtljfhabhenaapaaDoor
