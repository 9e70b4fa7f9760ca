/-
  Regions of the tree's put.
-/
import Derived.Test.YtljfhabhenaapaaDoorIxE
import Derived.Deep.RegionHeld3
namespace Go.Proofs.YtljfhabhenaapaaDoor
open Go.RowKit
set_option linter.unusedVariables false
set_option linter.unusedSimpArgs false
set_option maxRecDepth 100000
theorem row_size {α : Type} {R : RowT α} (h : R.Ok) (x : α) : (Tryd.prog.info? R.e).map (·.size) = some (R.c x).length := by
  obtain ⟨i, v, h1, h2, h3, _⟩ := h.info
  rw [h1, h.len x]
  exact congrArg some h3
theorem But.frozen {S : Nat → Prop} {w w' : World} (h : But S w w') {p : Addr} (hp : p.block < w.heap.size) (hn : ¬ S p.block) : w'.frozen? p = w.frozen? p := World.frozen?_of_block (w := w) (h.block p.block hp hn)
theorem sx_load {ops : Array Oper} {o : Oper} {a : Act} {w : World} {K : Act → World → Prop} {Q : Exit → Act → World → Prop} {E : Prop} (hg : o.guard = none) (t : TypeId) (hsz : ∀ w, (sizeOf t).run Tryd.prog w = .ok 1 w) (hag : ∀ w, (isAgg t).run Tryd.prog w = .ok false w) (x : Operand) (ho : o.op = .load t x)
    (b f : Nat) (v : Value) (hx : a.eval x = .pointer (some ⟨b, f, none⟩)) (hc : w.cell? ⟨b, f, none⟩ = some v) (hK : K (a.put o.dst v) w) :
    if Region.wanted o (yielded ops a.tmps) = true then Oper.wp Tryd.prog o a w K Q else E := by
  obtain ⟨d, op, ty, pos, after, g⟩ := o
  obtain rfl : op = .load t x := ho
  obtain rfl : g = none := hg
  have hw : Region.wanted ({ dst := d, op := .load t x, type := ty, pos := pos, after := after, guard := none } : Oper) (yielded ops a.tmps) = true := by simp [Region.wanted]
  rw [if_pos hw]
  unfold Oper.wp execOp
  simp only [hx]
  go_simp
  exact hK
theorem ns_sz (w : World) : (sizeOf 74).run Tryd.prog w = .ok 1 w := by kernel_rfl
theorem ns_ag (w : World) : (isAgg 74).run Tryd.prog w = .ok false w := by kernel_rfl
theorem mine_slice {α : Type} {R : RowT α} {w : World} {lo : Nat} {v : Value} {L : List α} (h : MineR R w lo v L) : ∃ s n c, v = .slice s n c := by
  obtain ⟨s, c, e⟩ := h.slice
  exact ⟨s, _, c, e⟩
theorem ndC_one {w : World} {g : Nat} {x : Nd} (hx : IsHd x.h) (h : Bk w g 45 (ndC x).1.toArray) : RowV ndR w w.heap.size (.slice (some ⟨g, 0, none⟩) 1 1) [ndC x] := row_built (R := ndR) (L := [ndC x]) (n := 1) ndR_ok (by simp [RowT.flat]; exact h) rfl (by decide)
def put2_ops : Array Oper := #[{ dst := some 11, op := Op.move (Operand.tmp 0), type := 24, pos := "index.go:201", after := #[], guard := none },
{ dst := some 12, op := Op.move (Operand.tmp 0), type := 24, pos := "index.go:201", after := #[], guard := none },
{ dst := some 13, op := Op.nilCheck (Operand.tmp 12), type := 0, pos := "index.go:201", after := #[{ on := 1, ground := Ground.data }], guard := none },
{ dst := some 14, op := Op.fieldAddr 76 (Operand.tmp 13) 1, type := 0, pos := "index.go:201", after := #[{ on := 2, ground := Ground.data }], guard := none },
{ dst := some 15, op := Op.load 74 (Operand.tmp 14), type := 74, pos := "index.go:201", after := #[{ on := 3, ground := Ground.data }], guard := none },
{ dst := some 16, op := Op.load 45 (Operand.tmp 3), type := 45, pos := "index.go:201", after := #[], guard := none },
{ dst := some 17, op := Op.buildSlice 74 1 #[(0, Operand.tmp 16)], type := 74, pos := "index.go:201", after := #[{ on := 5, ground := Ground.data }], guard := none },
{ dst := some 18, op := Op.call { callee := Callee.builtin Builtin.append, args := #[Operand.tmp 15, Operand.tmp 17], argTypes := #[74, 74] }, type := 74, pos := "index.go:201", after := #[{ on := 4, ground := Ground.data }, { on := 6, ground := Ground.data }], guard := none },
{ dst := some 19, op := Op.nilCheck (Operand.tmp 11), type := 0, pos := "index.go:201", after := #[{ on := 0, ground := Ground.data }, { on := 0, ground := Ground.phase }, { on := 1, ground := Ground.phase }, { on := 2, ground := Ground.phase }, { on := 3, ground := Ground.phase }, { on := 4, ground := Ground.phase }, { on := 5, ground := Ground.phase }, { on := 6, ground := Ground.phase }, { on := 7, ground := Ground.phase }], guard := none },
{ dst := some 20, op := Op.fieldAddr 76 (Operand.tmp 19) 1, type := 0, pos := "index.go:201", after := #[{ on := 8, ground := Ground.data }, { on := 0, ground := Ground.phase }, { on := 1, ground := Ground.phase }, { on := 2, ground := Ground.phase }, { on := 3, ground := Ground.phase }, { on := 4, ground := Ground.phase }, { on := 5, ground := Ground.phase }, { on := 6, ground := Ground.phase }, { on := 7, ground := Ground.phase }], guard := none },
{ dst := none, op := Op.store 74 (Operand.tmp 20) (Operand.tmp 18), type := 0, pos := "index.go:201", after := #[{ on := 9, ground := Ground.data }, { on := 7, ground := Ground.data }, { on := 7, ground := Ground.chain }, { on := 0, ground := Ground.phase }, { on := 1, ground := Ground.phase }, { on := 2, ground := Ground.phase }, { on := 3, ground := Ground.phase }, { on := 4, ground := Ground.phase }, { on := 5, ground := Ground.phase }, { on := 6, ground := Ground.phase }, { on := 7, ground := Ground.phase }], guard := none }]
set_option maxRecDepth 100000 in
set_option maxHeartbeats 4000000 in
theorem put2_4_6_7_10 (p b3 lo : Nat) (v : Value) (x : Nd) (LL : List N108) (V : World) (t1 t2 t4 t5 t6 t7 t8 t9 t10 t11 t12 t13 t14 t15 t16 t17 t18 t19 t20 t21 t22 t23 t24 t25 t26 t27 t28 : Value) (Q : Exit → Act → World → Prop) (zp : p < V.heap.size) (z3 : b3 < V.heap.size) (hnp : ¬ slb v p) (hn3 : ¬ (slb v b3 ∨ b3 = p)) (hlo : lo ≤ V.heap.size) (HC74 : Hid (V.cell? ⟨p, 74, none⟩ = some v)) (HF74 : Hid (V.frozen? ⟨p, 74, none⟩ = false)) (hx : IsHd x.h) (hrg : V.rangeAt b3 0 (ndC x).1) (HM : Hid (MineR ndR V lo v LL)) (hlt : LL.length + [ndC x].length ≤ 1500000) (HQ : Hid (∀ (x11 x12 x13 x14 x15 x16 x17 x18 x19 x20 : Value) (v7 : Value)  (w' : World), (∃ ww, w' = ww.setCell ⟨p, 74, none⟩ v7 ∧ But (slb v) V ww ∧ MineR ndR ww lo v7 (LL ++ [ndC x]) ∧ ∀ k, slb v7 k → slb v k ∨ V.heap.size ≤ k) → Q .normal { tmps := List.toArray (.pointer (some ⟨p, 0, none⟩) :: t1 :: t2 :: .pointer (some ⟨b3, 0, none⟩) :: t4 :: t5 :: t6 :: t7 :: t8 :: t9 :: t10 :: x11 :: x12 :: x13 :: x14 :: x15 :: x16 :: x17 :: x18 :: x19 :: x20 :: t21 :: t22 :: t23 :: t24 :: t25 :: t26 :: t27 :: t28 :: []), defers := [] } w')) (b6 : Nat) (v7 : Value) (w : World) (hB : But (fun k => slb v k ∨ k = p) V w) (hend : (∃ ww, w = ww.setCell ⟨p, 74, none⟩ v7 ∧ But (slb v) V ww ∧ MineR ndR ww lo v7 (LL ++ [ndC x]) ∧ ∀ k, slb v7 k → slb v k ∨ V.heap.size ≤ k)) :
    wpAnyH Tryd.prog .any put2_ops (NoPanic Q) (fun w' => But (fun k => slb v k ∨ k = p) V w') 0 #[true, true, true, true, true, true, true, true, true, true, true] { tmps := List.toArray (.pointer (some ⟨p, 0, none⟩) :: t1 :: t2 :: .pointer (some ⟨b3, 0, none⟩) :: t4 :: t5 :: t6 :: t7 :: t8 :: t9 :: t10 :: .pointer (some ⟨p, 0, none⟩) :: .pointer (some ⟨p, 0, none⟩) :: .pointer (some ⟨p, 0, none⟩) :: .pointer (some ⟨p, 74, none⟩) :: v :: .agg (ndC x).1.toArray :: .slice (some ⟨b6, 0, none⟩) 1 1 :: v7 :: .pointer (some ⟨p, 0, none⟩) :: .pointer (some ⟨p, 74, none⟩) :: t21 :: t22 :: t23 :: t24 :: t25 :: t26 :: t27 :: t28 :: []), defers := [] } w := by
  refine wpAnyH_done (by kernel_rfl) ?_ _
  refine NoPanic.normal ?_
  have hEnd := HQ.out (.pointer (some ⟨p, 0, none⟩)) (.pointer (some ⟨p, 0, none⟩)) (.pointer (some ⟨p, 0, none⟩)) (.pointer (some ⟨p, 74, none⟩)) (v) (.agg (ndC x).1.toArray) (.slice (some ⟨b6, 0, none⟩) 1 1) (v7) (.pointer (some ⟨p, 0, none⟩)) (.pointer (some ⟨p, 74, none⟩)) v7 _ hend
  exact hEnd

set_option maxRecDepth 100000 in
set_option maxHeartbeats 4000000 in
theorem put2_4_6_7 (p b3 lo : Nat) (v : Value) (x : Nd) (LL : List N108) (V : World) (t1 t2 t4 t5 t6 t7 t8 t9 t10 t11 t12 t13 t14 t15 t16 t17 t18 t19 t20 t21 t22 t23 t24 t25 t26 t27 t28 : Value) (Q : Exit → Act → World → Prop) (zp : p < V.heap.size) (z3 : b3 < V.heap.size) (hnp : ¬ slb v p) (hn3 : ¬ (slb v b3 ∨ b3 = p)) (hlo : lo ≤ V.heap.size) (HC74 : Hid (V.cell? ⟨p, 74, none⟩ = some v)) (HF74 : Hid (V.frozen? ⟨p, 74, none⟩ = false)) (hx : IsHd x.h) (hrg : V.rangeAt b3 0 (ndC x).1) (HM : Hid (MineR ndR V lo v LL)) (hlt : LL.length + [ndC x].length ≤ 1500000) (HQ : Hid (∀ (x11 x12 x13 x14 x15 x16 x17 x18 x19 x20 : Value) (v7 : Value)  (w' : World), (∃ ww, w' = ww.setCell ⟨p, 74, none⟩ v7 ∧ But (slb v) V ww ∧ MineR ndR ww lo v7 (LL ++ [ndC x]) ∧ ∀ k, slb v7 k → slb v k ∨ V.heap.size ≤ k) → Q .normal { tmps := List.toArray (.pointer (some ⟨p, 0, none⟩) :: t1 :: t2 :: .pointer (some ⟨b3, 0, none⟩) :: t4 :: t5 :: t6 :: t7 :: t8 :: t9 :: t10 :: x11 :: x12 :: x13 :: x14 :: x15 :: x16 :: x17 :: x18 :: x19 :: x20 :: t21 :: t22 :: t23 :: t24 :: t25 :: t26 :: t27 :: t28 :: []), defers := [] } w')) (b6 : Nat) (v7 : Value) (w : World) (hB : But (fun k => slb v k ∨ k = p) V w) (hbl : But (slb v) V w) (hm : (MineR ndR w lo v7 (LL ++ [ndC x]) ∧ ∀ k, slb v7 k → slb v k ∨ V.heap.size ≤ k)) :
    wpAnyH Tryd.prog .any put2_ops (NoPanic Q) (fun w' => But (fun k => slb v k ∨ k = p) V w') 1 #[true, true, true, true, true, true, true, true, true, true, false] { tmps := List.toArray (.pointer (some ⟨p, 0, none⟩) :: t1 :: t2 :: .pointer (some ⟨b3, 0, none⟩) :: t4 :: t5 :: t6 :: t7 :: t8 :: t9 :: t10 :: .pointer (some ⟨p, 0, none⟩) :: .pointer (some ⟨p, 0, none⟩) :: .pointer (some ⟨p, 0, none⟩) :: .pointer (some ⟨p, 74, none⟩) :: v :: .agg (ndC x).1.toArray :: .slice (some ⟨b6, 0, none⟩) 1 1 :: v7 :: .pointer (some ⟨p, 0, none⟩) :: .pointer (some ⟨p, 74, none⟩) :: t21 :: t22 :: t23 :: t24 :: t25 :: t26 :: t27 :: t28 :: []), defers := [] } w := by
  refine wpAnyH_ready (rs := [10]) (by kernel_rfl) (by simp) ?_
  refine AllReadyH.cons rfl (fun K hK => ?_) ?_
  · refine sx_slice rfl 74 ns_sz (.tmp 20) (.tmp 18) rfl p 74 v7 (mine_slice hm.1) rfl rfl v (by rw [hbl.cell (p := ⟨p, 74, none⟩) zp hnp]; exact HC74.out) (by rw [hbl.frozen (p := ⟨p, 74, none⟩) zp hnp]; exact HF74.out) ?_
    simp only [Act.put, List.setIfInBounds_toArray, List.set_cons_zero, List.set_cons_succ]
    have hB2 := (But.set_ hB (.inl (.inr rfl)) 74 none v7)
    refine hK.out _ _ hB2 (fun _ => ?_)
    show wpAnyH _ _ _ _ _ 0 #[true, true, true, true, true, true, true, true, true, true, true] { tmps := List.toArray (.pointer (some ⟨p, 0, none⟩) :: t1 :: t2 :: .pointer (some ⟨b3, 0, none⟩) :: t4 :: t5 :: t6 :: t7 :: t8 :: t9 :: t10 :: .pointer (some ⟨p, 0, none⟩) :: .pointer (some ⟨p, 0, none⟩) :: .pointer (some ⟨p, 0, none⟩) :: .pointer (some ⟨p, 74, none⟩) :: v :: .agg (ndC x).1.toArray :: .slice (some ⟨b6, 0, none⟩) 1 1 :: v7 :: .pointer (some ⟨p, 0, none⟩) :: .pointer (some ⟨p, 74, none⟩) :: t21 :: t22 :: t23 :: t24 :: t25 :: t26 :: t27 :: t28 :: []), defers := [] } _
    exact put2_4_6_7_10 p b3 lo v x LL V t1 t2 t4 t5 t6 t7 t8 t9 t10 t11 t12 t13 t14 t15 t16 t17 t18 t19 t20 t21 t22 t23 t24 t25 t26 t27 t28 Q zp z3 hnp hn3 hlo HC74 HF74 hx hrg HM hlt HQ _ _ _ hB2 (⟨w, rfl, hbl, hm.1, hm.2⟩)
  exact AllReadyH.nil

set_option maxRecDepth 100000 in
set_option maxHeartbeats 4000000 in
theorem put2_4_6 (p b3 lo : Nat) (v : Value) (x : Nd) (LL : List N108) (V : World) (t1 t2 t4 t5 t6 t7 t8 t9 t10 t11 t12 t13 t14 t15 t16 t17 t18 t19 t20 t21 t22 t23 t24 t25 t26 t27 t28 : Value) (Q : Exit → Act → World → Prop) (zp : p < V.heap.size) (z3 : b3 < V.heap.size) (hnp : ¬ slb v p) (hn3 : ¬ (slb v b3 ∨ b3 = p)) (hlo : lo ≤ V.heap.size) (HC74 : Hid (V.cell? ⟨p, 74, none⟩ = some v)) (HF74 : Hid (V.frozen? ⟨p, 74, none⟩ = false)) (hx : IsHd x.h) (hrg : V.rangeAt b3 0 (ndC x).1) (HM : Hid (MineR ndR V lo v LL)) (hlt : LL.length + [ndC x].length ≤ 1500000) (HQ : Hid (∀ (x11 x12 x13 x14 x15 x16 x17 x18 x19 x20 : Value) (v7 : Value)  (w' : World), (∃ ww, w' = ww.setCell ⟨p, 74, none⟩ v7 ∧ But (slb v) V ww ∧ MineR ndR ww lo v7 (LL ++ [ndC x]) ∧ ∀ k, slb v7 k → slb v k ∨ V.heap.size ≤ k) → Q .normal { tmps := List.toArray (.pointer (some ⟨p, 0, none⟩) :: t1 :: t2 :: .pointer (some ⟨b3, 0, none⟩) :: t4 :: t5 :: t6 :: t7 :: t8 :: t9 :: t10 :: x11 :: x12 :: x13 :: x14 :: x15 :: x16 :: x17 :: x18 :: x19 :: x20 :: t21 :: t22 :: t23 :: t24 :: t25 :: t26 :: t27 :: t28 :: []), defers := [] } w')) (b6 : Nat) (w : World) (hB : But (fun k => slb v k ∨ k = p) V w) (hbl : But (slb v) V w) (hm0 : MineR ndR w lo v LL) (h1 : RowV ndR w w.heap.size (.slice (some ⟨b6, 0, none⟩) 1 1) [ndC x]) :
    wpAnyH Tryd.prog .any put2_ops (NoPanic Q) (fun w' => But (fun k => slb v k ∨ k = p) V w') 4 #[true, true, true, true, true, true, true, false, false, false, false] { tmps := List.toArray (.pointer (some ⟨p, 0, none⟩) :: t1 :: t2 :: .pointer (some ⟨b3, 0, none⟩) :: t4 :: t5 :: t6 :: t7 :: t8 :: t9 :: t10 :: .pointer (some ⟨p, 0, none⟩) :: .pointer (some ⟨p, 0, none⟩) :: .pointer (some ⟨p, 0, none⟩) :: .pointer (some ⟨p, 74, none⟩) :: v :: .agg (ndC x).1.toArray :: .slice (some ⟨b6, 0, none⟩) 1 1 :: t18 :: t19 :: t20 :: t21 :: t22 :: t23 :: t24 :: t25 :: t26 :: t27 :: t28 :: []), defers := [] } w := by
  refine wpAnyH_ready (rs := [7]) (by kernel_rfl) (by simp) ?_
  refine AllReadyH.cons rfl (fun K hK => ?_) ?_
  · refine sx_app ndR_ok LL [ndC x] lo rfl (.tmp 15) (.tmp 17) rfl rfl rfl rfl hm0 (Nat.le_trans hlo hB.size) h1 hlt (fun v7 w7 hm7 hb7 hs7 => ?_)
    simp only [Act.put, List.setIfInBounds_toArray, List.set_cons_zero, List.set_cons_succ]
    have hB2 := (hB.trans hb7 (fun _ _ h => .inl h))
    refine hK.out _ _ hB2 (fun _ => ?_)
    show wpAnyH _ _ _ _ _ 3 #[true, true, true, true, true, true, true, true, false, false, false] { tmps := List.toArray (.pointer (some ⟨p, 0, none⟩) :: t1 :: t2 :: .pointer (some ⟨b3, 0, none⟩) :: t4 :: t5 :: t6 :: t7 :: t8 :: t9 :: t10 :: .pointer (some ⟨p, 0, none⟩) :: .pointer (some ⟨p, 0, none⟩) :: .pointer (some ⟨p, 0, none⟩) :: .pointer (some ⟨p, 74, none⟩) :: v :: .agg (ndC x).1.toArray :: .slice (some ⟨b6, 0, none⟩) 1 1 :: v7 :: t19 :: t20 :: t21 :: t22 :: t23 :: t24 :: t25 :: t26 :: t27 :: t28 :: []), defers := [] } _
    refine wpAnyH_take (i := 8) (oi := { dst := some 19, op := Op.nilCheck (Operand.tmp 11), type := 0, pos := "index.go:201", after := #[{ on := 0, ground := Ground.data }, { on := 0, ground := Ground.phase }, { on := 1, ground := Ground.phase }, { on := 2, ground := Ground.phase }, { on := 3, ground := Ground.phase }, { on := 4, ground := Ground.phase }, { on := 5, ground := Ground.phase }, { on := 6, ground := Ground.phase }, { on := 7, ground := Ground.phase }], guard := none }) (v := .pointer (some ⟨p, 0, none⟩)) rfl (by kernel_rfl) (by kernel_rfl) (by kernel_rfl) (fun _ _ _ h => h) ?_ hB2 ?_
    · (refine Or.inl ⟨by kernel_rfl, ?_⟩; intro w hSw; have hzp := Nat.lt_of_lt_of_le zp hSw.size; go_simp)
    simp only [Act.put, List.setIfInBounds_toArray, List.set_cons_zero, List.set_cons_succ]
    refine wpAnyH_take (i := 9) (oi := { dst := some 20, op := Op.fieldAddr 76 (Operand.tmp 19) 1, type := 0, pos := "index.go:201", after := #[{ on := 8, ground := Ground.data }, { on := 0, ground := Ground.phase }, { on := 1, ground := Ground.phase }, { on := 2, ground := Ground.phase }, { on := 3, ground := Ground.phase }, { on := 4, ground := Ground.phase }, { on := 5, ground := Ground.phase }, { on := 6, ground := Ground.phase }, { on := 7, ground := Ground.phase }], guard := none }) (v := .pointer (some ⟨p, 74, none⟩)) rfl (by kernel_rfl) (by kernel_rfl) (by kernel_rfl) (fun _ _ _ h => h) ?_ hB2 ?_
    · (refine Or.inl ⟨by kernel_rfl, ?_⟩; intro w hSw; have hzp := Nat.lt_of_lt_of_le zp hSw.size; go_simp)
    simp only [Act.put, List.setIfInBounds_toArray, List.set_cons_zero, List.set_cons_succ]
    exact put2_4_6_7 p b3 lo v x LL V t1 t2 t4 t5 t6 t7 t8 t9 t10 t11 t12 t13 t14 t15 t16 t17 t18 t19 t20 t21 t22 t23 t24 t25 t26 t27 t28 Q zp z3 hnp hn3 hlo HC74 HF74 hx hrg HM hlt HQ _ _ _ hB2 ((hbl.trans hb7 (fun _ _ h => h))) (⟨hm7, fun k hk => (hs7 k hk).imp id (fun h => Nat.le_trans hB.size h)⟩)
  exact AllReadyH.nil

set_option maxRecDepth 100000 in
set_option maxHeartbeats 4000000 in
theorem put2_6 (p b3 lo : Nat) (v : Value) (x : Nd) (LL : List N108) (V : World) (t1 t2 t4 t5 t6 t7 t8 t9 t10 t11 t12 t13 t14 t15 t16 t17 t18 t19 t20 t21 t22 t23 t24 t25 t26 t27 t28 : Value) (Q : Exit → Act → World → Prop) (zp : p < V.heap.size) (z3 : b3 < V.heap.size) (hnp : ¬ slb v p) (hn3 : ¬ (slb v b3 ∨ b3 = p)) (hlo : lo ≤ V.heap.size) (HC74 : Hid (V.cell? ⟨p, 74, none⟩ = some v)) (HF74 : Hid (V.frozen? ⟨p, 74, none⟩ = false)) (hx : IsHd x.h) (hrg : V.rangeAt b3 0 (ndC x).1) (HM : Hid (MineR ndR V lo v LL)) (hlt : LL.length + [ndC x].length ≤ 1500000) (HQ : Hid (∀ (x11 x12 x13 x14 x15 x16 x17 x18 x19 x20 : Value) (v7 : Value)  (w' : World), (∃ ww, w' = ww.setCell ⟨p, 74, none⟩ v7 ∧ But (slb v) V ww ∧ MineR ndR ww lo v7 (LL ++ [ndC x]) ∧ ∀ k, slb v7 k → slb v k ∨ V.heap.size ≤ k) → Q .normal { tmps := List.toArray (.pointer (some ⟨p, 0, none⟩) :: t1 :: t2 :: .pointer (some ⟨b3, 0, none⟩) :: t4 :: t5 :: t6 :: t7 :: t8 :: t9 :: t10 :: x11 :: x12 :: x13 :: x14 :: x15 :: x16 :: x17 :: x18 :: x19 :: x20 :: t21 :: t22 :: t23 :: t24 :: t25 :: t26 :: t27 :: t28 :: []), defers := [] } w')) (b6 : Nat) (w : World) (hB : But (fun k => slb v k ∨ k = p) V w) (hbl : But (slb v) V w) (hm0 : MineR ndR w lo v LL) (h1 : RowV ndR w w.heap.size (.slice (some ⟨b6, 0, none⟩) 1 1) [ndC x]) :
    wpAnyH Tryd.prog .any put2_ops (NoPanic Q) (fun w' => But (fun k => slb v k ∨ k = p) V w') 5 #[true, true, true, true, false, true, true, false, false, false, false] { tmps := List.toArray (.pointer (some ⟨p, 0, none⟩) :: t1 :: t2 :: .pointer (some ⟨b3, 0, none⟩) :: t4 :: t5 :: t6 :: t7 :: t8 :: t9 :: t10 :: .pointer (some ⟨p, 0, none⟩) :: .pointer (some ⟨p, 0, none⟩) :: .pointer (some ⟨p, 0, none⟩) :: .pointer (some ⟨p, 74, none⟩) :: t15 :: .agg (ndC x).1.toArray :: .slice (some ⟨b6, 0, none⟩) 1 1 :: t18 :: t19 :: t20 :: t21 :: t22 :: t23 :: t24 :: t25 :: t26 :: t27 :: t28 :: []), defers := [] } w := by
  refine wpAnyH_ready (rs := [4]) (by kernel_rfl) (by simp) ?_
  refine AllReadyH.cons rfl (fun K hK => ?_) ?_
  · refine sx_load rfl 74 ns_sz ns_ag (.tmp 14) rfl p 74 v rfl (by rw [hbl.cell (p := ⟨p, 74, none⟩) zp hnp]; exact HC74.out) ?_
    simp only [Act.put, List.setIfInBounds_toArray, List.set_cons_zero, List.set_cons_succ]
    have hB2 := hB
    refine hK.out _ _ hB2 (fun _ => ?_)
    show wpAnyH _ _ _ _ _ 4 #[true, true, true, true, true, true, true, false, false, false, false] { tmps := List.toArray (.pointer (some ⟨p, 0, none⟩) :: t1 :: t2 :: .pointer (some ⟨b3, 0, none⟩) :: t4 :: t5 :: t6 :: t7 :: t8 :: t9 :: t10 :: .pointer (some ⟨p, 0, none⟩) :: .pointer (some ⟨p, 0, none⟩) :: .pointer (some ⟨p, 0, none⟩) :: .pointer (some ⟨p, 74, none⟩) :: v :: .agg (ndC x).1.toArray :: .slice (some ⟨b6, 0, none⟩) 1 1 :: t18 :: t19 :: t20 :: t21 :: t22 :: t23 :: t24 :: t25 :: t26 :: t27 :: t28 :: []), defers := [] } _
    exact put2_4_6 p b3 lo v x LL V t1 t2 t4 t5 t6 t7 t8 t9 t10 t11 t12 t13 t14 t15 t16 t17 t18 t19 t20 t21 t22 t23 t24 t25 t26 t27 t28 Q zp z3 hnp hn3 hlo HC74 HF74 hx hrg HM hlt HQ _ _ hB2 (hbl) (hm0) (h1)
  exact AllReadyH.nil

set_option maxRecDepth 100000 in
set_option maxHeartbeats 4000000 in
theorem put2_4 (p b3 lo : Nat) (v : Value) (x : Nd) (LL : List N108) (V : World) (t1 t2 t4 t5 t6 t7 t8 t9 t10 t11 t12 t13 t14 t15 t16 t17 t18 t19 t20 t21 t22 t23 t24 t25 t26 t27 t28 : Value) (Q : Exit → Act → World → Prop) (zp : p < V.heap.size) (z3 : b3 < V.heap.size) (hnp : ¬ slb v p) (hn3 : ¬ (slb v b3 ∨ b3 = p)) (hlo : lo ≤ V.heap.size) (HC74 : Hid (V.cell? ⟨p, 74, none⟩ = some v)) (HF74 : Hid (V.frozen? ⟨p, 74, none⟩ = false)) (hx : IsHd x.h) (hrg : V.rangeAt b3 0 (ndC x).1) (HM : Hid (MineR ndR V lo v LL)) (hlt : LL.length + [ndC x].length ≤ 1500000) (HQ : Hid (∀ (x11 x12 x13 x14 x15 x16 x17 x18 x19 x20 : Value) (v7 : Value)  (w' : World), (∃ ww, w' = ww.setCell ⟨p, 74, none⟩ v7 ∧ But (slb v) V ww ∧ MineR ndR ww lo v7 (LL ++ [ndC x]) ∧ ∀ k, slb v7 k → slb v k ∨ V.heap.size ≤ k) → Q .normal { tmps := List.toArray (.pointer (some ⟨p, 0, none⟩) :: t1 :: t2 :: .pointer (some ⟨b3, 0, none⟩) :: t4 :: t5 :: t6 :: t7 :: t8 :: t9 :: t10 :: x11 :: x12 :: x13 :: x14 :: x15 :: x16 :: x17 :: x18 :: x19 :: x20 :: t21 :: t22 :: t23 :: t24 :: t25 :: t26 :: t27 :: t28 :: []), defers := [] } w')) (w : World) (hB : But (fun k => slb v k ∨ k = p) V w) (hbl : But (slb v) V w) (hm0 : MineR ndR w lo v LL) :
    wpAnyH Tryd.prog .any put2_ops (NoPanic Q) (fun w' => But (fun k => slb v k ∨ k = p) V w') 5 #[true, true, true, true, true, true, false, false, false, false, false] { tmps := List.toArray (.pointer (some ⟨p, 0, none⟩) :: t1 :: t2 :: .pointer (some ⟨b3, 0, none⟩) :: t4 :: t5 :: t6 :: t7 :: t8 :: t9 :: t10 :: .pointer (some ⟨p, 0, none⟩) :: .pointer (some ⟨p, 0, none⟩) :: .pointer (some ⟨p, 0, none⟩) :: .pointer (some ⟨p, 74, none⟩) :: v :: .agg (ndC x).1.toArray :: t17 :: t18 :: t19 :: t20 :: t21 :: t22 :: t23 :: t24 :: t25 :: t26 :: t27 :: t28 :: []), defers := [] } w := by
  refine wpAnyH_ready (rs := [6]) (by kernel_rfl) (by simp) ?_
  refine AllReadyH.cons rfl (fun K hK => ?_) ?_
  · refine sx_one ndR_ok (ndC x) (by decide) rfl (.tmp 16) rfl (.agg (ndC x).1.toArray) rfl rfl ?_
    simp only [Act.put, List.setIfInBounds_toArray, List.set_cons_zero, List.set_cons_succ]
    have hB2 := (But.alloc hB (.cells (ndR.c (ndC x)).toArray ndR.e))
    refine hK.out _ _ hB2 (fun _ => ?_)
    show wpAnyH _ _ _ _ _ 4 #[true, true, true, true, true, true, true, false, false, false, false] { tmps := List.toArray (.pointer (some ⟨p, 0, none⟩) :: t1 :: t2 :: .pointer (some ⟨b3, 0, none⟩) :: t4 :: t5 :: t6 :: t7 :: t8 :: t9 :: t10 :: .pointer (some ⟨p, 0, none⟩) :: .pointer (some ⟨p, 0, none⟩) :: .pointer (some ⟨p, 0, none⟩) :: .pointer (some ⟨p, 74, none⟩) :: v :: .agg (ndC x).1.toArray :: .slice (some ⟨w.heap.size, 0, none⟩) 1 1 :: t18 :: t19 :: t20 :: t21 :: t22 :: t23 :: t24 :: t25 :: t26 :: t27 :: t28 :: []), defers := [] } _
    exact put2_4_6 p b3 lo v x LL V t1 t2 t4 t5 t6 t7 t8 t9 t10 t11 t12 t13 t14 t15 t16 t17 t18 t19 t20 t21 t22 t23 t24 t25 t26 t27 t28 Q zp z3 hnp hn3 hlo HC74 HF74 hx hrg HM hlt HQ _ _ hB2 ((But.alloc hbl _)) ((hm0.keep ((Below.refl _ _).alloc (Nat.le_refl _) _))) ((ndC_one hx (Bk.new _ _ _)))
  exact AllReadyH.nil

set_option maxRecDepth 100000 in
set_option maxHeartbeats 4000000 in
theorem put2_o (p b3 lo : Nat) (v : Value) (x : Nd) (LL : List N108) (V : World) (t1 t2 t4 t5 t6 t7 t8 t9 t10 t11 t12 t13 t14 t15 t16 t17 t18 t19 t20 t21 t22 t23 t24 t25 t26 t27 t28 : Value) (Q : Exit → Act → World → Prop) (zp : p < V.heap.size) (z3 : b3 < V.heap.size) (hnp : ¬ slb v p) (hn3 : ¬ (slb v b3 ∨ b3 = p)) (hlo : lo ≤ V.heap.size) (HC74 : Hid (V.cell? ⟨p, 74, none⟩ = some v)) (HF74 : Hid (V.frozen? ⟨p, 74, none⟩ = false)) (hx : IsHd x.h) (hrg : V.rangeAt b3 0 (ndC x).1) (HM : Hid (MineR ndR V lo v LL)) (hlt : LL.length + [ndC x].length ≤ 1500000) (HQ : Hid (∀ (x11 x12 x13 x14 x15 x16 x17 x18 x19 x20 : Value) (v7 : Value)  (w' : World), (∃ ww, w' = ww.setCell ⟨p, 74, none⟩ v7 ∧ But (slb v) V ww ∧ MineR ndR ww lo v7 (LL ++ [ndC x]) ∧ ∀ k, slb v7 k → slb v k ∨ V.heap.size ≤ k) → Q .normal { tmps := List.toArray (.pointer (some ⟨p, 0, none⟩) :: t1 :: t2 :: .pointer (some ⟨b3, 0, none⟩) :: t4 :: t5 :: t6 :: t7 :: t8 :: t9 :: t10 :: x11 :: x12 :: x13 :: x14 :: x15 :: x16 :: x17 :: x18 :: x19 :: x20 :: t21 :: t22 :: t23 :: t24 :: t25 :: t26 :: t27 :: t28 :: []), defers := [] } w')) (w : World) (hB : But (fun k => slb v k ∨ k = p) V w) (hbl : But (slb v) V w) (hm0 : MineR ndR w lo v LL) :
    wpAnyH Tryd.prog .any put2_ops (NoPanic Q) (fun w' => But (fun k => slb v k ∨ k = p) V w') 6 #[true, true, true, true, false, true, false, false, false, false, false] { tmps := List.toArray (.pointer (some ⟨p, 0, none⟩) :: t1 :: t2 :: .pointer (some ⟨b3, 0, none⟩) :: t4 :: t5 :: t6 :: t7 :: t8 :: t9 :: t10 :: .pointer (some ⟨p, 0, none⟩) :: .pointer (some ⟨p, 0, none⟩) :: .pointer (some ⟨p, 0, none⟩) :: .pointer (some ⟨p, 74, none⟩) :: t15 :: .agg (ndC x).1.toArray :: t17 :: t18 :: t19 :: t20 :: t21 :: t22 :: t23 :: t24 :: t25 :: t26 :: t27 :: t28 :: []), defers := [] } w := by
  refine wpAnyH_ready (rs := [4, 6]) (by kernel_rfl) (by simp) ?_
  refine AllReadyH.cons rfl (fun K hK => ?_) ?_
  · refine sx_load rfl 74 ns_sz ns_ag (.tmp 14) rfl p 74 v rfl (by rw [hbl.cell (p := ⟨p, 74, none⟩) zp hnp]; exact HC74.out) ?_
    simp only [Act.put, List.setIfInBounds_toArray, List.set_cons_zero, List.set_cons_succ]
    have hB2 := hB
    refine hK.out _ _ hB2 (fun _ => ?_)
    show wpAnyH _ _ _ _ _ 5 #[true, true, true, true, true, true, false, false, false, false, false] { tmps := List.toArray (.pointer (some ⟨p, 0, none⟩) :: t1 :: t2 :: .pointer (some ⟨b3, 0, none⟩) :: t4 :: t5 :: t6 :: t7 :: t8 :: t9 :: t10 :: .pointer (some ⟨p, 0, none⟩) :: .pointer (some ⟨p, 0, none⟩) :: .pointer (some ⟨p, 0, none⟩) :: .pointer (some ⟨p, 74, none⟩) :: v :: .agg (ndC x).1.toArray :: t17 :: t18 :: t19 :: t20 :: t21 :: t22 :: t23 :: t24 :: t25 :: t26 :: t27 :: t28 :: []), defers := [] } _
    exact put2_4 p b3 lo v x LL V t1 t2 t4 t5 t6 t7 t8 t9 t10 t11 t12 t13 t14 t15 t16 t17 t18 t19 t20 t21 t22 t23 t24 t25 t26 t27 t28 Q zp z3 hnp hn3 hlo HC74 HF74 hx hrg HM hlt HQ _ hB2 (hbl) (hm0)
  refine AllReadyH.cons rfl (fun K hK => ?_) ?_
  · refine sx_one ndR_ok (ndC x) (by decide) rfl (.tmp 16) rfl (.agg (ndC x).1.toArray) rfl rfl ?_
    simp only [Act.put, List.setIfInBounds_toArray, List.set_cons_zero, List.set_cons_succ]
    have hB2 := (But.alloc hB (.cells (ndR.c (ndC x)).toArray ndR.e))
    refine hK.out _ _ hB2 (fun _ => ?_)
    show wpAnyH _ _ _ _ _ 5 #[true, true, true, true, false, true, true, false, false, false, false] { tmps := List.toArray (.pointer (some ⟨p, 0, none⟩) :: t1 :: t2 :: .pointer (some ⟨b3, 0, none⟩) :: t4 :: t5 :: t6 :: t7 :: t8 :: t9 :: t10 :: .pointer (some ⟨p, 0, none⟩) :: .pointer (some ⟨p, 0, none⟩) :: .pointer (some ⟨p, 0, none⟩) :: .pointer (some ⟨p, 74, none⟩) :: t15 :: .agg (ndC x).1.toArray :: .slice (some ⟨w.heap.size, 0, none⟩) 1 1 :: t18 :: t19 :: t20 :: t21 :: t22 :: t23 :: t24 :: t25 :: t26 :: t27 :: t28 :: []), defers := [] } _
    exact put2_6 p b3 lo v x LL V t1 t2 t4 t5 t6 t7 t8 t9 t10 t11 t12 t13 t14 t15 t16 t17 t18 t19 t20 t21 t22 t23 t24 t25 t26 t27 t28 Q zp z3 hnp hn3 hlo HC74 HF74 hx hrg HM hlt HQ _ _ hB2 ((But.alloc hbl _)) ((hm0.keep ((Below.refl _ _).alloc (Nat.le_refl _) _))) ((ndC_one hx (Bk.new _ _ _)))
  exact AllReadyH.nil

set_option maxRecDepth 100000 in
set_option maxHeartbeats 4000000 in
theorem put2 (p b3 lo : Nat) (v : Value) (x : Nd) (LL : List N108) (V : World) (t1 t2 t4 t5 t6 t7 t8 t9 t10 t11 t12 t13 t14 t15 t16 t17 t18 t19 t20 t21 t22 t23 t24 t25 t26 t27 t28 : Value) (Q : Exit → Act → World → Prop) (zp : p < V.heap.size) (z3 : b3 < V.heap.size) (hnp : ¬ slb v p) (hn3 : ¬ (slb v b3 ∨ b3 = p)) (hlo : lo ≤ V.heap.size) (HC74 : Hid (V.cell? ⟨p, 74, none⟩ = some v)) (HF74 : Hid (V.frozen? ⟨p, 74, none⟩ = false)) (hx : IsHd x.h) (hrg : V.rangeAt b3 0 (ndC x).1) (HM : Hid (MineR ndR V lo v LL)) (hlt : LL.length + [ndC x].length ≤ 1500000) (HQ : Hid (∀ (x11 x12 x13 x14 x15 x16 x17 x18 x19 x20 : Value) (v7 : Value)  (w' : World), (∃ ww, w' = ww.setCell ⟨p, 74, none⟩ v7 ∧ But (slb v) V ww ∧ MineR ndR ww lo v7 (LL ++ [ndC x]) ∧ ∀ k, slb v7 k → slb v k ∨ V.heap.size ≤ k) → Q .normal { tmps := List.toArray (.pointer (some ⟨p, 0, none⟩) :: t1 :: t2 :: .pointer (some ⟨b3, 0, none⟩) :: t4 :: t5 :: t6 :: t7 :: t8 :: t9 :: t10 :: x11 :: x12 :: x13 :: x14 :: x15 :: x16 :: x17 :: x18 :: x19 :: x20 :: t21 :: t22 :: t23 :: t24 :: t25 :: t26 :: t27 :: t28 :: []), defers := [] } w')) :
    Code.wp Tryd.prog (Code.region 2 #[{ dst := some 11, op := Op.move (Operand.tmp 0), type := 24, pos := "index.go:201", after := #[], guard := none },
{ dst := some 12, op := Op.move (Operand.tmp 0), type := 24, pos := "index.go:201", after := #[], guard := none },
{ dst := some 13, op := Op.nilCheck (Operand.tmp 12), type := 0, pos := "index.go:201", after := #[{ on := 1, ground := Ground.data }], guard := none },
{ dst := some 14, op := Op.fieldAddr 76 (Operand.tmp 13) 1, type := 0, pos := "index.go:201", after := #[{ on := 2, ground := Ground.data }], guard := none },
{ dst := some 15, op := Op.load 74 (Operand.tmp 14), type := 74, pos := "index.go:201", after := #[{ on := 3, ground := Ground.data }], guard := none },
{ dst := some 16, op := Op.load 45 (Operand.tmp 3), type := 45, pos := "index.go:201", after := #[], guard := none },
{ dst := some 17, op := Op.buildSlice 74 1 #[(0, Operand.tmp 16)], type := 74, pos := "index.go:201", after := #[{ on := 5, ground := Ground.data }], guard := none },
{ dst := some 18, op := Op.call { callee := Callee.builtin Builtin.append, args := #[Operand.tmp 15, Operand.tmp 17], argTypes := #[74, 74] }, type := 74, pos := "index.go:201", after := #[{ on := 4, ground := Ground.data }, { on := 6, ground := Ground.data }], guard := none },
{ dst := some 19, op := Op.nilCheck (Operand.tmp 11), type := 0, pos := "index.go:201", after := #[{ on := 0, ground := Ground.data }, { on := 0, ground := Ground.phase }, { on := 1, ground := Ground.phase }, { on := 2, ground := Ground.phase }, { on := 3, ground := Ground.phase }, { on := 4, ground := Ground.phase }, { on := 5, ground := Ground.phase }, { on := 6, ground := Ground.phase }, { on := 7, ground := Ground.phase }], guard := none },
{ dst := some 20, op := Op.fieldAddr 76 (Operand.tmp 19) 1, type := 0, pos := "index.go:201", after := #[{ on := 8, ground := Ground.data }, { on := 0, ground := Ground.phase }, { on := 1, ground := Ground.phase }, { on := 2, ground := Ground.phase }, { on := 3, ground := Ground.phase }, { on := 4, ground := Ground.phase }, { on := 5, ground := Ground.phase }, { on := 6, ground := Ground.phase }, { on := 7, ground := Ground.phase }], guard := none },
{ dst := none, op := Op.store 74 (Operand.tmp 20) (Operand.tmp 18), type := 0, pos := "index.go:201", after := #[{ on := 9, ground := Ground.data }, { on := 7, ground := Ground.data }, { on := 7, ground := Ground.chain }, { on := 0, ground := Ground.phase }, { on := 1, ground := Ground.phase }, { on := 2, ground := Ground.phase }, { on := 3, ground := Ground.phase }, { on := 4, ground := Ground.phase }, { on := 5, ground := Ground.phase }, { on := 6, ground := Ground.phase }, { on := 7, ground := Ground.phase }], guard := none }] true) Q { tmps := List.toArray (.pointer (some ⟨p, 0, none⟩) :: t1 :: t2 :: .pointer (some ⟨b3, 0, none⟩) :: t4 :: t5 :: t6 :: t7 :: t8 :: t9 :: t10 :: t11 :: t12 :: t13 :: t14 :: t15 :: t16 :: t17 :: t18 :: t19 :: t20 :: t21 :: t22 :: t23 :: t24 :: t25 :: t26 :: t27 :: t28 :: []), defers := [] } V := by
  refine wp_region_noPanic ?_
  refine wp_region_held_drew (S := (fun w' => But (fun k => slb v k ∨ k = p) V w')) (by kernel_rfl) ((But.refl _ V).drew) (fun hHeld => ?_)
  have hB : But (fun k => slb v k ∨ k = p) V V.drew := ((But.refl _ V).drew)
  show wpAnyH _ _ put2_ops _ _ 11 _ _ _
  refine wpAnyH_take (i := 0) (oi := { dst := some 11, op := Op.move (Operand.tmp 0), type := 24, pos := "index.go:201", after := #[], guard := none }) (v := .pointer (some ⟨p, 0, none⟩)) rfl (by kernel_rfl) (by kernel_rfl) (by kernel_rfl) (fun _ _ _ h => h) ?_ hB ?_
  · (refine Or.inl ⟨by kernel_rfl, ?_⟩; intro w hSw; go_simp)
  simp only [Act.put, List.setIfInBounds_toArray, List.set_cons_zero, List.set_cons_succ]
  refine wpAnyH_take (i := 1) (oi := { dst := some 12, op := Op.move (Operand.tmp 0), type := 24, pos := "index.go:201", after := #[], guard := none }) (v := .pointer (some ⟨p, 0, none⟩)) rfl (by kernel_rfl) (by kernel_rfl) (by kernel_rfl) (fun _ _ _ h => h) ?_ hB ?_
  · (refine Or.inl ⟨by kernel_rfl, ?_⟩; intro w hSw; go_simp)
  simp only [Act.put, List.setIfInBounds_toArray, List.set_cons_zero, List.set_cons_succ]
  refine wpAnyH_take (i := 2) (oi := { dst := some 13, op := Op.nilCheck (Operand.tmp 12), type := 0, pos := "index.go:201", after := #[{ on := 1, ground := Ground.data }], guard := none }) (v := .pointer (some ⟨p, 0, none⟩)) rfl (by kernel_rfl) (by kernel_rfl) (by kernel_rfl) (fun _ _ _ h => h) ?_ hB ?_
  · (refine Or.inl ⟨by kernel_rfl, ?_⟩; intro w hSw; have hzp := Nat.lt_of_lt_of_le zp hSw.size; go_simp)
  simp only [Act.put, List.setIfInBounds_toArray, List.set_cons_zero, List.set_cons_succ]
  refine wpAnyH_take (i := 3) (oi := { dst := some 14, op := Op.fieldAddr 76 (Operand.tmp 13) 1, type := 0, pos := "index.go:201", after := #[{ on := 2, ground := Ground.data }], guard := none }) (v := .pointer (some ⟨p, 74, none⟩)) rfl (by kernel_rfl) (by kernel_rfl) (by kernel_rfl) (fun _ _ _ h => h) ?_ hB ?_
  · (refine Or.inl ⟨by kernel_rfl, ?_⟩; intro w hSw; have hzp := Nat.lt_of_lt_of_le zp hSw.size; go_simp)
  simp only [Act.put, List.setIfInBounds_toArray, List.set_cons_zero, List.set_cons_succ]
  refine wpAnyH_take (i := 5) (oi := { dst := some 16, op := Op.load 45 (Operand.tmp 3), type := 45, pos := "index.go:201", after := #[], guard := none }) (v := .agg (ndC x).1.toArray) rfl (by kernel_rfl) (by kernel_rfl) (by kernel_rfl) (fun _ _ _ h => h) ?_ hB ?_
  · (exact yieldsIf_load_mid (by kernel_rfl) 45 (.tmp 3) rfl b3 0 rfl (ndC x).1 _ (fun w hSw => fun j u hu => (hSw.cell (p := ⟨b3, 0 + j, none⟩) z3 hn3).trans (hrg j u hu)) Tryd.underlying45 rfl (row_size ndR_ok (ndC x)))
  simp only [Act.put, List.setIfInBounds_toArray, List.set_cons_zero, List.set_cons_succ]
  exact put2_o p b3 lo v x LL V t1 t2 t4 t5 t6 t7 t8 t9 t10 t11 t12 t13 t14 t15 t16 t17 t18 t19 t20 t21 t22 t23 t24 t25 t26 t27 t28 Q zp z3 hnp hn3 hlo HC74 HF74 hx hrg HM hlt HQ _ hB (((But.refl _ V).drew)) ((HM.out.keep (Below.refl _ _).drew))
theorem id_sizeX (x : I32) : (Tryd.prog.info? 30).map (·.size) = some (idL x).length := by rw [idL_len]; kernel_rfl
set_option maxRecDepth 100000 in
set_option maxHeartbeats 16000000 in
theorem put3 (p b3 m : Nat) (N : Int) (y : I32) (G : World → Prop) (V : World) (t1 t2 t4 t6 t7 t8 t9 t10 t11 t12 t13 t14 t15 t16 t17 t18 t19 t20 t21 t22 t23 t24 t25 t26 t27 t28 : Value) (Q : Exit → Act → World → Prop) (zp : p < V.heap.size) (z3 : b3 < V.heap.size) (hpm : ¬ p = m) (h3m : ¬ b3 = m) (HC75 : Hid (V.cell? ⟨p, 75, none⟩ = some (.map (some m)))) (hrg : V.rangeAt b3 68 (idL y)) (HUP : Hid (∃ w', (Instr.mapUpdate 73 (.map (some m)) (.agg (idL y).toArray) (.int .i64 N)).run Tryd.prog V.drew = .ok () w' ∧ G w' ∧ But (fun k => k = m) V.drew w')) (HQ : Hid (∀ (x21 x22 x23 x24 x25 x26 x27 : Value)  (w' : World), But (fun k => k = m) V w' → G w' → Q .normal { tmps := List.toArray (.pointer (some ⟨p, 0, none⟩) :: t1 :: t2 :: .pointer (some ⟨b3, 0, none⟩) :: t4 :: .int .i64 N :: t6 :: t7 :: t8 :: t9 :: t10 :: t11 :: t12 :: t13 :: t14 :: t15 :: t16 :: t17 :: t18 :: t19 :: t20 :: x21 :: x22 :: x23 :: x24 :: x25 :: x26 :: x27 :: t28 :: []), defers := [] } w')) :
    Code.wp Tryd.prog (Code.region 3 #[{ dst := some 21, op := Op.move (Operand.tmp 0), type := 24, pos := "index.go:202", after := #[], guard := none },
{ dst := some 22, op := Op.nilCheck (Operand.tmp 21), type := 0, pos := "index.go:202", after := #[{ on := 0, ground := Ground.data }], guard := none },
{ dst := some 23, op := Op.fieldAddr 76 (Operand.tmp 22) 2, type := 0, pos := "index.go:202", after := #[{ on := 1, ground := Ground.data }], guard := none },
{ dst := some 24, op := Op.load 73 (Operand.tmp 23), type := 73, pos := "index.go:202", after := #[{ on := 2, ground := Ground.data }], guard := none },
{ dst := some 25, op := Op.fieldAddr 45 (Operand.tmp 3) 1, type := 0, pos := "index.go:202", after := #[], guard := none },
{ dst := some 26, op := Op.load 30 (Operand.tmp 25), type := 30, pos := "index.go:202", after := #[{ on := 4, ground := Ground.data }], guard := none },
{ dst := some 27, op := Op.move (Operand.tmp 5), type := 3, pos := "index.go:202", after := #[], guard := none },
{ dst := none, op := Op.mapUpdate 73 (Operand.tmp 24) (Operand.tmp 26) (Operand.tmp 27), type := 0, pos := "index.go:202", after := #[{ on := 3, ground := Ground.data }, { on := 5, ground := Ground.data }, { on := 6, ground := Ground.data }, { on := 0, ground := Ground.phase }, { on := 1, ground := Ground.phase }, { on := 2, ground := Ground.phase }, { on := 3, ground := Ground.phase }, { on := 4, ground := Ground.phase }, { on := 5, ground := Ground.phase }, { on := 6, ground := Ground.phase }], guard := none }] true) Q { tmps := List.toArray (.pointer (some ⟨p, 0, none⟩) :: t1 :: t2 :: .pointer (some ⟨b3, 0, none⟩) :: t4 :: .int .i64 N :: t6 :: t7 :: t8 :: t9 :: t10 :: t11 :: t12 :: t13 :: t14 :: t15 :: t16 :: t17 :: t18 :: t19 :: t20 :: t21 :: t22 :: t23 :: t24 :: t25 :: t26 :: t27 :: t28 :: []), defers := [] } V := by
  refine wp_region_noPanic ?_
  refine wp_region_held_drew (S := (fun w' => But (fun k => k = m) V w')) (by kernel_rfl) ((But.refl _ V).drew) (fun hHeld => ?_)
  have hB : But (fun k => k = m) V V.drew := ((But.refl _ V).drew)
  show wpAnyH _ _ _ _ _ 8 _ _ _
  refine wpAnyH_take (i := 0) (oi := { dst := some 21, op := Op.move (Operand.tmp 0), type := 24, pos := "index.go:202", after := #[], guard := none }) (v := .pointer (some ⟨p, 0, none⟩)) rfl (by kernel_rfl) (by kernel_rfl) (by kernel_rfl) (fun _ _ _ h => h) ?_ hB ?_
  · (refine Or.inl ⟨by kernel_rfl, ?_⟩; intro w hSw; go_simp)
  simp only [Act.put, List.setIfInBounds_toArray, List.set_cons_zero, List.set_cons_succ]
  refine wpAnyH_take (i := 1) (oi := { dst := some 22, op := Op.nilCheck (Operand.tmp 21), type := 0, pos := "index.go:202", after := #[{ on := 0, ground := Ground.data }], guard := none }) (v := .pointer (some ⟨p, 0, none⟩)) rfl (by kernel_rfl) (by kernel_rfl) (by kernel_rfl) (fun _ _ _ h => h) ?_ hB ?_
  · (refine Or.inl ⟨by kernel_rfl, ?_⟩; intro w hSw; have hzp := Nat.lt_of_lt_of_le zp hSw.size; go_simp)
  simp only [Act.put, List.setIfInBounds_toArray, List.set_cons_zero, List.set_cons_succ]
  refine wpAnyH_take (i := 2) (oi := { dst := some 23, op := Op.fieldAddr 76 (Operand.tmp 22) 2, type := 0, pos := "index.go:202", after := #[{ on := 1, ground := Ground.data }], guard := none }) (v := .pointer (some ⟨p, 75, none⟩)) rfl (by kernel_rfl) (by kernel_rfl) (by kernel_rfl) (fun _ _ _ h => h) ?_ hB ?_
  · (refine Or.inl ⟨by kernel_rfl, ?_⟩; intro w hSw; have hzp := Nat.lt_of_lt_of_le zp hSw.size; go_simp)
  simp only [Act.put, List.setIfInBounds_toArray, List.set_cons_zero, List.set_cons_succ]
  refine wpAnyH_take (i := 3) (oi := { dst := some 24, op := Op.load 73 (Operand.tmp 23), type := 73, pos := "index.go:202", after := #[{ on := 2, ground := Ground.data }], guard := none }) (v := .map (some m)) rfl (by kernel_rfl) (by kernel_rfl) (by kernel_rfl) (fun _ _ _ h => h) ?_ hB ?_
  · (refine Or.inl ⟨by kernel_rfl, ?_⟩; intro w hSw; have hzp := Nat.lt_of_lt_of_le zp hSw.size; have c75 := (hSw.cell (p := ⟨p, 75, none⟩) zp hpm).trans HC75.out; go_simp)
  simp only [Act.put, List.setIfInBounds_toArray, List.set_cons_zero, List.set_cons_succ]
  refine wpAnyH_take (i := 4) (oi := { dst := some 25, op := Op.fieldAddr 45 (Operand.tmp 3) 1, type := 0, pos := "index.go:202", after := #[], guard := none }) (v := .pointer (some ⟨b3, 68, none⟩)) rfl (by kernel_rfl) (by kernel_rfl) (by kernel_rfl) (fun _ _ _ h => h) ?_ hB ?_
  · (refine Or.inl ⟨by kernel_rfl, ?_⟩; intro w hSw; have hz3 := Nat.lt_of_lt_of_le z3 hSw.size; go_simp)
  simp only [Act.put, List.setIfInBounds_toArray, List.set_cons_zero, List.set_cons_succ]
  refine wpAnyH_take (i := 5) (oi := { dst := some 26, op := Op.load 30 (Operand.tmp 25), type := 30, pos := "index.go:202", after := #[{ on := 4, ground := Ground.data }], guard := none }) (v := .agg (idL y).toArray) rfl (by kernel_rfl) (by kernel_rfl) (by kernel_rfl) (fun _ _ _ h => h) ?_ hB ?_
  · (exact yieldsIf_load_mid (by kernel_rfl) 30 (.tmp 25) rfl b3 68 rfl (idL y) _ (fun w hSw => fun j u hu => (hSw.cell (p := ⟨b3, 68 + j, none⟩) z3 h3m).trans (hrg j u hu)) Tryd.underlying30 rfl (id_sizeX y))
  simp only [Act.put, List.setIfInBounds_toArray, List.set_cons_zero, List.set_cons_succ]
  refine wpAnyH_take (i := 6) (oi := { dst := some 27, op := Op.move (Operand.tmp 5), type := 3, pos := "index.go:202", after := #[], guard := none }) (v := .int .i64 N) rfl (by kernel_rfl) (by kernel_rfl) (by kernel_rfl) (fun _ _ _ h => h) ?_ hB ?_
  · (refine Or.inl ⟨by kernel_rfl, ?_⟩; intro w hSw; go_simp)
  simp only [Act.put, List.setIfInBounds_toArray, List.set_cons_zero, List.set_cons_succ]
  refine wpAnyH_ready (rs := [7]) (by kernel_rfl) (by simp) ?_
  refine AllReadyH.cons rfl (fun K hK => ?_) AllReadyH.nil
  obtain ⟨w7, hr7, hg7, hb7⟩ := HUP.out
  refine sx_mu rfl (.tmp 24) (.tmp 26) (.tmp 27) 73 rfl rfl rfl rfl hr7 ?_
  simp only [Act.put, List.setIfInBounds_toArray, List.set_cons_zero, List.set_cons_succ]
  have hB2 := (hB.trans hb7 (fun _ _ h => h))
  refine hK.out _ _ hB2 (fun _ => ?_)
  have hend := hg7
  show wpAnyH _ _ _ _ _ 0 #[true, true, true, true, true, true, true, true] { tmps := List.toArray (.pointer (some ⟨p, 0, none⟩) :: t1 :: t2 :: .pointer (some ⟨b3, 0, none⟩) :: t4 :: .int .i64 N :: t6 :: t7 :: t8 :: t9 :: t10 :: t11 :: t12 :: t13 :: t14 :: t15 :: t16 :: t17 :: t18 :: t19 :: t20 :: .pointer (some ⟨p, 0, none⟩) :: .pointer (some ⟨p, 0, none⟩) :: .pointer (some ⟨p, 75, none⟩) :: .map (some m) :: .pointer (some ⟨b3, 68, none⟩) :: .agg (idL y).toArray :: .int .i64 N :: t28 :: []), defers := [] } _
  clear hB hK K
  have hB := hB2
  clear hB2
  refine wpAnyH_done (by kernel_rfl) ?_ _
  refine NoPanic.normal ?_
  have hEnd := HQ.out (.pointer (some ⟨p, 0, none⟩)) (.pointer (some ⟨p, 0, none⟩)) (.pointer (some ⟨p, 75, none⟩)) (.map (some m)) (.pointer (some ⟨b3, 68, none⟩)) (.agg (idL y).toArray) (.int .i64 N) _ hB hend
  exact hEnd

end Go.Proofs.YtljfhabhenaapaaDoor
