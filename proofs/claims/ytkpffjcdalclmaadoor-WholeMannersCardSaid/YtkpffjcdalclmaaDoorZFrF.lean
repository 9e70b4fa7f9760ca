/- Regions of package frame: whether a feed's frame is whole, whether its head may be. -/
import Derived.Test.YtkpffjcdalclmaaDoorZFrW
import Derived.Deep.RegionHeld
import Derived.Laws.Cover3
import Derived.Test.YtkpffjcdalclmaaDoorZFrE
namespace Go.Proofs.YtkpffjcdalclmaaDoor
open Go.RowKit
set_option linter.unusedVariables false
set_option linter.unusedSimpArgs false
set_option maxRecDepth 100000
theorem step_callG {ops : Array Oper} {o : Oper} {a : Act} {w : World} {K : Act → World → Prop} {Q : Exit → Act → World → Prop} {E : Prop} (hw : Region.wanted o (yielded ops a.tmps) = true) (f : FuncId) (args : Array Value) (v : Value)
    (hc : Calls Tryd.prog f args w fun e w' => e = .returned v ∧ Below w.heap.size w w') (hrun : (execOp a.eval o).run Tryd.prog w = .ok (.enter f args) w)
    (hK : ∀ w', Below w.heap.size w w' → K (a.put o.dst v) w') :
    if Region.wanted o (yielded ops a.tmps) = true then Oper.wp Tryd.prog o a w K Q else E := by
  rw [if_pos hw]
  unfold Oper.wp
  rw [hrun, Oper.upon_enter]
  refine hc.mono ?_
  rintro e w' ⟨rfl, hb⟩
  exact hK _ hb
theorem arr_neq (ty : TypeId) (n : Nat) (x y : List Nat) (hx : x.length = n) (hy : y.length = n) (h1 : Tryd.prog.underlying ty = some (.array n 5)) (w : World)
    (hq : ∀ (f g : Nat → Int), (∀ i, i < n → (idA x)[i]? = some (.int .u8 (f i)) ∧ (idA y)[i]? = some (.int .u8 (g i))) → (Op.equalIn 10000 ty (.agg (idA x)) (.agg (idA y))).run Tryd.prog w = .ok ((List.range n).all fun i => f i == g i) w) :
    (binOp .neq ty (.agg (idA x)) (.agg (idA y))).run Tryd.prog w = .ok (.bool (!decide (x = y))) w := by
  have h := hq (fun i => ((x.getD i 0 : Nat) : Int)) (fun i => ((y.getD i 0 : Nat) : Int)) (fun i hi => ⟨idA_get x i (by omega), idA_get y i (by omega)⟩)
  have e0 : ((List.range n).all fun i => ((x.getD i 0 : Nat) : Int) == ((y.getD i 0 : Nat) : Int)) = decide (x = y) := by
    by_cases e : x = y
    · subst e
      simp
    · rw [decide_eq_false e, Bool.eq_false_iff]
      intro hq
      apply e
      apply List.ext_getElem (by omega)
      intro i h1 h2
      rw [List.all_eq_true] at hq
      have h3 := hq i (by simp; omega)
      have h4 : ((x.getD i 0 : Nat) : Int) = ((y.getD i 0 : Nat) : Int) := by simpa using h3
      have h5 : x.getD i 0 = y.getD i 0 := by omega
      rw [List.getD, List.getD, List.getElem?_eq_getElem h1, List.getElem?_eq_getElem h2] at h5
      exact h5
  rw [e0] at h
  show (Op.equal ty (.agg (idA x)) (.agg (idA y)) >>= fun b => pure (Value.bool (!b))).run Tryd.prog w = _
  rw [Sem.run_bind]
  show ((Op.equalIn 10000 ty (.agg (idA x)) (.agg (idA y))).run Tryd.prog w).andThen _ = _
  rw [h]
  rfl
theorem a12_neq (x y : List Nat) (hx : x.length = 12) (hy : y.length = 12) (w : World) : (binOp .neq 133 (.agg (idA x)) (.agg (idA y))).run Tryd.prog w = .ok (.bool (!decide (x = y))) w :=
  arr_neq 133 12 x y hx hy Tryd.underlying133 w (fun f g h => run_equalIn_arr (P := Tryd.prog) w 9998 133 5 12 .u8 (idA x) (idA y) f g (by kernel_rfl) (by kernel_rfl) (by kernel_rfl) h)
theorem a4_neq (x y : List Nat) (hx : x.length = 4) (hy : y.length = 4) (w : World) : (binOp .neq 135 (.agg (idA x)) (.agg (idA y))).run Tryd.prog w = .ok (.bool (!decide (x = y))) w :=
  arr_neq 135 4 x y hx hy Tryd.underlying135 w (fun f g h => run_equalIn_arr (P := Tryd.prog) w 9998 135 5 4 .u8 (idA x) (idA y) f g (by kernel_rfl) (by kernel_rfl) (by kernel_rfl) h)
theorem a12_guard (x y : Array Value) (op : BinOp) (a b : Operand) (w : World) : (eqGuard op 133 a b (.agg x) (.agg y)).run Tryd.prog w = .ok () w :=
  run_eqGuard_agg (P := Tryd.prog) w op 133 a b x y (by kernel_rfl)
theorem a4_guard (x y : Array Value) (op : BinOp) (a b : Operand) (w : World) : (eqGuard op 135 a b (.agg x) (.agg y)).run Tryd.prog w = .ok () w :=
  run_eqGuard_agg (P := Tryd.prog) w op 135 a b x y (by kernel_rfl)
set_option maxRecDepth 100000 in
set_option maxHeartbeats 16000000 in
theorem wholeL {FT : TypeId} {FR : Array Value} {fo : Nat} [hfd : FdOk FT FR fo] (p n c e : Nat) (s : Option Addr) (V : World) (t1 t2 t3 t4 t5 t6 t7 t8 t9 t10 t11 t12 t13 t14 t15 t16 t17 t18 t19 t20 : Value) (Q : Exit → Act → World → Prop) (HP : Hid (Bk V p FT (fdA FR fo (.slice s n c) (.int .i64 (e : Int))))) (h24 : decide ((24 : Int) ≤ (n : Int)) = false) (HQ : Hid (∀ (x3 x4 x5 x6 x7 x8 x9 x10 x11 x12 x13 x14 x15 x16 x17 x18 x19 x20 : Value)  (w' : World), Below V.heap.size V w' → Q .normal { tmps := List.toArray (.pointer (some ⟨p, fo, none⟩) :: t1 :: .bool false :: x3 :: x4 :: x5 :: x6 :: x7 :: x8 :: x9 :: x10 :: x11 :: x12 :: x13 :: x14 :: x15 :: x16 :: x17 :: x18 :: x19 :: x20 :: []), defers := [] } w')) :
    Code.wp Tryd.prog (Code.region 1 #[{ dst := some 3, op := Op.move (Operand.tmp 0), type := 102, pos := "frame.go:135", after := #[], guard := none },
{ dst := some 4, op := Op.nilCheck (Operand.tmp 3), type := 0, pos := "frame.go:135", after := #[{ on := 0, ground := Ground.data }], guard := none },
{ dst := some 5, op := Op.fieldAddr 35 (Operand.tmp 4) 0, type := 0, pos := "frame.go:135", after := #[{ on := 1, ground := Ground.data }], guard := none },
{ dst := some 6, op := Op.load 32 (Operand.tmp 5), type := 32, pos := "frame.go:135", after := #[{ on := 2, ground := Ground.data }], guard := none },
{ dst := some 7, op := Op.call { callee := Callee.builtin Builtin.len, args := #[Operand.tmp 6], argTypes := #[32] }, type := 3, pos := "frame.go:135", after := #[{ on := 3, ground := Ground.data }], guard := none },
{ dst := some 8, op := Op.binOp BinOp.geq 3 (Operand.tmp 7) (Operand.const (Value.int IntKind.i64 24)) 3, type := 4, pos := "frame.go:135", after := #[{ on := 4, ground := Ground.data }], guard := none },
{ dst := some 9, op := Op.move (Operand.tmp 8), type := 4, pos := "frame.go:135", after := #[{ on := 5, ground := Ground.data }], guard := none },
{ dst := some 10, op := Op.move (Operand.tmp 0), type := 102, pos := "frame.go:135", after := #[{ on := 6, ground := Ground.guard }], guard := some (6, true) },
{ dst := some 11, op := Op.nilCheck (Operand.tmp 10), type := 0, pos := "frame.go:135", after := #[{ on := 7, ground := Ground.data }, { on := 6, ground := Ground.guard }], guard := some (6, true) },
{ dst := some 12, op := Op.fieldAddr 35 (Operand.tmp 11) 0, type := 0, pos := "frame.go:135", after := #[{ on := 8, ground := Ground.data }, { on := 6, ground := Ground.guard }], guard := some (6, true) },
{ dst := some 13, op := Op.load 32 (Operand.tmp 12), type := 32, pos := "frame.go:135", after := #[{ on := 9, ground := Ground.data }, { on := 6, ground := Ground.guard }], guard := some (6, true) },
{ dst := some 14, op := Op.call { callee := Callee.builtin Builtin.len, args := #[Operand.tmp 13], argTypes := #[32] }, type := 3, pos := "frame.go:135", after := #[{ on := 10, ground := Ground.data }, { on := 6, ground := Ground.guard }], guard := some (6, true) },
{ dst := some 15, op := Op.convert 3 22 (Operand.tmp 14), type := 22, pos := "frame.go:135", after := #[{ on := 11, ground := Ground.data }, { on := 6, ground := Ground.guard }], guard := some (6, true) },
{ dst := some 16, op := Op.move (Operand.tmp 0), type := 102, pos := "frame.go:135", after := #[{ on := 6, ground := Ground.guard }], guard := some (6, true) },
{ dst := some 17, op := Op.call { callee := Callee.value (Operand.func 73), args := #[Operand.tmp 16], argTypes := #[102] }, type := 22, pos := "frame.go:135", after := #[{ on := 13, ground := Ground.data }, { on := 6, ground := Ground.chain }, { on := 6, ground := Ground.guard }], guard := some (6, true) },
{ dst := some 18, op := Op.binOp BinOp.add 22 (Operand.const (Value.int IntKind.u64 24)) (Operand.tmp 17) 22, type := 22, pos := "frame.go:135", after := #[{ on := 14, ground := Ground.data }, { on := 6, ground := Ground.guard }], guard := some (6, true) },
{ dst := some 19, op := Op.binOp BinOp.eql 22 (Operand.tmp 15) (Operand.tmp 18) 22, type := 4, pos := "frame.go:135", after := #[{ on := 12, ground := Ground.data }, { on := 15, ground := Ground.data }, { on := 6, ground := Ground.guard }], guard := some (6, true) },
{ dst := some 20, op := Op.pick (Operand.tmp 9) (Operand.tmp 19) (Operand.const (Value.bool false)), type := 4, pos := "frame.go:135", after := #[{ on := 6, ground := Ground.data }, { on := 16, ground := Ground.data }], guard := none },
{ dst := some 2, op := Op.assign (Operand.tmp 20), type := 4, pos := "frame.go:135", after := #[{ on := 17, ground := Ground.data }, { on := 14, ground := Ground.chain }, { on := 0, ground := Ground.phase }, { on := 1, ground := Ground.phase }, { on := 2, ground := Ground.phase }, { on := 3, ground := Ground.phase }, { on := 4, ground := Ground.phase }, { on := 5, ground := Ground.phase }, { on := 6, ground := Ground.phase }, { on := 7, ground := Ground.phase }, { on := 8, ground := Ground.phase }, { on := 9, ground := Ground.phase }, { on := 10, ground := Ground.phase }, { on := 11, ground := Ground.phase }, { on := 12, ground := Ground.phase }, { on := 13, ground := Ground.phase }, { on := 14, ground := Ground.phase }, { on := 15, ground := Ground.phase }, { on := 16, ground := Ground.phase }, { on := 17, ground := Ground.phase }], guard := none }] true) Q { tmps := List.toArray (.pointer (some ⟨p, fo, none⟩) :: t1 :: t2 :: t3 :: t4 :: t5 :: t6 :: t7 :: t8 :: t9 :: t10 :: t11 :: t12 :: t13 :: t14 :: t15 :: t16 :: t17 :: t18 :: t19 :: t20 :: []), defers := [] } V := by
  refine wp_region_noPanic ?_
  refine wp_region_held_drew (S := (fun w' => Below V.heap.size V w')) (by kernel_rfl) ((Below.refl _ _).drew) (fun hHeld => ?_)
  have hB : Below V.heap.size V V.drew := ((Below.refl _ _).drew)
  show wpAnyH _ _ _ _ _ 19 _ _ _
  refine wpAnyH_take (i := 0) (oi := { dst := some 3, op := Op.move (Operand.tmp 0), type := 102, pos := "frame.go:135", after := #[], guard := none }) (v := .pointer (some ⟨p, fo, none⟩)) rfl (by kernel_rfl) (by kernel_rfl) (by kernel_rfl) (fun _ _ _ h => h) ?_ hB ?_
  · (refine Or.inl ⟨by kernel_rfl, ?_⟩; intro w hSw; go_simp)
  simp only [Act.put, List.setIfInBounds_toArray, List.set_cons_zero, List.set_cons_succ]
  refine wpAnyH_take (i := 1) (oi := { dst := some 4, op := Op.nilCheck (Operand.tmp 3), type := 0, pos := "frame.go:135", after := #[{ on := 0, ground := Ground.data }], guard := none }) (v := .pointer (some ⟨p, fo, none⟩)) rfl (by kernel_rfl) (by kernel_rfl) (by kernel_rfl) (fun _ _ _ h => h) ?_ hB ?_
  · (refine Or.inl ⟨by kernel_rfl, ?_⟩; intro w hSw; have h1 := (fd0 (Bk.below HP.out hSw HP.out.lt)); have h2 := (Bk.below HP.out hSw HP.out.lt).lt; go_simp)
  simp only [Act.put, List.setIfInBounds_toArray, List.set_cons_zero, List.set_cons_succ]
  refine wpAnyH_take (i := 2) (oi := { dst := some 5, op := Op.fieldAddr 35 (Operand.tmp 4) 0, type := 0, pos := "frame.go:135", after := #[{ on := 1, ground := Ground.data }], guard := none }) (v := .pointer (some ⟨p, fo, none⟩)) rfl (by kernel_rfl) (by kernel_rfl) (by kernel_rfl) (fun _ _ _ h => h) ?_ hB ?_
  · (refine Or.inl ⟨by kernel_rfl, ?_⟩; intro w hSw; have h1 := (fd0 (Bk.below HP.out hSw HP.out.lt)); have h2 := (Bk.below HP.out hSw HP.out.lt).lt; go_simp)
  simp only [Act.put, List.setIfInBounds_toArray, List.set_cons_zero, List.set_cons_succ]
  refine wpAnyH_take (i := 3) (oi := { dst := some 6, op := Op.load 32 (Operand.tmp 5), type := 32, pos := "frame.go:135", after := #[{ on := 2, ground := Ground.data }], guard := none }) (v := .slice s n c) rfl (by kernel_rfl) (by kernel_rfl) (by kernel_rfl) (fun _ _ _ h => h) ?_ hB ?_
  · (refine Or.inl ⟨by kernel_rfl, ?_⟩; intro w hSw; have h1 := (fd0 (Bk.below HP.out hSw HP.out.lt)); have h2 := (Bk.below HP.out hSw HP.out.lt).lt; go_simp)
  simp only [Act.put, List.setIfInBounds_toArray, List.set_cons_zero, List.set_cons_succ]
  refine wpAnyH_take (i := 4) (oi := { dst := some 7, op := Op.call { callee := Callee.builtin Builtin.len, args := #[Operand.tmp 6], argTypes := #[32] }, type := 3, pos := "frame.go:135", after := #[{ on := 3, ground := Ground.data }], guard := none }) (v := .int .i64 (n : Int)) rfl (by kernel_rfl) (by kernel_rfl) (by kernel_rfl) (fun _ _ _ h => h) ?_ hB ?_
  · (refine Or.inl ⟨by kernel_rfl, ?_⟩; intro w hSw; go_simp)
  simp only [Act.put, List.setIfInBounds_toArray, List.set_cons_zero, List.set_cons_succ]
  refine wpAnyH_take (i := 5) (oi := { dst := some 8, op := Op.binOp BinOp.geq 3 (Operand.tmp 7) (Operand.const (Value.int IntKind.i64 24)) 3, type := 4, pos := "frame.go:135", after := #[{ on := 4, ground := Ground.data }], guard := none }) (v := .bool false) rfl (by kernel_rfl) (by kernel_rfl) (by kernel_rfl) (fun _ _ _ h => h) ?_ hB ?_
  · (refine Or.inl ⟨by kernel_rfl, ?_⟩; intro w hSw; have h0 := h24; go_simp)
  simp only [Act.put, List.setIfInBounds_toArray, List.set_cons_zero, List.set_cons_succ]
  refine wpAnyH_take (i := 6) (oi := { dst := some 9, op := Op.move (Operand.tmp 8), type := 4, pos := "frame.go:135", after := #[{ on := 5, ground := Ground.data }], guard := none }) (v := .bool false) rfl (by kernel_rfl) (by kernel_rfl) (by kernel_rfl) (fun _ _ _ h => h) ?_ hB ?_
  · (refine Or.inl ⟨by kernel_rfl, ?_⟩; intro w hSw; go_simp)
  simp only [Act.put, List.setIfInBounds_toArray, List.set_cons_zero, List.set_cons_succ]
  refine wpAnyH_take (i := 7) (oi := { dst := some 10, op := Op.move (Operand.tmp 0), type := 102, pos := "frame.go:135", after := #[{ on := 6, ground := Ground.guard }], guard := some (6, true) }) (v := undef) rfl (by kernel_rfl) (by kernel_rfl) (by kernel_rfl) (fun _ _ _ h => h) ?_ hB ?_
  · (exact Or.inr ⟨by kernel_rfl, rfl⟩)
  simp only [Act.put, List.setIfInBounds_toArray, List.set_cons_zero, List.set_cons_succ]
  refine wpAnyH_take (i := 8) (oi := { dst := some 11, op := Op.nilCheck (Operand.tmp 10), type := 0, pos := "frame.go:135", after := #[{ on := 7, ground := Ground.data }, { on := 6, ground := Ground.guard }], guard := some (6, true) }) (v := undef) rfl (by kernel_rfl) (by kernel_rfl) (by kernel_rfl) (fun _ _ _ h => h) ?_ hB ?_
  · (exact Or.inr ⟨by kernel_rfl, rfl⟩)
  simp only [Act.put, List.setIfInBounds_toArray, List.set_cons_zero, List.set_cons_succ]
  refine wpAnyH_take (i := 9) (oi := { dst := some 12, op := Op.fieldAddr 35 (Operand.tmp 11) 0, type := 0, pos := "frame.go:135", after := #[{ on := 8, ground := Ground.data }, { on := 6, ground := Ground.guard }], guard := some (6, true) }) (v := undef) rfl (by kernel_rfl) (by kernel_rfl) (by kernel_rfl) (fun _ _ _ h => h) ?_ hB ?_
  · (exact Or.inr ⟨by kernel_rfl, rfl⟩)
  simp only [Act.put, List.setIfInBounds_toArray, List.set_cons_zero, List.set_cons_succ]
  refine wpAnyH_take (i := 10) (oi := { dst := some 13, op := Op.load 32 (Operand.tmp 12), type := 32, pos := "frame.go:135", after := #[{ on := 9, ground := Ground.data }, { on := 6, ground := Ground.guard }], guard := some (6, true) }) (v := undef) rfl (by kernel_rfl) (by kernel_rfl) (by kernel_rfl) (fun _ _ _ h => h) ?_ hB ?_
  · (exact Or.inr ⟨by kernel_rfl, rfl⟩)
  simp only [Act.put, List.setIfInBounds_toArray, List.set_cons_zero, List.set_cons_succ]
  refine wpAnyH_take (i := 11) (oi := { dst := some 14, op := Op.call { callee := Callee.builtin Builtin.len, args := #[Operand.tmp 13], argTypes := #[32] }, type := 3, pos := "frame.go:135", after := #[{ on := 10, ground := Ground.data }, { on := 6, ground := Ground.guard }], guard := some (6, true) }) (v := undef) rfl (by kernel_rfl) (by kernel_rfl) (by kernel_rfl) (fun _ _ _ h => h) ?_ hB ?_
  · (exact Or.inr ⟨by kernel_rfl, rfl⟩)
  simp only [Act.put, List.setIfInBounds_toArray, List.set_cons_zero, List.set_cons_succ]
  refine wpAnyH_take (i := 12) (oi := { dst := some 15, op := Op.convert 3 22 (Operand.tmp 14), type := 22, pos := "frame.go:135", after := #[{ on := 11, ground := Ground.data }, { on := 6, ground := Ground.guard }], guard := some (6, true) }) (v := undef) rfl (by kernel_rfl) (by kernel_rfl) (by kernel_rfl) (fun _ _ _ h => h) ?_ hB ?_
  · (exact Or.inr ⟨by kernel_rfl, rfl⟩)
  simp only [Act.put, List.setIfInBounds_toArray, List.set_cons_zero, List.set_cons_succ]
  refine wpAnyH_take (i := 13) (oi := { dst := some 16, op := Op.move (Operand.tmp 0), type := 102, pos := "frame.go:135", after := #[{ on := 6, ground := Ground.guard }], guard := some (6, true) }) (v := undef) rfl (by kernel_rfl) (by kernel_rfl) (by kernel_rfl) (fun _ _ _ h => h) ?_ hB ?_
  · (exact Or.inr ⟨by kernel_rfl, rfl⟩)
  simp only [Act.put, List.setIfInBounds_toArray, List.set_cons_zero, List.set_cons_succ]
  refine wpAnyH_take (i := 14) (oi := { dst := some 17, op := Op.call { callee := Callee.value (Operand.func 73), args := #[Operand.tmp 16], argTypes := #[102] }, type := 22, pos := "frame.go:135", after := #[{ on := 13, ground := Ground.data }, { on := 6, ground := Ground.chain }, { on := 6, ground := Ground.guard }], guard := some (6, true) }) (v := undef) rfl (by kernel_rfl) (by kernel_rfl) (by kernel_rfl) (fun _ _ _ h => h) ?_ hB ?_
  · (exact Or.inr ⟨by kernel_rfl, rfl⟩)
  simp only [Act.put, List.setIfInBounds_toArray, List.set_cons_zero, List.set_cons_succ]
  refine wpAnyH_take (i := 15) (oi := { dst := some 18, op := Op.binOp BinOp.add 22 (Operand.const (Value.int IntKind.u64 24)) (Operand.tmp 17) 22, type := 22, pos := "frame.go:135", after := #[{ on := 14, ground := Ground.data }, { on := 6, ground := Ground.guard }], guard := some (6, true) }) (v := undef) rfl (by kernel_rfl) (by kernel_rfl) (by kernel_rfl) (fun _ _ _ h => h) ?_ hB ?_
  · (exact Or.inr ⟨by kernel_rfl, rfl⟩)
  simp only [Act.put, List.setIfInBounds_toArray, List.set_cons_zero, List.set_cons_succ]
  refine wpAnyH_take (i := 16) (oi := { dst := some 19, op := Op.binOp BinOp.eql 22 (Operand.tmp 15) (Operand.tmp 18) 22, type := 4, pos := "frame.go:135", after := #[{ on := 12, ground := Ground.data }, { on := 15, ground := Ground.data }, { on := 6, ground := Ground.guard }], guard := some (6, true) }) (v := undef) rfl (by kernel_rfl) (by kernel_rfl) (by kernel_rfl) (fun _ _ _ h => h) ?_ hB ?_
  · (exact Or.inr ⟨by kernel_rfl, rfl⟩)
  simp only [Act.put, List.setIfInBounds_toArray, List.set_cons_zero, List.set_cons_succ]
  refine wpAnyH_take (i := 17) (oi := { dst := some 20, op := Op.pick (Operand.tmp 9) (Operand.tmp 19) (Operand.const (Value.bool false)), type := 4, pos := "frame.go:135", after := #[{ on := 6, ground := Ground.data }, { on := 16, ground := Ground.data }], guard := none }) (v := .bool false) rfl (by kernel_rfl) (by kernel_rfl) (by kernel_rfl) (fun _ _ _ h => h) ?_ hB ?_
  · (refine Or.inl ⟨by kernel_rfl, ?_⟩; intro w hSw; go_simp)
  simp only [Act.put, List.setIfInBounds_toArray, List.set_cons_zero, List.set_cons_succ]
  refine wpAnyH_take (i := 18) (oi := { dst := some 2, op := Op.assign (Operand.tmp 20), type := 4, pos := "frame.go:135", after := #[{ on := 17, ground := Ground.data }, { on := 14, ground := Ground.chain }, { on := 0, ground := Ground.phase }, { on := 1, ground := Ground.phase }, { on := 2, ground := Ground.phase }, { on := 3, ground := Ground.phase }, { on := 4, ground := Ground.phase }, { on := 5, ground := Ground.phase }, { on := 6, ground := Ground.phase }, { on := 7, ground := Ground.phase }, { on := 8, ground := Ground.phase }, { on := 9, ground := Ground.phase }, { on := 10, ground := Ground.phase }, { on := 11, ground := Ground.phase }, { on := 12, ground := Ground.phase }, { on := 13, ground := Ground.phase }, { on := 14, ground := Ground.phase }, { on := 15, ground := Ground.phase }, { on := 16, ground := Ground.phase }, { on := 17, ground := Ground.phase }], guard := none }) (v := .bool false) rfl (by kernel_rfl) (by kernel_rfl) (by kernel_rfl) (fun _ _ _ h => h) ?_ hB ?_
  · (refine Or.inl ⟨by kernel_rfl, ?_⟩; intro w hSw; go_simp)
  simp only [Act.put, List.setIfInBounds_toArray, List.set_cons_zero, List.set_cons_succ]
  refine wpAnyH_done (by kernel_rfl) ?_ _
  refine NoPanic.normal ?_
  have hEnd := HQ.out (.pointer (some ⟨p, fo, none⟩)) (.pointer (some ⟨p, fo, none⟩)) (.pointer (some ⟨p, fo, none⟩)) (.slice s n c) (.int .i64 (n : Int)) (.bool false) (.bool false) (undef) (undef) (undef) (undef) (undef) (undef) (undef) (undef) (undef) (undef) (.bool false) _ hB
  exact hEnd
set_option maxRecDepth 100000 in
set_option maxHeartbeats 16000000 in
theorem wholeG {FT : TypeId} {FR : Array Value} {fo : Nat} [hfd : FdOk FT FR fo] (p n c e : Nat) (s : Option Addr) (V : World) (t1 t2 t3 t4 t5 t6 t7 t8 t9 t10 t11 t12 t13 t14 t15 t16 t17 t18 t19 t20 : Value) (Q : Exit → Act → World → Prop) (HP : Hid (Bk V p FT (fdA FR fo (.slice s n c) (.int .i64 (e : Int))))) (h24 : decide ((24 : Int) ≤ (n : Int)) = true) (d d24 : Nat) (r : Bool) (hnw : IntKind.u64.wrap (n : Int) = (n : Int)) (hdw : IntKind.u64.wrap (24 + (d : Int)) = (d24 : Int)) (hr : ((n : Int) == (d24 : Int)) = r) (HC : Hid (∀ W, Below V.heap.size V W → Calls Tryd.prog 73 #[.pointer (some ⟨p, fo, none⟩)] W fun r w' => r = .returned (.int .u64 (d : Int)) ∧ Below W.heap.size W w')) (HQ : Hid (∀ (x3 x4 x5 x6 x7 x8 x9 x10 x11 x12 x13 x14 x15 x16 x17 x18 x19 x20 : Value)  (w' : World), Below V.heap.size V w' → Q .normal { tmps := List.toArray (.pointer (some ⟨p, fo, none⟩) :: t1 :: .bool r :: x3 :: x4 :: x5 :: x6 :: x7 :: x8 :: x9 :: x10 :: x11 :: x12 :: x13 :: x14 :: x15 :: x16 :: x17 :: x18 :: x19 :: x20 :: []), defers := [] } w')) :
    Code.wp Tryd.prog (Code.region 1 #[{ dst := some 3, op := Op.move (Operand.tmp 0), type := 102, pos := "frame.go:135", after := #[], guard := none },
{ dst := some 4, op := Op.nilCheck (Operand.tmp 3), type := 0, pos := "frame.go:135", after := #[{ on := 0, ground := Ground.data }], guard := none },
{ dst := some 5, op := Op.fieldAddr 35 (Operand.tmp 4) 0, type := 0, pos := "frame.go:135", after := #[{ on := 1, ground := Ground.data }], guard := none },
{ dst := some 6, op := Op.load 32 (Operand.tmp 5), type := 32, pos := "frame.go:135", after := #[{ on := 2, ground := Ground.data }], guard := none },
{ dst := some 7, op := Op.call { callee := Callee.builtin Builtin.len, args := #[Operand.tmp 6], argTypes := #[32] }, type := 3, pos := "frame.go:135", after := #[{ on := 3, ground := Ground.data }], guard := none },
{ dst := some 8, op := Op.binOp BinOp.geq 3 (Operand.tmp 7) (Operand.const (Value.int IntKind.i64 24)) 3, type := 4, pos := "frame.go:135", after := #[{ on := 4, ground := Ground.data }], guard := none },
{ dst := some 9, op := Op.move (Operand.tmp 8), type := 4, pos := "frame.go:135", after := #[{ on := 5, ground := Ground.data }], guard := none },
{ dst := some 10, op := Op.move (Operand.tmp 0), type := 102, pos := "frame.go:135", after := #[{ on := 6, ground := Ground.guard }], guard := some (6, true) },
{ dst := some 11, op := Op.nilCheck (Operand.tmp 10), type := 0, pos := "frame.go:135", after := #[{ on := 7, ground := Ground.data }, { on := 6, ground := Ground.guard }], guard := some (6, true) },
{ dst := some 12, op := Op.fieldAddr 35 (Operand.tmp 11) 0, type := 0, pos := "frame.go:135", after := #[{ on := 8, ground := Ground.data }, { on := 6, ground := Ground.guard }], guard := some (6, true) },
{ dst := some 13, op := Op.load 32 (Operand.tmp 12), type := 32, pos := "frame.go:135", after := #[{ on := 9, ground := Ground.data }, { on := 6, ground := Ground.guard }], guard := some (6, true) },
{ dst := some 14, op := Op.call { callee := Callee.builtin Builtin.len, args := #[Operand.tmp 13], argTypes := #[32] }, type := 3, pos := "frame.go:135", after := #[{ on := 10, ground := Ground.data }, { on := 6, ground := Ground.guard }], guard := some (6, true) },
{ dst := some 15, op := Op.convert 3 22 (Operand.tmp 14), type := 22, pos := "frame.go:135", after := #[{ on := 11, ground := Ground.data }, { on := 6, ground := Ground.guard }], guard := some (6, true) },
{ dst := some 16, op := Op.move (Operand.tmp 0), type := 102, pos := "frame.go:135", after := #[{ on := 6, ground := Ground.guard }], guard := some (6, true) },
{ dst := some 17, op := Op.call { callee := Callee.value (Operand.func 73), args := #[Operand.tmp 16], argTypes := #[102] }, type := 22, pos := "frame.go:135", after := #[{ on := 13, ground := Ground.data }, { on := 6, ground := Ground.chain }, { on := 6, ground := Ground.guard }], guard := some (6, true) },
{ dst := some 18, op := Op.binOp BinOp.add 22 (Operand.const (Value.int IntKind.u64 24)) (Operand.tmp 17) 22, type := 22, pos := "frame.go:135", after := #[{ on := 14, ground := Ground.data }, { on := 6, ground := Ground.guard }], guard := some (6, true) },
{ dst := some 19, op := Op.binOp BinOp.eql 22 (Operand.tmp 15) (Operand.tmp 18) 22, type := 4, pos := "frame.go:135", after := #[{ on := 12, ground := Ground.data }, { on := 15, ground := Ground.data }, { on := 6, ground := Ground.guard }], guard := some (6, true) },
{ dst := some 20, op := Op.pick (Operand.tmp 9) (Operand.tmp 19) (Operand.const (Value.bool false)), type := 4, pos := "frame.go:135", after := #[{ on := 6, ground := Ground.data }, { on := 16, ground := Ground.data }], guard := none },
{ dst := some 2, op := Op.assign (Operand.tmp 20), type := 4, pos := "frame.go:135", after := #[{ on := 17, ground := Ground.data }, { on := 14, ground := Ground.chain }, { on := 0, ground := Ground.phase }, { on := 1, ground := Ground.phase }, { on := 2, ground := Ground.phase }, { on := 3, ground := Ground.phase }, { on := 4, ground := Ground.phase }, { on := 5, ground := Ground.phase }, { on := 6, ground := Ground.phase }, { on := 7, ground := Ground.phase }, { on := 8, ground := Ground.phase }, { on := 9, ground := Ground.phase }, { on := 10, ground := Ground.phase }, { on := 11, ground := Ground.phase }, { on := 12, ground := Ground.phase }, { on := 13, ground := Ground.phase }, { on := 14, ground := Ground.phase }, { on := 15, ground := Ground.phase }, { on := 16, ground := Ground.phase }, { on := 17, ground := Ground.phase }], guard := none }] true) Q { tmps := List.toArray (.pointer (some ⟨p, fo, none⟩) :: t1 :: t2 :: t3 :: t4 :: t5 :: t6 :: t7 :: t8 :: t9 :: t10 :: t11 :: t12 :: t13 :: t14 :: t15 :: t16 :: t17 :: t18 :: t19 :: t20 :: []), defers := [] } V := by
  refine wp_region_noPanic ?_
  refine wp_region_held_drew (S := (fun w' => Below V.heap.size V w')) (by kernel_rfl) ((Below.refl _ _).drew) (fun hHeld => ?_)
  have hB : Below V.heap.size V V.drew := ((Below.refl _ _).drew)
  show wpAnyH _ _ _ _ _ 19 _ _ _
  refine wpAnyH_take (i := 0) (oi := { dst := some 3, op := Op.move (Operand.tmp 0), type := 102, pos := "frame.go:135", after := #[], guard := none }) (v := .pointer (some ⟨p, fo, none⟩)) rfl (by kernel_rfl) (by kernel_rfl) (by kernel_rfl) (fun _ _ _ h => h) ?_ hB ?_
  · (refine Or.inl ⟨by kernel_rfl, ?_⟩; intro w hSw; go_simp)
  simp only [Act.put, List.setIfInBounds_toArray, List.set_cons_zero, List.set_cons_succ]
  refine wpAnyH_take (i := 1) (oi := { dst := some 4, op := Op.nilCheck (Operand.tmp 3), type := 0, pos := "frame.go:135", after := #[{ on := 0, ground := Ground.data }], guard := none }) (v := .pointer (some ⟨p, fo, none⟩)) rfl (by kernel_rfl) (by kernel_rfl) (by kernel_rfl) (fun _ _ _ h => h) ?_ hB ?_
  · (refine Or.inl ⟨by kernel_rfl, ?_⟩; intro w hSw; have h1 := (fd0 (Bk.below HP.out hSw HP.out.lt)); have h2 := (Bk.below HP.out hSw HP.out.lt).lt; go_simp)
  simp only [Act.put, List.setIfInBounds_toArray, List.set_cons_zero, List.set_cons_succ]
  refine wpAnyH_take (i := 2) (oi := { dst := some 5, op := Op.fieldAddr 35 (Operand.tmp 4) 0, type := 0, pos := "frame.go:135", after := #[{ on := 1, ground := Ground.data }], guard := none }) (v := .pointer (some ⟨p, fo, none⟩)) rfl (by kernel_rfl) (by kernel_rfl) (by kernel_rfl) (fun _ _ _ h => h) ?_ hB ?_
  · (refine Or.inl ⟨by kernel_rfl, ?_⟩; intro w hSw; have h1 := (fd0 (Bk.below HP.out hSw HP.out.lt)); have h2 := (Bk.below HP.out hSw HP.out.lt).lt; go_simp)
  simp only [Act.put, List.setIfInBounds_toArray, List.set_cons_zero, List.set_cons_succ]
  refine wpAnyH_take (i := 3) (oi := { dst := some 6, op := Op.load 32 (Operand.tmp 5), type := 32, pos := "frame.go:135", after := #[{ on := 2, ground := Ground.data }], guard := none }) (v := .slice s n c) rfl (by kernel_rfl) (by kernel_rfl) (by kernel_rfl) (fun _ _ _ h => h) ?_ hB ?_
  · (refine Or.inl ⟨by kernel_rfl, ?_⟩; intro w hSw; have h1 := (fd0 (Bk.below HP.out hSw HP.out.lt)); have h2 := (Bk.below HP.out hSw HP.out.lt).lt; go_simp)
  simp only [Act.put, List.setIfInBounds_toArray, List.set_cons_zero, List.set_cons_succ]
  refine wpAnyH_take (i := 4) (oi := { dst := some 7, op := Op.call { callee := Callee.builtin Builtin.len, args := #[Operand.tmp 6], argTypes := #[32] }, type := 3, pos := "frame.go:135", after := #[{ on := 3, ground := Ground.data }], guard := none }) (v := .int .i64 (n : Int)) rfl (by kernel_rfl) (by kernel_rfl) (by kernel_rfl) (fun _ _ _ h => h) ?_ hB ?_
  · (refine Or.inl ⟨by kernel_rfl, ?_⟩; intro w hSw; go_simp)
  simp only [Act.put, List.setIfInBounds_toArray, List.set_cons_zero, List.set_cons_succ]
  refine wpAnyH_take (i := 5) (oi := { dst := some 8, op := Op.binOp BinOp.geq 3 (Operand.tmp 7) (Operand.const (Value.int IntKind.i64 24)) 3, type := 4, pos := "frame.go:135", after := #[{ on := 4, ground := Ground.data }], guard := none }) (v := .bool true) rfl (by kernel_rfl) (by kernel_rfl) (by kernel_rfl) (fun _ _ _ h => h) ?_ hB ?_
  · (refine Or.inl ⟨by kernel_rfl, ?_⟩; intro w hSw; have h0 := h24; go_simp)
  simp only [Act.put, List.setIfInBounds_toArray, List.set_cons_zero, List.set_cons_succ]
  refine wpAnyH_take (i := 6) (oi := { dst := some 9, op := Op.move (Operand.tmp 8), type := 4, pos := "frame.go:135", after := #[{ on := 5, ground := Ground.data }], guard := none }) (v := .bool true) rfl (by kernel_rfl) (by kernel_rfl) (by kernel_rfl) (fun _ _ _ h => h) ?_ hB ?_
  · (refine Or.inl ⟨by kernel_rfl, ?_⟩; intro w hSw; go_simp)
  simp only [Act.put, List.setIfInBounds_toArray, List.set_cons_zero, List.set_cons_succ]
  refine wpAnyH_take (i := 7) (oi := { dst := some 10, op := Op.move (Operand.tmp 0), type := 102, pos := "frame.go:135", after := #[{ on := 6, ground := Ground.guard }], guard := some (6, true) }) (v := .pointer (some ⟨p, fo, none⟩)) rfl (by kernel_rfl) (by kernel_rfl) (by kernel_rfl) (fun _ _ _ h => h) ?_ hB ?_
  · (refine Or.inl ⟨by kernel_rfl, ?_⟩; intro w hSw; go_simp)
  simp only [Act.put, List.setIfInBounds_toArray, List.set_cons_zero, List.set_cons_succ]
  refine wpAnyH_take (i := 8) (oi := { dst := some 11, op := Op.nilCheck (Operand.tmp 10), type := 0, pos := "frame.go:135", after := #[{ on := 7, ground := Ground.data }, { on := 6, ground := Ground.guard }], guard := some (6, true) }) (v := .pointer (some ⟨p, fo, none⟩)) rfl (by kernel_rfl) (by kernel_rfl) (by kernel_rfl) (fun _ _ _ h => h) ?_ hB ?_
  · (refine Or.inl ⟨by kernel_rfl, ?_⟩; intro w hSw; have h1 := (fd0 (Bk.below HP.out hSw HP.out.lt)); have h2 := (Bk.below HP.out hSw HP.out.lt).lt; go_simp)
  simp only [Act.put, List.setIfInBounds_toArray, List.set_cons_zero, List.set_cons_succ]
  refine wpAnyH_take (i := 9) (oi := { dst := some 12, op := Op.fieldAddr 35 (Operand.tmp 11) 0, type := 0, pos := "frame.go:135", after := #[{ on := 8, ground := Ground.data }, { on := 6, ground := Ground.guard }], guard := some (6, true) }) (v := .pointer (some ⟨p, fo, none⟩)) rfl (by kernel_rfl) (by kernel_rfl) (by kernel_rfl) (fun _ _ _ h => h) ?_ hB ?_
  · (refine Or.inl ⟨by kernel_rfl, ?_⟩; intro w hSw; have h1 := (fd0 (Bk.below HP.out hSw HP.out.lt)); have h2 := (Bk.below HP.out hSw HP.out.lt).lt; go_simp)
  simp only [Act.put, List.setIfInBounds_toArray, List.set_cons_zero, List.set_cons_succ]
  refine wpAnyH_take (i := 10) (oi := { dst := some 13, op := Op.load 32 (Operand.tmp 12), type := 32, pos := "frame.go:135", after := #[{ on := 9, ground := Ground.data }, { on := 6, ground := Ground.guard }], guard := some (6, true) }) (v := .slice s n c) rfl (by kernel_rfl) (by kernel_rfl) (by kernel_rfl) (fun _ _ _ h => h) ?_ hB ?_
  · (refine Or.inl ⟨by kernel_rfl, ?_⟩; intro w hSw; have h1 := (fd0 (Bk.below HP.out hSw HP.out.lt)); have h2 := (Bk.below HP.out hSw HP.out.lt).lt; go_simp)
  simp only [Act.put, List.setIfInBounds_toArray, List.set_cons_zero, List.set_cons_succ]
  refine wpAnyH_take (i := 11) (oi := { dst := some 14, op := Op.call { callee := Callee.builtin Builtin.len, args := #[Operand.tmp 13], argTypes := #[32] }, type := 3, pos := "frame.go:135", after := #[{ on := 10, ground := Ground.data }, { on := 6, ground := Ground.guard }], guard := some (6, true) }) (v := .int .i64 (n : Int)) rfl (by kernel_rfl) (by kernel_rfl) (by kernel_rfl) (fun _ _ _ h => h) ?_ hB ?_
  · (refine Or.inl ⟨by kernel_rfl, ?_⟩; intro w hSw; go_simp)
  simp only [Act.put, List.setIfInBounds_toArray, List.set_cons_zero, List.set_cons_succ]
  refine wpAnyH_take (i := 12) (oi := { dst := some 15, op := Op.convert 3 22 (Operand.tmp 14), type := 22, pos := "frame.go:135", after := #[{ on := 11, ground := Ground.data }, { on := 6, ground := Ground.guard }], guard := some (6, true) }) (v := .int .u64 (n : Int)) rfl (by kernel_rfl) (by kernel_rfl) (by kernel_rfl) (fun _ _ _ h => h) ?_ hB ?_
  · (refine Or.inl ⟨by kernel_rfl, ?_⟩; intro w hSw; have h0 := hnw; go_simp)
  simp only [Act.put, List.setIfInBounds_toArray, List.set_cons_zero, List.set_cons_succ]
  refine wpAnyH_take (i := 13) (oi := { dst := some 16, op := Op.move (Operand.tmp 0), type := 102, pos := "frame.go:135", after := #[{ on := 6, ground := Ground.guard }], guard := some (6, true) }) (v := .pointer (some ⟨p, fo, none⟩)) rfl (by kernel_rfl) (by kernel_rfl) (by kernel_rfl) (fun _ _ _ h => h) ?_ hB ?_
  · (refine Or.inl ⟨by kernel_rfl, ?_⟩; intro w hSw; go_simp)
  simp only [Act.put, List.setIfInBounds_toArray, List.set_cons_zero, List.set_cons_succ]
  refine wpAnyH_ready (rs := [14]) (by kernel_rfl) (by simp) ?_
  refine AllReadyH.cons rfl (fun K hK => ?_) AllReadyH.nil
  refine step_callG (by kernel_rfl) _ _ (.int .u64 (d : Int)) (HC.out _ hB) (by kernel_rfl) (fun w6 hb6 => ?_)
  simp only [Act.put, List.setIfInBounds_toArray, List.set_cons_zero, List.set_cons_succ]
  have hB2 := (below_step hB hB.size hb6)
  refine hK.out _ _ hB2 (fun _ => ?_)
  show wpAnyH _ _ _ _ _ 4 #[true, true, true, true, true, true, true, true, true, true, true, true, true, true, true, false, false, false, false] { tmps := List.toArray (.pointer (some ⟨p, fo, none⟩) :: t1 :: t2 :: .pointer (some ⟨p, fo, none⟩) :: .pointer (some ⟨p, fo, none⟩) :: .pointer (some ⟨p, fo, none⟩) :: .slice s n c :: .int .i64 (n : Int) :: .bool true :: .bool true :: .pointer (some ⟨p, fo, none⟩) :: .pointer (some ⟨p, fo, none⟩) :: .pointer (some ⟨p, fo, none⟩) :: .slice s n c :: .int .i64 (n : Int) :: .int .u64 (n : Int) :: .pointer (some ⟨p, fo, none⟩) :: .int .u64 (d : Int) :: t18 :: t19 :: t20 :: []), defers := [] } _
  refine wpAnyH_take (i := 15) (oi := { dst := some 18, op := Op.binOp BinOp.add 22 (Operand.const (Value.int IntKind.u64 24)) (Operand.tmp 17) 22, type := 22, pos := "frame.go:135", after := #[{ on := 14, ground := Ground.data }, { on := 6, ground := Ground.guard }], guard := some (6, true) }) (v := .int .u64 (d24 : Int)) rfl (by kernel_rfl) (by kernel_rfl) (by kernel_rfl) (fun _ _ _ h => h) ?_ hB2 ?_
  · (refine Or.inl ⟨by kernel_rfl, ?_⟩; intro w hSw; have h0 := hdw; go_simp)
  simp only [Act.put, List.setIfInBounds_toArray, List.set_cons_zero, List.set_cons_succ]
  refine wpAnyH_take (i := 16) (oi := { dst := some 19, op := Op.binOp BinOp.eql 22 (Operand.tmp 15) (Operand.tmp 18) 22, type := 4, pos := "frame.go:135", after := #[{ on := 12, ground := Ground.data }, { on := 15, ground := Ground.data }, { on := 6, ground := Ground.guard }], guard := some (6, true) }) (v := .bool r) rfl (by kernel_rfl) (by kernel_rfl) (by kernel_rfl) (fun _ _ _ h => h) ?_ hB2 ?_
  · (refine Or.inl ⟨by kernel_rfl, ?_⟩; intro w hSw; have h0 := hr; go_simp)
  simp only [Act.put, List.setIfInBounds_toArray, List.set_cons_zero, List.set_cons_succ]
  refine wpAnyH_take (i := 17) (oi := { dst := some 20, op := Op.pick (Operand.tmp 9) (Operand.tmp 19) (Operand.const (Value.bool false)), type := 4, pos := "frame.go:135", after := #[{ on := 6, ground := Ground.data }, { on := 16, ground := Ground.data }], guard := none }) (v := .bool r) rfl (by kernel_rfl) (by kernel_rfl) (by kernel_rfl) (fun _ _ _ h => h) ?_ hB2 ?_
  · (refine Or.inl ⟨by kernel_rfl, ?_⟩; intro w hSw; go_simp)
  simp only [Act.put, List.setIfInBounds_toArray, List.set_cons_zero, List.set_cons_succ]
  refine wpAnyH_take (i := 18) (oi := { dst := some 2, op := Op.assign (Operand.tmp 20), type := 4, pos := "frame.go:135", after := #[{ on := 17, ground := Ground.data }, { on := 14, ground := Ground.chain }, { on := 0, ground := Ground.phase }, { on := 1, ground := Ground.phase }, { on := 2, ground := Ground.phase }, { on := 3, ground := Ground.phase }, { on := 4, ground := Ground.phase }, { on := 5, ground := Ground.phase }, { on := 6, ground := Ground.phase }, { on := 7, ground := Ground.phase }, { on := 8, ground := Ground.phase }, { on := 9, ground := Ground.phase }, { on := 10, ground := Ground.phase }, { on := 11, ground := Ground.phase }, { on := 12, ground := Ground.phase }, { on := 13, ground := Ground.phase }, { on := 14, ground := Ground.phase }, { on := 15, ground := Ground.phase }, { on := 16, ground := Ground.phase }, { on := 17, ground := Ground.phase }], guard := none }) (v := .bool r) rfl (by kernel_rfl) (by kernel_rfl) (by kernel_rfl) (fun _ _ _ h => h) ?_ hB2 ?_
  · (refine Or.inl ⟨by kernel_rfl, ?_⟩; intro w hSw; go_simp)
  simp only [Act.put, List.setIfInBounds_toArray, List.set_cons_zero, List.set_cons_succ]
  clear hB hK K
  have hB := hB2
  clear hB2
  refine wpAnyH_done (by kernel_rfl) ?_ _
  refine NoPanic.normal ?_
  have hEnd := HQ.out (.pointer (some ⟨p, fo, none⟩)) (.pointer (some ⟨p, fo, none⟩)) (.pointer (some ⟨p, fo, none⟩)) (.slice s n c) (.int .i64 (n : Int)) (.bool true) (.bool true) (.pointer (some ⟨p, fo, none⟩)) (.pointer (some ⟨p, fo, none⟩)) (.pointer (some ⟨p, fo, none⟩)) (.slice s n c) (.int .i64 (n : Int)) (.int .u64 (n : Int)) (.pointer (some ⟨p, fo, none⟩)) (.int .u64 (d : Int)) (.int .u64 (d24 : Int)) (.bool r) (.bool r) _ hB
  exact hEnd
set_option maxRecDepth 100000 in
set_option maxHeartbeats 16000000 in
theorem headBad {fo : Nat} (p b o n c e : Nat) (u : ByteArray) (V : World) (t1 t2 t4 t5 t6 t7 t8 t9 t10 t11 t12 t13 t14 t15 t16 t17 t18 t19 t20 t21 t22 t23 : Value) (Q : Exit → Act → World → Prop) (HCK : Hid (∀ W, Below V.heap.size V W → Calls Tryd.prog 62 #[.string u] W fun r w' => r = .returned (.int .i64 70) ∧ Below W.heap.size W w')) (HQ : Hid (∀ (x6 x7 x8 x9 x10 x11 x12 x13 x14 x15 x16 x17 x18 x19 : Value)  (w' : World), Below V.heap.size V w' → Q .normal { tmps := List.toArray (.pointer (some ⟨p, fo, none⟩) :: t1 :: t2 :: .string u :: t4 :: t5 :: x6 :: x7 :: x8 :: x9 :: x10 :: x11 :: x12 :: x13 :: x14 :: x15 :: x16 :: x17 :: x18 :: x19 :: .bool true :: t21 :: t22 :: t23 :: []), defers := [] } w')) :
    Code.wp Tryd.prog (Code.region 2 #[{ dst := some 6, op := Op.move (Operand.tmp 3), type := 9, pos := "frame.go:125", after := #[], guard := none },
{ dst := some 7, op := Op.call { callee := Callee.value (Operand.func 62), args := #[Operand.tmp 6], argTypes := #[9] }, type := 33, pos := "frame.go:125", after := #[{ on := 0, ground := Ground.data }], guard := none },
{ dst := some 8, op := Op.binOp BinOp.neq 33 (Operand.tmp 7) (Operand.const (Value.int IntKind.i64 0)) 33, type := 4, pos := "frame.go:125", after := #[{ on := 1, ground := Ground.data }], guard := none },
{ dst := some 9, op := Op.move (Operand.tmp 8), type := 4, pos := "frame.go:125", after := #[{ on := 2, ground := Ground.data }, { on := 1, ground := Ground.chain }], guard := none },
{ dst := some 10, op := Op.move (Operand.tmp 3), type := 9, pos := "frame.go:125", after := #[{ on := 3, ground := Ground.guard }], guard := some (3, false) },
{ dst := some 11, op := Op.call { callee := Callee.value (Operand.func 64), args := #[Operand.tmp 10], argTypes := #[9] }, type := 133, pos := "frame.go:125", after := #[{ on := 4, ground := Ground.data }, { on := 3, ground := Ground.chain }, { on := 3, ground := Ground.guard }], guard := some (3, false) },
{ dst := some 12, op := Op.move (Operand.tmp 0), type := 102, pos := "frame.go:125", after := #[{ on := 3, ground := Ground.guard }], guard := some (3, false) },
{ dst := some 13, op := Op.nilCheck (Operand.tmp 12), type := 0, pos := "frame.go:125", after := #[{ on := 6, ground := Ground.data }, { on := 3, ground := Ground.guard }], guard := some (3, false) },
{ dst := some 14, op := Op.fieldAddr 35 (Operand.tmp 13) 0, type := 0, pos := "frame.go:125", after := #[{ on := 7, ground := Ground.data }, { on := 3, ground := Ground.guard }], guard := some (3, false) },
{ dst := some 15, op := Op.load 32 (Operand.tmp 14), type := 32, pos := "frame.go:125", after := #[{ on := 8, ground := Ground.data }, { on := 3, ground := Ground.guard }], guard := some (3, false) },
{ dst := some 16, op := Op.slice 32 (Operand.tmp 15) (some (Operand.const (Value.int IntKind.i64 4))) (some (Operand.const (Value.int IntKind.i64 16))) none, type := 32, pos := "frame.go:125", after := #[{ on := 9, ground := Ground.data }, { on := 3, ground := Ground.guard }], guard := some (3, false) },
{ dst := some 17, op := Op.sliceToArrayPointer 133 (Operand.tmp 16), type := 0, pos := "frame.go:125", after := #[{ on := 10, ground := Ground.data }, { on := 3, ground := Ground.guard }], guard := some (3, false) },
{ dst := some 18, op := Op.load 133 (Operand.tmp 17), type := 133, pos := "frame.go:125", after := #[{ on := 11, ground := Ground.data }, { on := 3, ground := Ground.guard }], guard := some (3, false) },
{ dst := some 19, op := Op.binOp BinOp.neq 133 (Operand.tmp 11) (Operand.tmp 18) 133, type := 4, pos := "frame.go:125", after := #[{ on := 5, ground := Ground.data }, { on := 12, ground := Ground.data }, { on := 3, ground := Ground.guard }], guard := some (3, false) },
{ dst := some 20, op := Op.pick (Operand.tmp 9) (Operand.const (Value.bool true)) (Operand.tmp 19), type := 4, pos := "frame.go:125", after := #[{ on := 3, ground := Ground.data }, { on := 13, ground := Ground.data }], guard := none }] true) Q { tmps := List.toArray (.pointer (some ⟨p, fo, none⟩) :: t1 :: t2 :: .string u :: t4 :: t5 :: t6 :: t7 :: t8 :: t9 :: t10 :: t11 :: t12 :: t13 :: t14 :: t15 :: t16 :: t17 :: t18 :: t19 :: t20 :: t21 :: t22 :: t23 :: []), defers := [] } V := by
  refine wp_region_noPanic ?_
  refine wp_region_held_drew (S := (fun w' => Below V.heap.size V w')) (by kernel_rfl) ((Below.refl _ _).drew) (fun hHeld => ?_)
  have hB : Below V.heap.size V V.drew := ((Below.refl _ _).drew)
  show wpAnyH _ _ _ _ _ 15 _ _ _
  refine wpAnyH_take (i := 0) (oi := { dst := some 6, op := Op.move (Operand.tmp 3), type := 9, pos := "frame.go:125", after := #[], guard := none }) (v := .string u) rfl (by kernel_rfl) (by kernel_rfl) (by kernel_rfl) (fun _ _ _ h => h) ?_ hB ?_
  · (refine Or.inl ⟨by kernel_rfl, ?_⟩; intro w hSw; go_simp)
  simp only [Act.put, List.setIfInBounds_toArray, List.set_cons_zero, List.set_cons_succ]
  refine wpAnyH_ready (rs := [1]) (by kernel_rfl) (by simp) ?_
  refine AllReadyH.cons rfl (fun K hK => ?_) AllReadyH.nil
  refine step_callG (by kernel_rfl) _ _ (.int .i64 70) (HCK.out _ hB) (by kernel_rfl) (fun w6 hb6 => ?_)
  simp only [Act.put, List.setIfInBounds_toArray, List.set_cons_zero, List.set_cons_succ]
  have hB2 := (below_step hB hB.size hb6)
  refine hK.out _ _ hB2 (fun _ => ?_)
  show wpAnyH _ _ _ _ _ 13 #[true, true, false, false, false, false, false, false, false, false, false, false, false, false, false] { tmps := List.toArray (.pointer (some ⟨p, fo, none⟩) :: t1 :: t2 :: .string u :: t4 :: t5 :: .string u :: .int .i64 70 :: t8 :: t9 :: t10 :: t11 :: t12 :: t13 :: t14 :: t15 :: t16 :: t17 :: t18 :: t19 :: t20 :: t21 :: t22 :: t23 :: []), defers := [] } _
  refine wpAnyH_take (i := 2) (oi := { dst := some 8, op := Op.binOp BinOp.neq 33 (Operand.tmp 7) (Operand.const (Value.int IntKind.i64 0)) 33, type := 4, pos := "frame.go:125", after := #[{ on := 1, ground := Ground.data }], guard := none }) (v := .bool true) rfl (by kernel_rfl) (by kernel_rfl) (by kernel_rfl) (fun _ _ _ h => h) ?_ hB2 ?_
  · (refine Or.inl ⟨by kernel_rfl, ?_⟩; intro w hSw; go_simp)
  simp only [Act.put, List.setIfInBounds_toArray, List.set_cons_zero, List.set_cons_succ]
  refine wpAnyH_take (i := 3) (oi := { dst := some 9, op := Op.move (Operand.tmp 8), type := 4, pos := "frame.go:125", after := #[{ on := 2, ground := Ground.data }, { on := 1, ground := Ground.chain }], guard := none }) (v := .bool true) rfl (by kernel_rfl) (by kernel_rfl) (by kernel_rfl) (fun _ _ _ h => h) ?_ hB2 ?_
  · (refine Or.inl ⟨by kernel_rfl, ?_⟩; intro w hSw; go_simp)
  simp only [Act.put, List.setIfInBounds_toArray, List.set_cons_zero, List.set_cons_succ]
  refine wpAnyH_take (i := 4) (oi := { dst := some 10, op := Op.move (Operand.tmp 3), type := 9, pos := "frame.go:125", after := #[{ on := 3, ground := Ground.guard }], guard := some (3, false) }) (v := undef) rfl (by kernel_rfl) (by kernel_rfl) (by kernel_rfl) (fun _ _ _ h => h) ?_ hB2 ?_
  · (exact Or.inr ⟨by kernel_rfl, rfl⟩)
  simp only [Act.put, List.setIfInBounds_toArray, List.set_cons_zero, List.set_cons_succ]
  refine wpAnyH_take (i := 5) (oi := { dst := some 11, op := Op.call { callee := Callee.value (Operand.func 64), args := #[Operand.tmp 10], argTypes := #[9] }, type := 133, pos := "frame.go:125", after := #[{ on := 4, ground := Ground.data }, { on := 3, ground := Ground.chain }, { on := 3, ground := Ground.guard }], guard := some (3, false) }) (v := undef) rfl (by kernel_rfl) (by kernel_rfl) (by kernel_rfl) (fun _ _ _ h => h) ?_ hB2 ?_
  · (exact Or.inr ⟨by kernel_rfl, rfl⟩)
  simp only [Act.put, List.setIfInBounds_toArray, List.set_cons_zero, List.set_cons_succ]
  refine wpAnyH_take (i := 6) (oi := { dst := some 12, op := Op.move (Operand.tmp 0), type := 102, pos := "frame.go:125", after := #[{ on := 3, ground := Ground.guard }], guard := some (3, false) }) (v := undef) rfl (by kernel_rfl) (by kernel_rfl) (by kernel_rfl) (fun _ _ _ h => h) ?_ hB2 ?_
  · (exact Or.inr ⟨by kernel_rfl, rfl⟩)
  simp only [Act.put, List.setIfInBounds_toArray, List.set_cons_zero, List.set_cons_succ]
  refine wpAnyH_take (i := 7) (oi := { dst := some 13, op := Op.nilCheck (Operand.tmp 12), type := 0, pos := "frame.go:125", after := #[{ on := 6, ground := Ground.data }, { on := 3, ground := Ground.guard }], guard := some (3, false) }) (v := undef) rfl (by kernel_rfl) (by kernel_rfl) (by kernel_rfl) (fun _ _ _ h => h) ?_ hB2 ?_
  · (exact Or.inr ⟨by kernel_rfl, rfl⟩)
  simp only [Act.put, List.setIfInBounds_toArray, List.set_cons_zero, List.set_cons_succ]
  refine wpAnyH_take (i := 8) (oi := { dst := some 14, op := Op.fieldAddr 35 (Operand.tmp 13) 0, type := 0, pos := "frame.go:125", after := #[{ on := 7, ground := Ground.data }, { on := 3, ground := Ground.guard }], guard := some (3, false) }) (v := undef) rfl (by kernel_rfl) (by kernel_rfl) (by kernel_rfl) (fun _ _ _ h => h) ?_ hB2 ?_
  · (exact Or.inr ⟨by kernel_rfl, rfl⟩)
  simp only [Act.put, List.setIfInBounds_toArray, List.set_cons_zero, List.set_cons_succ]
  refine wpAnyH_take (i := 9) (oi := { dst := some 15, op := Op.load 32 (Operand.tmp 14), type := 32, pos := "frame.go:125", after := #[{ on := 8, ground := Ground.data }, { on := 3, ground := Ground.guard }], guard := some (3, false) }) (v := undef) rfl (by kernel_rfl) (by kernel_rfl) (by kernel_rfl) (fun _ _ _ h => h) ?_ hB2 ?_
  · (exact Or.inr ⟨by kernel_rfl, rfl⟩)
  simp only [Act.put, List.setIfInBounds_toArray, List.set_cons_zero, List.set_cons_succ]
  refine wpAnyH_take (i := 10) (oi := { dst := some 16, op := Op.slice 32 (Operand.tmp 15) (some (Operand.const (Value.int IntKind.i64 4))) (some (Operand.const (Value.int IntKind.i64 16))) none, type := 32, pos := "frame.go:125", after := #[{ on := 9, ground := Ground.data }, { on := 3, ground := Ground.guard }], guard := some (3, false) }) (v := undef) rfl (by kernel_rfl) (by kernel_rfl) (by kernel_rfl) (fun _ _ _ h => h) ?_ hB2 ?_
  · (exact Or.inr ⟨by kernel_rfl, rfl⟩)
  simp only [Act.put, List.setIfInBounds_toArray, List.set_cons_zero, List.set_cons_succ]
  refine wpAnyH_take (i := 11) (oi := { dst := some 17, op := Op.sliceToArrayPointer 133 (Operand.tmp 16), type := 0, pos := "frame.go:125", after := #[{ on := 10, ground := Ground.data }, { on := 3, ground := Ground.guard }], guard := some (3, false) }) (v := undef) rfl (by kernel_rfl) (by kernel_rfl) (by kernel_rfl) (fun _ _ _ h => h) ?_ hB2 ?_
  · (exact Or.inr ⟨by kernel_rfl, rfl⟩)
  simp only [Act.put, List.setIfInBounds_toArray, List.set_cons_zero, List.set_cons_succ]
  refine wpAnyH_take (i := 12) (oi := { dst := some 18, op := Op.load 133 (Operand.tmp 17), type := 133, pos := "frame.go:125", after := #[{ on := 11, ground := Ground.data }, { on := 3, ground := Ground.guard }], guard := some (3, false) }) (v := undef) rfl (by kernel_rfl) (by kernel_rfl) (by kernel_rfl) (fun _ _ _ h => h) ?_ hB2 ?_
  · (exact Or.inr ⟨by kernel_rfl, rfl⟩)
  simp only [Act.put, List.setIfInBounds_toArray, List.set_cons_zero, List.set_cons_succ]
  refine wpAnyH_take (i := 13) (oi := { dst := some 19, op := Op.binOp BinOp.neq 133 (Operand.tmp 11) (Operand.tmp 18) 133, type := 4, pos := "frame.go:125", after := #[{ on := 5, ground := Ground.data }, { on := 12, ground := Ground.data }, { on := 3, ground := Ground.guard }], guard := some (3, false) }) (v := undef) rfl (by kernel_rfl) (by kernel_rfl) (by kernel_rfl) (fun _ _ _ h => h) ?_ hB2 ?_
  · (exact Or.inr ⟨by kernel_rfl, rfl⟩)
  simp only [Act.put, List.setIfInBounds_toArray, List.set_cons_zero, List.set_cons_succ]
  refine wpAnyH_take (i := 14) (oi := { dst := some 20, op := Op.pick (Operand.tmp 9) (Operand.const (Value.bool true)) (Operand.tmp 19), type := 4, pos := "frame.go:125", after := #[{ on := 3, ground := Ground.data }, { on := 13, ground := Ground.data }], guard := none }) (v := .bool true) rfl (by kernel_rfl) (by kernel_rfl) (by kernel_rfl) (fun _ _ _ h => h) ?_ hB2 ?_
  · (refine Or.inl ⟨by kernel_rfl, ?_⟩; intro w hSw; go_simp)
  simp only [Act.put, List.setIfInBounds_toArray, List.set_cons_zero, List.set_cons_succ]
  clear hB hK K
  have hB := hB2
  clear hB2
  refine wpAnyH_done (by kernel_rfl) ?_ _
  refine NoPanic.normal ?_
  have hEnd := HQ.out (.string u) (.int .i64 70) (.bool true) (.bool true) (undef) (undef) (undef) (undef) (undef) (undef) (undef) (undef) (undef) (undef) _ hB
  exact hEnd
set_option maxRecDepth 100000 in
set_option maxHeartbeats 16000000 in
theorem headGood {FT : TypeId} {FR : Array Value} {fo : Nat} [hfd : FdOk FT FR fo] (p b o n c e : Nat) (u : ByteArray) (V : World) (t1 t2 t4 t5 t6 t7 t8 t9 t10 t11 t12 t13 t14 t15 t16 t17 t18 t19 t20 t21 t22 t23 : Value) (Q : Exit → Act → World → Prop) (HCK : Hid (∀ W, Below V.heap.size V W → Calls Tryd.prog 62 #[.string u] W fun r w' => r = .returned (.int .i64 0) ∧ Below W.heap.size W w')) (HP : Hid (Bk V p FT (fdA FR fo (.slice (some ⟨b, o, none⟩) n c) (.int .i64 (e : Int))))) (LA : Array Value) (FL : List Value) (r : Bool) (HLD : Hid (∀ W, Below V.heap.size V W → Calls Tryd.prog 64 #[.string u] W fun r w' => r = .returned (.agg LA) ∧ Below W.heap.size W w')) (hc1 : (16 : Int) ≤ (c : Int)) (hc2 : ¬ c = 4) (hc3 : (c : Int) < 9223372036854775808) (hc4 : ((c : Int) - 4).toNat = c - 4) (hc5 : 4 ≤ c) (hat : ∀ w, (Instr.arrayAt 133 (.slice (some ⟨b, o + 4, none⟩) 12 (c - 4))).run Tryd.prog w = .ok (.pointer (some ⟨b, o + 4, none⟩)) w) (HRG : Hid (∀ w, Below V.heap.size V w → w.rangeAt b (o + 4) FL)) (hps : (Tryd.prog.info? 133).map (·.size) = some FL.length) (hgd : ∀ (a b : Operand) W, (eqGuard .neq 133 a b (.agg LA) (.agg FL.toArray)).run Tryd.prog W = .ok () W) (hbn : ∀ W, (binOp .neq 133 (.agg LA) (.agg FL.toArray)).run Tryd.prog W = .ok (.bool r) W) (HQ : Hid (∀ (x6 x7 x8 x9 x10 x11 x12 x13 x14 x15 x16 x17 x18 x19 : Value)  (w' : World), Below V.heap.size V w' → Q .normal { tmps := List.toArray (.pointer (some ⟨p, fo, none⟩) :: t1 :: t2 :: .string u :: t4 :: t5 :: x6 :: x7 :: x8 :: x9 :: x10 :: x11 :: x12 :: x13 :: x14 :: x15 :: x16 :: x17 :: x18 :: x19 :: .bool r :: t21 :: t22 :: t23 :: []), defers := [] } w')) :
    Code.wp Tryd.prog (Code.region 2 #[{ dst := some 6, op := Op.move (Operand.tmp 3), type := 9, pos := "frame.go:125", after := #[], guard := none },
{ dst := some 7, op := Op.call { callee := Callee.value (Operand.func 62), args := #[Operand.tmp 6], argTypes := #[9] }, type := 33, pos := "frame.go:125", after := #[{ on := 0, ground := Ground.data }], guard := none },
{ dst := some 8, op := Op.binOp BinOp.neq 33 (Operand.tmp 7) (Operand.const (Value.int IntKind.i64 0)) 33, type := 4, pos := "frame.go:125", after := #[{ on := 1, ground := Ground.data }], guard := none },
{ dst := some 9, op := Op.move (Operand.tmp 8), type := 4, pos := "frame.go:125", after := #[{ on := 2, ground := Ground.data }, { on := 1, ground := Ground.chain }], guard := none },
{ dst := some 10, op := Op.move (Operand.tmp 3), type := 9, pos := "frame.go:125", after := #[{ on := 3, ground := Ground.guard }], guard := some (3, false) },
{ dst := some 11, op := Op.call { callee := Callee.value (Operand.func 64), args := #[Operand.tmp 10], argTypes := #[9] }, type := 133, pos := "frame.go:125", after := #[{ on := 4, ground := Ground.data }, { on := 3, ground := Ground.chain }, { on := 3, ground := Ground.guard }], guard := some (3, false) },
{ dst := some 12, op := Op.move (Operand.tmp 0), type := 102, pos := "frame.go:125", after := #[{ on := 3, ground := Ground.guard }], guard := some (3, false) },
{ dst := some 13, op := Op.nilCheck (Operand.tmp 12), type := 0, pos := "frame.go:125", after := #[{ on := 6, ground := Ground.data }, { on := 3, ground := Ground.guard }], guard := some (3, false) },
{ dst := some 14, op := Op.fieldAddr 35 (Operand.tmp 13) 0, type := 0, pos := "frame.go:125", after := #[{ on := 7, ground := Ground.data }, { on := 3, ground := Ground.guard }], guard := some (3, false) },
{ dst := some 15, op := Op.load 32 (Operand.tmp 14), type := 32, pos := "frame.go:125", after := #[{ on := 8, ground := Ground.data }, { on := 3, ground := Ground.guard }], guard := some (3, false) },
{ dst := some 16, op := Op.slice 32 (Operand.tmp 15) (some (Operand.const (Value.int IntKind.i64 4))) (some (Operand.const (Value.int IntKind.i64 16))) none, type := 32, pos := "frame.go:125", after := #[{ on := 9, ground := Ground.data }, { on := 3, ground := Ground.guard }], guard := some (3, false) },
{ dst := some 17, op := Op.sliceToArrayPointer 133 (Operand.tmp 16), type := 0, pos := "frame.go:125", after := #[{ on := 10, ground := Ground.data }, { on := 3, ground := Ground.guard }], guard := some (3, false) },
{ dst := some 18, op := Op.load 133 (Operand.tmp 17), type := 133, pos := "frame.go:125", after := #[{ on := 11, ground := Ground.data }, { on := 3, ground := Ground.guard }], guard := some (3, false) },
{ dst := some 19, op := Op.binOp BinOp.neq 133 (Operand.tmp 11) (Operand.tmp 18) 133, type := 4, pos := "frame.go:125", after := #[{ on := 5, ground := Ground.data }, { on := 12, ground := Ground.data }, { on := 3, ground := Ground.guard }], guard := some (3, false) },
{ dst := some 20, op := Op.pick (Operand.tmp 9) (Operand.const (Value.bool true)) (Operand.tmp 19), type := 4, pos := "frame.go:125", after := #[{ on := 3, ground := Ground.data }, { on := 13, ground := Ground.data }], guard := none }] true) Q { tmps := List.toArray (.pointer (some ⟨p, fo, none⟩) :: t1 :: t2 :: .string u :: t4 :: t5 :: t6 :: t7 :: t8 :: t9 :: t10 :: t11 :: t12 :: t13 :: t14 :: t15 :: t16 :: t17 :: t18 :: t19 :: t20 :: t21 :: t22 :: t23 :: []), defers := [] } V := by
  refine wp_region_noPanic ?_
  refine wp_region_held_drew (S := (fun w' => Below V.heap.size V w')) (by kernel_rfl) ((Below.refl _ _).drew) (fun hHeld => ?_)
  have hB : Below V.heap.size V V.drew := ((Below.refl _ _).drew)
  show wpAnyH _ _ _ _ _ 15 _ _ _
  refine wpAnyH_take (i := 0) (oi := { dst := some 6, op := Op.move (Operand.tmp 3), type := 9, pos := "frame.go:125", after := #[], guard := none }) (v := .string u) rfl (by kernel_rfl) (by kernel_rfl) (by kernel_rfl) (fun _ _ _ h => h) ?_ hB ?_
  · (refine Or.inl ⟨by kernel_rfl, ?_⟩; intro w hSw; go_simp)
  simp only [Act.put, List.setIfInBounds_toArray, List.set_cons_zero, List.set_cons_succ]
  refine wpAnyH_ready (rs := [1]) (by kernel_rfl) (by simp) ?_
  refine AllReadyH.cons rfl (fun K hK => ?_) AllReadyH.nil
  refine step_callG (by kernel_rfl) _ _ (.int .i64 0) (HCK.out _ hB) (by kernel_rfl) (fun w6 hb6 => ?_)
  simp only [Act.put, List.setIfInBounds_toArray, List.set_cons_zero, List.set_cons_succ]
  have hB2 := (below_step hB hB.size hb6)
  refine hK.out _ _ hB2 (fun _ => ?_)
  show wpAnyH _ _ _ _ _ 13 #[true, true, false, false, false, false, false, false, false, false, false, false, false, false, false] { tmps := List.toArray (.pointer (some ⟨p, fo, none⟩) :: t1 :: t2 :: .string u :: t4 :: t5 :: .string u :: .int .i64 0 :: t8 :: t9 :: t10 :: t11 :: t12 :: t13 :: t14 :: t15 :: t16 :: t17 :: t18 :: t19 :: t20 :: t21 :: t22 :: t23 :: []), defers := [] } _
  refine wpAnyH_take (i := 2) (oi := { dst := some 8, op := Op.binOp BinOp.neq 33 (Operand.tmp 7) (Operand.const (Value.int IntKind.i64 0)) 33, type := 4, pos := "frame.go:125", after := #[{ on := 1, ground := Ground.data }], guard := none }) (v := .bool false) rfl (by kernel_rfl) (by kernel_rfl) (by kernel_rfl) (fun _ _ _ h => h) ?_ hB2 ?_
  · (refine Or.inl ⟨by kernel_rfl, ?_⟩; intro w hSw; go_simp)
  simp only [Act.put, List.setIfInBounds_toArray, List.set_cons_zero, List.set_cons_succ]
  refine wpAnyH_take (i := 3) (oi := { dst := some 9, op := Op.move (Operand.tmp 8), type := 4, pos := "frame.go:125", after := #[{ on := 2, ground := Ground.data }, { on := 1, ground := Ground.chain }], guard := none }) (v := .bool false) rfl (by kernel_rfl) (by kernel_rfl) (by kernel_rfl) (fun _ _ _ h => h) ?_ hB2 ?_
  · (refine Or.inl ⟨by kernel_rfl, ?_⟩; intro w hSw; go_simp)
  simp only [Act.put, List.setIfInBounds_toArray, List.set_cons_zero, List.set_cons_succ]
  refine wpAnyH_take (i := 4) (oi := { dst := some 10, op := Op.move (Operand.tmp 3), type := 9, pos := "frame.go:125", after := #[{ on := 3, ground := Ground.guard }], guard := some (3, false) }) (v := .string u) rfl (by kernel_rfl) (by kernel_rfl) (by kernel_rfl) (fun _ _ _ h => h) ?_ hB2 ?_
  · (refine Or.inl ⟨by kernel_rfl, ?_⟩; intro w hSw; go_simp)
  simp only [Act.put, List.setIfInBounds_toArray, List.set_cons_zero, List.set_cons_succ]
  refine wpAnyH_take (i := 6) (oi := { dst := some 12, op := Op.move (Operand.tmp 0), type := 102, pos := "frame.go:125", after := #[{ on := 3, ground := Ground.guard }], guard := some (3, false) }) (v := .pointer (some ⟨p, fo, none⟩)) rfl (by kernel_rfl) (by kernel_rfl) (by kernel_rfl) (fun _ _ _ h => h) ?_ hB2 ?_
  · (refine Or.inl ⟨by kernel_rfl, ?_⟩; intro w hSw; go_simp)
  simp only [Act.put, List.setIfInBounds_toArray, List.set_cons_zero, List.set_cons_succ]
  refine wpAnyH_take (i := 7) (oi := { dst := some 13, op := Op.nilCheck (Operand.tmp 12), type := 0, pos := "frame.go:125", after := #[{ on := 6, ground := Ground.data }, { on := 3, ground := Ground.guard }], guard := some (3, false) }) (v := .pointer (some ⟨p, fo, none⟩)) rfl (by kernel_rfl) (by kernel_rfl) (by kernel_rfl) (fun _ _ _ h => h) ?_ hB2 ?_
  · (refine Or.inl ⟨by kernel_rfl, ?_⟩; intro w hSw; have h1 := (fd0 (Bk.below HP.out hSw HP.out.lt)); have h2 := (Bk.below HP.out hSw HP.out.lt).lt; go_simp)
  simp only [Act.put, List.setIfInBounds_toArray, List.set_cons_zero, List.set_cons_succ]
  refine wpAnyH_take (i := 8) (oi := { dst := some 14, op := Op.fieldAddr 35 (Operand.tmp 13) 0, type := 0, pos := "frame.go:125", after := #[{ on := 7, ground := Ground.data }, { on := 3, ground := Ground.guard }], guard := some (3, false) }) (v := .pointer (some ⟨p, fo, none⟩)) rfl (by kernel_rfl) (by kernel_rfl) (by kernel_rfl) (fun _ _ _ h => h) ?_ hB2 ?_
  · (refine Or.inl ⟨by kernel_rfl, ?_⟩; intro w hSw; have h1 := (fd0 (Bk.below HP.out hSw HP.out.lt)); have h2 := (Bk.below HP.out hSw HP.out.lt).lt; go_simp)
  simp only [Act.put, List.setIfInBounds_toArray, List.set_cons_zero, List.set_cons_succ]
  refine wpAnyH_take (i := 9) (oi := { dst := some 15, op := Op.load 32 (Operand.tmp 14), type := 32, pos := "frame.go:125", after := #[{ on := 8, ground := Ground.data }, { on := 3, ground := Ground.guard }], guard := some (3, false) }) (v := .slice (some ⟨b, o, none⟩) n c) rfl (by kernel_rfl) (by kernel_rfl) (by kernel_rfl) (fun _ _ _ h => h) ?_ hB2 ?_
  · (refine Or.inl ⟨by kernel_rfl, ?_⟩; intro w hSw; have h1 := (fd0 (Bk.below HP.out hSw HP.out.lt)); have h2 := (Bk.below HP.out hSw HP.out.lt).lt; go_simp)
  simp only [Act.put, List.setIfInBounds_toArray, List.set_cons_zero, List.set_cons_succ]
  refine wpAnyH_take (i := 10) (oi := { dst := some 16, op := Op.slice 32 (Operand.tmp 15) (some (Operand.const (Value.int IntKind.i64 4))) (some (Operand.const (Value.int IntKind.i64 16))) none, type := 32, pos := "frame.go:125", after := #[{ on := 9, ground := Ground.data }, { on := 3, ground := Ground.guard }], guard := some (3, false) }) (v := .slice (some ⟨b, o + 4, none⟩) 12 (c - 4)) rfl (by kernel_rfl) (by kernel_rfl) (by kernel_rfl) (fun _ _ _ h => h) ?_ hB2 ?_
  · (refine Or.inl ⟨by kernel_rfl, ?_⟩; intro w hSw; have h0 := hc1; have h5 := hc2; have h6 := hc3; have h7 := hc4; have h8 := hc5; go_simp)
  simp only [Act.put, List.setIfInBounds_toArray, List.set_cons_zero, List.set_cons_succ]
  refine wpAnyH_take (i := 11) (oi := { dst := some 17, op := Op.sliceToArrayPointer 133 (Operand.tmp 16), type := 0, pos := "frame.go:125", after := #[{ on := 10, ground := Ground.data }, { on := 3, ground := Ground.guard }], guard := some (3, false) }) (v := .pointer (some ⟨b, o + 4, none⟩)) rfl (by kernel_rfl) (by kernel_rfl) (by kernel_rfl) (fun _ _ _ h => h) ?_ hB2 ?_
  · (refine Or.inl ⟨by kernel_rfl, ?_⟩; intro w hSw; have h0 := hat; go_simp)
  simp only [Act.put, List.setIfInBounds_toArray, List.set_cons_zero, List.set_cons_succ]
  refine wpAnyH_take (i := 12) (oi := { dst := some 18, op := Op.load 133 (Operand.tmp 17), type := 133, pos := "frame.go:125", after := #[{ on := 11, ground := Ground.data }, { on := 3, ground := Ground.guard }], guard := some (3, false) }) (v := .agg FL.toArray) rfl (by kernel_rfl) (by kernel_rfl) (by kernel_rfl) (fun _ _ _ h => h) ?_ hB2 ?_
  · (exact yieldsIf_load_mid (by kernel_rfl) 133 (.tmp 17) (by kernel_rfl) b (o + 4) (by kernel_rfl) FL _ (fun w h => HRG.out w h) Tryd.underlying133 rfl hps)
  simp only [Act.put, List.setIfInBounds_toArray, List.set_cons_zero, List.set_cons_succ]
  clear hB hK K
  have hB := hB2
  clear hB2
  refine wpAnyH_ready (rs := [5]) (by kernel_rfl) (by simp) ?_
  refine AllReadyH.cons rfl (fun K hK => ?_) AllReadyH.nil
  refine step_callG (by kernel_rfl) _ _ (.agg LA) (HLD.out _ hB) (by kernel_rfl) (fun w6 hb6 => ?_)
  simp only [Act.put, List.setIfInBounds_toArray, List.set_cons_zero, List.set_cons_succ]
  have hB2 := (below_step hB hB.size hb6)
  refine hK.out _ _ hB2 (fun _ => ?_)
  show wpAnyH _ _ _ _ _ 2 #[true, true, true, true, true, true, true, true, true, true, true, true, true, false, false] { tmps := List.toArray (.pointer (some ⟨p, fo, none⟩) :: t1 :: t2 :: .string u :: t4 :: t5 :: .string u :: .int .i64 0 :: .bool false :: .bool false :: .string u :: .agg LA :: .pointer (some ⟨p, fo, none⟩) :: .pointer (some ⟨p, fo, none⟩) :: .pointer (some ⟨p, fo, none⟩) :: .slice (some ⟨b, o, none⟩) n c :: .slice (some ⟨b, o + 4, none⟩) 12 (c - 4) :: .pointer (some ⟨b, o + 4, none⟩) :: .agg FL.toArray :: t19 :: t20 :: t21 :: t22 :: t23 :: []), defers := [] } _
  refine wpAnyH_take (i := 13) (oi := { dst := some 19, op := Op.binOp BinOp.neq 133 (Operand.tmp 11) (Operand.tmp 18) 133, type := 4, pos := "frame.go:125", after := #[{ on := 5, ground := Ground.data }, { on := 12, ground := Ground.data }, { on := 3, ground := Ground.guard }], guard := some (3, false) }) (v := .bool r) rfl (by kernel_rfl) (by kernel_rfl) (by kernel_rfl) (fun _ _ _ h => h) ?_ hB2 ?_
  · (refine Or.inl ⟨by kernel_rfl, ?_⟩; intro w hSw; have h0 := hgd; have h5 := hbn; go_simp)
  simp only [Act.put, List.setIfInBounds_toArray, List.set_cons_zero, List.set_cons_succ]
  refine wpAnyH_take (i := 14) (oi := { dst := some 20, op := Op.pick (Operand.tmp 9) (Operand.const (Value.bool true)) (Operand.tmp 19), type := 4, pos := "frame.go:125", after := #[{ on := 3, ground := Ground.data }, { on := 13, ground := Ground.data }], guard := none }) (v := .bool r) rfl (by kernel_rfl) (by kernel_rfl) (by kernel_rfl) (fun _ _ _ h => h) ?_ hB2 ?_
  · (refine Or.inl ⟨by kernel_rfl, ?_⟩; intro w hSw; go_simp)
  simp only [Act.put, List.setIfInBounds_toArray, List.set_cons_zero, List.set_cons_succ]
  clear hB hK K
  have hB := hB2
  clear hB2
  refine wpAnyH_done (by kernel_rfl) ?_ _
  refine NoPanic.normal ?_
  have hEnd := HQ.out (.string u) (.int .i64 0) (.bool false) (.bool false) (.string u) (.agg LA) (.pointer (some ⟨p, fo, none⟩)) (.pointer (some ⟨p, fo, none⟩)) (.pointer (some ⟨p, fo, none⟩)) (.slice (some ⟨b, o, none⟩) n c) (.slice (some ⟨b, o + 4, none⟩) 12 (c - 4)) (.pointer (some ⟨b, o + 4, none⟩)) (.agg FL.toArray) (.bool r) _ hB
  exact hEnd
set_option maxRecDepth 100000 in
set_option maxHeartbeats 16000000 in
theorem faultL {fo : Nat} (p b o n c e : Nat) (V : World) (t1 t2 t3 t4 t5 t6 t7 t8 t9 t10 t11 t12 t13 t14 t15 t16 t17 t18 t19 t20 t21 t22 t23 t24 t25 t26 t27 t28 t29 t30 t31 t32 t33 t34 t35 t36 t37 t38 t39 t40 t41 t42 t43 t44 t45 t46 t47 : Value) (Q : Exit → Act → World → Prop) (HWH : Hid (∀ W, Below V.heap.size V W → Calls Tryd.prog 55 #[.pointer (some ⟨p, fo, none⟩)] W fun r w' => r = .returned (.bool false) ∧ Below W.heap.size W w')) (HQ : Hid (∀ (x30 x31 x32 x33 x34 x35 x36 x37 x38 x39 x40 x41 x42 x43 x44 x45 x46 : Value)  (w' : World), Below V.heap.size V w' → Q .normal { tmps := List.toArray (.pointer (some ⟨p, fo, none⟩) :: t1 :: t2 :: t3 :: t4 :: t5 :: t6 :: t7 :: t8 :: t9 :: t10 :: t11 :: t12 :: t13 :: t14 :: t15 :: t16 :: t17 :: t18 :: t19 :: t20 :: t21 :: t22 :: t23 :: t24 :: t25 :: t26 :: t27 :: t28 :: t29 :: x30 :: x31 :: x32 :: x33 :: x34 :: x35 :: x36 :: x37 :: x38 :: x39 :: x40 :: x41 :: x42 :: x43 :: x44 :: x45 :: x46 :: .bool false :: []), defers := [] } w')) :
    Code.wp Tryd.prog (Code.region 7 #[{ dst := some 30, op := Op.move (Operand.tmp 0), type := 102, pos := "frame.go:117", after := #[], guard := none },
{ dst := some 31, op := Op.call { callee := Callee.value (Operand.func 55), args := #[Operand.tmp 30], argTypes := #[102] }, type := 4, pos := "frame.go:117", after := #[{ on := 0, ground := Ground.data }], guard := none },
{ dst := some 32, op := Op.move (Operand.tmp 31), type := 4, pos := "frame.go:117", after := #[{ on := 1, ground := Ground.data }, { on := 1, ground := Ground.chain }], guard := none },
{ dst := some 33, op := Op.move (Operand.tmp 0), type := 102, pos := "frame.go:117", after := #[{ on := 2, ground := Ground.guard }], guard := some (2, true) },
{ dst := some 34, op := Op.nilCheck (Operand.tmp 33), type := 0, pos := "frame.go:117", after := #[{ on := 3, ground := Ground.data }, { on := 2, ground := Ground.guard }], guard := some (2, true) },
{ dst := some 35, op := Op.fieldAddr 35 (Operand.tmp 34) 0, type := 0, pos := "frame.go:117", after := #[{ on := 4, ground := Ground.data }, { on := 2, ground := Ground.guard }], guard := some (2, true) },
{ dst := some 36, op := Op.load 32 (Operand.tmp 35), type := 32, pos := "frame.go:117", after := #[{ on := 5, ground := Ground.data }, { on := 2, ground := Ground.guard }], guard := some (2, true) },
{ dst := some 37, op := Op.slice 32 (Operand.tmp 36) (some (Operand.const (Value.int IntKind.i64 20))) (some (Operand.const (Value.int IntKind.i64 24))) none, type := 32, pos := "frame.go:117", after := #[{ on := 6, ground := Ground.data }, { on := 2, ground := Ground.guard }], guard := some (2, true) },
{ dst := some 38, op := Op.sliceToArrayPointer 135 (Operand.tmp 37), type := 0, pos := "frame.go:117", after := #[{ on := 7, ground := Ground.data }, { on := 2, ground := Ground.guard }], guard := some (2, true) },
{ dst := some 39, op := Op.load 135 (Operand.tmp 38), type := 135, pos := "frame.go:117", after := #[{ on := 8, ground := Ground.data }, { on := 2, ground := Ground.guard }], guard := some (2, true) },
{ dst := some 40, op := Op.move (Operand.tmp 0), type := 102, pos := "frame.go:117", after := #[{ on := 2, ground := Ground.guard }], guard := some (2, true) },
{ dst := some 41, op := Op.nilCheck (Operand.tmp 40), type := 0, pos := "frame.go:117", after := #[{ on := 10, ground := Ground.data }, { on := 2, ground := Ground.guard }], guard := some (2, true) },
{ dst := some 42, op := Op.fieldAddr 35 (Operand.tmp 41) 0, type := 0, pos := "frame.go:117", after := #[{ on := 11, ground := Ground.data }, { on := 2, ground := Ground.guard }], guard := some (2, true) },
{ dst := some 43, op := Op.load 32 (Operand.tmp 42), type := 32, pos := "frame.go:117", after := #[{ on := 12, ground := Ground.data }, { on := 2, ground := Ground.guard }], guard := some (2, true) },
{ dst := some 44, op := Op.slice 32 (Operand.tmp 43) (some (Operand.const (Value.int IntKind.i64 24))) none none, type := 32, pos := "frame.go:117", after := #[{ on := 13, ground := Ground.data }, { on := 2, ground := Ground.guard }], guard := some (2, true) },
{ dst := some 45, op := Op.call { callee := Callee.value (Operand.func 65), args := #[Operand.tmp 44], argTypes := #[32] }, type := 135, pos := "frame.go:117", after := #[{ on := 14, ground := Ground.data }, { on := 2, ground := Ground.chain }, { on := 2, ground := Ground.guard }], guard := some (2, true) },
{ dst := some 46, op := Op.binOp BinOp.neq 135 (Operand.tmp 39) (Operand.tmp 45) 135, type := 4, pos := "frame.go:117", after := #[{ on := 9, ground := Ground.data }, { on := 15, ground := Ground.data }, { on := 2, ground := Ground.guard }], guard := some (2, true) },
{ dst := some 47, op := Op.pick (Operand.tmp 32) (Operand.tmp 46) (Operand.const (Value.bool false)), type := 4, pos := "frame.go:117", after := #[{ on := 2, ground := Ground.data }, { on := 16, ground := Ground.data }], guard := none }] true) Q { tmps := List.toArray (.pointer (some ⟨p, fo, none⟩) :: t1 :: t2 :: t3 :: t4 :: t5 :: t6 :: t7 :: t8 :: t9 :: t10 :: t11 :: t12 :: t13 :: t14 :: t15 :: t16 :: t17 :: t18 :: t19 :: t20 :: t21 :: t22 :: t23 :: t24 :: t25 :: t26 :: t27 :: t28 :: t29 :: t30 :: t31 :: t32 :: t33 :: t34 :: t35 :: t36 :: t37 :: t38 :: t39 :: t40 :: t41 :: t42 :: t43 :: t44 :: t45 :: t46 :: t47 :: []), defers := [] } V := by
  refine wp_region_noPanic ?_
  refine wp_region_held_drew (S := (fun w' => Below V.heap.size V w')) (by kernel_rfl) ((Below.refl _ _).drew) (fun hHeld => ?_)
  have hB : Below V.heap.size V V.drew := ((Below.refl _ _).drew)
  show wpAnyH _ _ _ _ _ 18 _ _ _
  refine wpAnyH_take (i := 0) (oi := { dst := some 30, op := Op.move (Operand.tmp 0), type := 102, pos := "frame.go:117", after := #[], guard := none }) (v := .pointer (some ⟨p, fo, none⟩)) rfl (by kernel_rfl) (by kernel_rfl) (by kernel_rfl) (fun _ _ _ h => h) ?_ hB ?_
  · (refine Or.inl ⟨by kernel_rfl, ?_⟩; intro w hSw; go_simp)
  simp only [Act.put, List.setIfInBounds_toArray, List.set_cons_zero, List.set_cons_succ]
  refine wpAnyH_ready (rs := [1]) (by kernel_rfl) (by simp) ?_
  refine AllReadyH.cons rfl (fun K hK => ?_) AllReadyH.nil
  refine step_callG (by kernel_rfl) _ _ (.bool false) (HWH.out _ hB) (by kernel_rfl) (fun w6 hb6 => ?_)
  simp only [Act.put, List.setIfInBounds_toArray, List.set_cons_zero, List.set_cons_succ]
  have hB2 := (below_step hB hB.size hb6)
  refine hK.out _ _ hB2 (fun _ => ?_)
  show wpAnyH _ _ _ _ _ 16 #[true, true, false, false, false, false, false, false, false, false, false, false, false, false, false, false, false, false] { tmps := List.toArray (.pointer (some ⟨p, fo, none⟩) :: t1 :: t2 :: t3 :: t4 :: t5 :: t6 :: t7 :: t8 :: t9 :: t10 :: t11 :: t12 :: t13 :: t14 :: t15 :: t16 :: t17 :: t18 :: t19 :: t20 :: t21 :: t22 :: t23 :: t24 :: t25 :: t26 :: t27 :: t28 :: t29 :: .pointer (some ⟨p, fo, none⟩) :: .bool false :: t32 :: t33 :: t34 :: t35 :: t36 :: t37 :: t38 :: t39 :: t40 :: t41 :: t42 :: t43 :: t44 :: t45 :: t46 :: t47 :: []), defers := [] } _
  refine wpAnyH_take (i := 2) (oi := { dst := some 32, op := Op.move (Operand.tmp 31), type := 4, pos := "frame.go:117", after := #[{ on := 1, ground := Ground.data }, { on := 1, ground := Ground.chain }], guard := none }) (v := .bool false) rfl (by kernel_rfl) (by kernel_rfl) (by kernel_rfl) (fun _ _ _ h => h) ?_ hB2 ?_
  · (refine Or.inl ⟨by kernel_rfl, ?_⟩; intro w hSw; go_simp)
  simp only [Act.put, List.setIfInBounds_toArray, List.set_cons_zero, List.set_cons_succ]
  refine wpAnyH_take (i := 3) (oi := { dst := some 33, op := Op.move (Operand.tmp 0), type := 102, pos := "frame.go:117", after := #[{ on := 2, ground := Ground.guard }], guard := some (2, true) }) (v := undef) rfl (by kernel_rfl) (by kernel_rfl) (by kernel_rfl) (fun _ _ _ h => h) ?_ hB2 ?_
  · (exact Or.inr ⟨by kernel_rfl, rfl⟩)
  simp only [Act.put, List.setIfInBounds_toArray, List.set_cons_zero, List.set_cons_succ]
  refine wpAnyH_take (i := 4) (oi := { dst := some 34, op := Op.nilCheck (Operand.tmp 33), type := 0, pos := "frame.go:117", after := #[{ on := 3, ground := Ground.data }, { on := 2, ground := Ground.guard }], guard := some (2, true) }) (v := undef) rfl (by kernel_rfl) (by kernel_rfl) (by kernel_rfl) (fun _ _ _ h => h) ?_ hB2 ?_
  · (exact Or.inr ⟨by kernel_rfl, rfl⟩)
  simp only [Act.put, List.setIfInBounds_toArray, List.set_cons_zero, List.set_cons_succ]
  refine wpAnyH_take (i := 5) (oi := { dst := some 35, op := Op.fieldAddr 35 (Operand.tmp 34) 0, type := 0, pos := "frame.go:117", after := #[{ on := 4, ground := Ground.data }, { on := 2, ground := Ground.guard }], guard := some (2, true) }) (v := undef) rfl (by kernel_rfl) (by kernel_rfl) (by kernel_rfl) (fun _ _ _ h => h) ?_ hB2 ?_
  · (exact Or.inr ⟨by kernel_rfl, rfl⟩)
  simp only [Act.put, List.setIfInBounds_toArray, List.set_cons_zero, List.set_cons_succ]
  refine wpAnyH_take (i := 6) (oi := { dst := some 36, op := Op.load 32 (Operand.tmp 35), type := 32, pos := "frame.go:117", after := #[{ on := 5, ground := Ground.data }, { on := 2, ground := Ground.guard }], guard := some (2, true) }) (v := undef) rfl (by kernel_rfl) (by kernel_rfl) (by kernel_rfl) (fun _ _ _ h => h) ?_ hB2 ?_
  · (exact Or.inr ⟨by kernel_rfl, rfl⟩)
  simp only [Act.put, List.setIfInBounds_toArray, List.set_cons_zero, List.set_cons_succ]
  refine wpAnyH_take (i := 7) (oi := { dst := some 37, op := Op.slice 32 (Operand.tmp 36) (some (Operand.const (Value.int IntKind.i64 20))) (some (Operand.const (Value.int IntKind.i64 24))) none, type := 32, pos := "frame.go:117", after := #[{ on := 6, ground := Ground.data }, { on := 2, ground := Ground.guard }], guard := some (2, true) }) (v := undef) rfl (by kernel_rfl) (by kernel_rfl) (by kernel_rfl) (fun _ _ _ h => h) ?_ hB2 ?_
  · (exact Or.inr ⟨by kernel_rfl, rfl⟩)
  simp only [Act.put, List.setIfInBounds_toArray, List.set_cons_zero, List.set_cons_succ]
  refine wpAnyH_take (i := 8) (oi := { dst := some 38, op := Op.sliceToArrayPointer 135 (Operand.tmp 37), type := 0, pos := "frame.go:117", after := #[{ on := 7, ground := Ground.data }, { on := 2, ground := Ground.guard }], guard := some (2, true) }) (v := undef) rfl (by kernel_rfl) (by kernel_rfl) (by kernel_rfl) (fun _ _ _ h => h) ?_ hB2 ?_
  · (exact Or.inr ⟨by kernel_rfl, rfl⟩)
  simp only [Act.put, List.setIfInBounds_toArray, List.set_cons_zero, List.set_cons_succ]
  refine wpAnyH_take (i := 9) (oi := { dst := some 39, op := Op.load 135 (Operand.tmp 38), type := 135, pos := "frame.go:117", after := #[{ on := 8, ground := Ground.data }, { on := 2, ground := Ground.guard }], guard := some (2, true) }) (v := undef) rfl (by kernel_rfl) (by kernel_rfl) (by kernel_rfl) (fun _ _ _ h => h) ?_ hB2 ?_
  · (exact Or.inr ⟨by kernel_rfl, rfl⟩)
  simp only [Act.put, List.setIfInBounds_toArray, List.set_cons_zero, List.set_cons_succ]
  refine wpAnyH_take (i := 10) (oi := { dst := some 40, op := Op.move (Operand.tmp 0), type := 102, pos := "frame.go:117", after := #[{ on := 2, ground := Ground.guard }], guard := some (2, true) }) (v := undef) rfl (by kernel_rfl) (by kernel_rfl) (by kernel_rfl) (fun _ _ _ h => h) ?_ hB2 ?_
  · (exact Or.inr ⟨by kernel_rfl, rfl⟩)
  simp only [Act.put, List.setIfInBounds_toArray, List.set_cons_zero, List.set_cons_succ]
  refine wpAnyH_take (i := 11) (oi := { dst := some 41, op := Op.nilCheck (Operand.tmp 40), type := 0, pos := "frame.go:117", after := #[{ on := 10, ground := Ground.data }, { on := 2, ground := Ground.guard }], guard := some (2, true) }) (v := undef) rfl (by kernel_rfl) (by kernel_rfl) (by kernel_rfl) (fun _ _ _ h => h) ?_ hB2 ?_
  · (exact Or.inr ⟨by kernel_rfl, rfl⟩)
  simp only [Act.put, List.setIfInBounds_toArray, List.set_cons_zero, List.set_cons_succ]
  refine wpAnyH_take (i := 12) (oi := { dst := some 42, op := Op.fieldAddr 35 (Operand.tmp 41) 0, type := 0, pos := "frame.go:117", after := #[{ on := 11, ground := Ground.data }, { on := 2, ground := Ground.guard }], guard := some (2, true) }) (v := undef) rfl (by kernel_rfl) (by kernel_rfl) (by kernel_rfl) (fun _ _ _ h => h) ?_ hB2 ?_
  · (exact Or.inr ⟨by kernel_rfl, rfl⟩)
  simp only [Act.put, List.setIfInBounds_toArray, List.set_cons_zero, List.set_cons_succ]
  refine wpAnyH_take (i := 13) (oi := { dst := some 43, op := Op.load 32 (Operand.tmp 42), type := 32, pos := "frame.go:117", after := #[{ on := 12, ground := Ground.data }, { on := 2, ground := Ground.guard }], guard := some (2, true) }) (v := undef) rfl (by kernel_rfl) (by kernel_rfl) (by kernel_rfl) (fun _ _ _ h => h) ?_ hB2 ?_
  · (exact Or.inr ⟨by kernel_rfl, rfl⟩)
  simp only [Act.put, List.setIfInBounds_toArray, List.set_cons_zero, List.set_cons_succ]
  refine wpAnyH_take (i := 14) (oi := { dst := some 44, op := Op.slice 32 (Operand.tmp 43) (some (Operand.const (Value.int IntKind.i64 24))) none none, type := 32, pos := "frame.go:117", after := #[{ on := 13, ground := Ground.data }, { on := 2, ground := Ground.guard }], guard := some (2, true) }) (v := undef) rfl (by kernel_rfl) (by kernel_rfl) (by kernel_rfl) (fun _ _ _ h => h) ?_ hB2 ?_
  · (exact Or.inr ⟨by kernel_rfl, rfl⟩)
  simp only [Act.put, List.setIfInBounds_toArray, List.set_cons_zero, List.set_cons_succ]
  refine wpAnyH_take (i := 15) (oi := { dst := some 45, op := Op.call { callee := Callee.value (Operand.func 65), args := #[Operand.tmp 44], argTypes := #[32] }, type := 135, pos := "frame.go:117", after := #[{ on := 14, ground := Ground.data }, { on := 2, ground := Ground.chain }, { on := 2, ground := Ground.guard }], guard := some (2, true) }) (v := undef) rfl (by kernel_rfl) (by kernel_rfl) (by kernel_rfl) (fun _ _ _ h => h) ?_ hB2 ?_
  · (exact Or.inr ⟨by kernel_rfl, rfl⟩)
  simp only [Act.put, List.setIfInBounds_toArray, List.set_cons_zero, List.set_cons_succ]
  refine wpAnyH_take (i := 16) (oi := { dst := some 46, op := Op.binOp BinOp.neq 135 (Operand.tmp 39) (Operand.tmp 45) 135, type := 4, pos := "frame.go:117", after := #[{ on := 9, ground := Ground.data }, { on := 15, ground := Ground.data }, { on := 2, ground := Ground.guard }], guard := some (2, true) }) (v := undef) rfl (by kernel_rfl) (by kernel_rfl) (by kernel_rfl) (fun _ _ _ h => h) ?_ hB2 ?_
  · (exact Or.inr ⟨by kernel_rfl, rfl⟩)
  simp only [Act.put, List.setIfInBounds_toArray, List.set_cons_zero, List.set_cons_succ]
  refine wpAnyH_take (i := 17) (oi := { dst := some 47, op := Op.pick (Operand.tmp 32) (Operand.tmp 46) (Operand.const (Value.bool false)), type := 4, pos := "frame.go:117", after := #[{ on := 2, ground := Ground.data }, { on := 16, ground := Ground.data }], guard := none }) (v := .bool false) rfl (by kernel_rfl) (by kernel_rfl) (by kernel_rfl) (fun _ _ _ h => h) ?_ hB2 ?_
  · (refine Or.inl ⟨by kernel_rfl, ?_⟩; intro w hSw; go_simp)
  simp only [Act.put, List.setIfInBounds_toArray, List.set_cons_zero, List.set_cons_succ]
  clear hB hK K
  have hB := hB2
  clear hB2
  refine wpAnyH_done (by kernel_rfl) ?_ _
  refine NoPanic.normal ?_
  have hEnd := HQ.out (.pointer (some ⟨p, fo, none⟩)) (.bool false) (.bool false) (undef) (undef) (undef) (undef) (undef) (undef) (undef) (undef) (undef) (undef) (undef) (undef) (undef) (undef) _ hB
  exact hEnd
set_option maxRecDepth 100000 in
set_option maxHeartbeats 16000000 in
theorem faultG {FT : TypeId} {FR : Array Value} {fo : Nat} [hfd : FdOk FT FR fo] (p b o n c e : Nat) (V : World) (t1 t2 t3 t4 t5 t6 t7 t8 t9 t10 t11 t12 t13 t14 t15 t16 t17 t18 t19 t20 t21 t22 t23 t24 t25 t26 t27 t28 t29 t30 t31 t32 t33 t34 t35 t36 t37 t38 t39 t40 t41 t42 t43 t44 t45 t46 t47 : Value) (Q : Exit → Act → World → Prop) (HWH : Hid (∀ W, Below V.heap.size V W → Calls Tryd.prog 55 #[.pointer (some ⟨p, fo, none⟩)] W fun r w' => r = .returned (.bool true) ∧ Below W.heap.size W w')) (HP : Hid (Bk V p FT (fdA FR fo (.slice (some ⟨b, o, none⟩) n c) (.int .i64 (e : Int))))) (SA : Array Value) (FL : List Value) (s24 : Option Addr) (r : Bool) (HSU : Hid (∀ W, Below V.heap.size V W → Calls Tryd.prog 65 #[.slice s24 (n - 24) (c - 24)] W fun r w' => r = .returned (.agg SA) ∧ Below W.heap.size W w')) (hc1 : (24 : Int) ≤ (c : Int)) (hc2 : ¬ c = 20) (hc3 : (c : Int) < 9223372036854775808) (hc4 : ((c : Int) - 20).toNat = c - 20) (hc5 : 24 ≤ n) (hs24 : ∀ w, (Instr.slice 32 (.slice (some ⟨b, o, none⟩) n c) (some (.int .i64 24)) none none).run Tryd.prog w = .ok (.slice s24 (n - 24) (c - 24)) w) (hat : ∀ w, (Instr.arrayAt 135 (.slice (some ⟨b, o + 20, none⟩) 4 (c - 20))).run Tryd.prog w = .ok (.pointer (some ⟨b, o + 20, none⟩)) w) (HRG : Hid (∀ w, Below V.heap.size V w → w.rangeAt b (o + 20) FL)) (hps : (Tryd.prog.info? 135).map (·.size) = some FL.length) (hgd : ∀ (a b : Operand) W, (eqGuard .neq 135 a b (.agg FL.toArray) (.agg SA)).run Tryd.prog W = .ok () W) (hbn : ∀ W, (binOp .neq 135 (.agg FL.toArray) (.agg SA)).run Tryd.prog W = .ok (.bool r) W) (HQ : Hid (∀ (x30 x31 x32 x33 x34 x35 x36 x37 x38 x39 x40 x41 x42 x43 x44 x45 x46 : Value)  (w' : World), Below V.heap.size V w' → Q .normal { tmps := List.toArray (.pointer (some ⟨p, fo, none⟩) :: t1 :: t2 :: t3 :: t4 :: t5 :: t6 :: t7 :: t8 :: t9 :: t10 :: t11 :: t12 :: t13 :: t14 :: t15 :: t16 :: t17 :: t18 :: t19 :: t20 :: t21 :: t22 :: t23 :: t24 :: t25 :: t26 :: t27 :: t28 :: t29 :: x30 :: x31 :: x32 :: x33 :: x34 :: x35 :: x36 :: x37 :: x38 :: x39 :: x40 :: x41 :: x42 :: x43 :: x44 :: x45 :: x46 :: .bool r :: []), defers := [] } w')) :
    Code.wp Tryd.prog (Code.region 7 #[{ dst := some 30, op := Op.move (Operand.tmp 0), type := 102, pos := "frame.go:117", after := #[], guard := none },
{ dst := some 31, op := Op.call { callee := Callee.value (Operand.func 55), args := #[Operand.tmp 30], argTypes := #[102] }, type := 4, pos := "frame.go:117", after := #[{ on := 0, ground := Ground.data }], guard := none },
{ dst := some 32, op := Op.move (Operand.tmp 31), type := 4, pos := "frame.go:117", after := #[{ on := 1, ground := Ground.data }, { on := 1, ground := Ground.chain }], guard := none },
{ dst := some 33, op := Op.move (Operand.tmp 0), type := 102, pos := "frame.go:117", after := #[{ on := 2, ground := Ground.guard }], guard := some (2, true) },
{ dst := some 34, op := Op.nilCheck (Operand.tmp 33), type := 0, pos := "frame.go:117", after := #[{ on := 3, ground := Ground.data }, { on := 2, ground := Ground.guard }], guard := some (2, true) },
{ dst := some 35, op := Op.fieldAddr 35 (Operand.tmp 34) 0, type := 0, pos := "frame.go:117", after := #[{ on := 4, ground := Ground.data }, { on := 2, ground := Ground.guard }], guard := some (2, true) },
{ dst := some 36, op := Op.load 32 (Operand.tmp 35), type := 32, pos := "frame.go:117", after := #[{ on := 5, ground := Ground.data }, { on := 2, ground := Ground.guard }], guard := some (2, true) },
{ dst := some 37, op := Op.slice 32 (Operand.tmp 36) (some (Operand.const (Value.int IntKind.i64 20))) (some (Operand.const (Value.int IntKind.i64 24))) none, type := 32, pos := "frame.go:117", after := #[{ on := 6, ground := Ground.data }, { on := 2, ground := Ground.guard }], guard := some (2, true) },
{ dst := some 38, op := Op.sliceToArrayPointer 135 (Operand.tmp 37), type := 0, pos := "frame.go:117", after := #[{ on := 7, ground := Ground.data }, { on := 2, ground := Ground.guard }], guard := some (2, true) },
{ dst := some 39, op := Op.load 135 (Operand.tmp 38), type := 135, pos := "frame.go:117", after := #[{ on := 8, ground := Ground.data }, { on := 2, ground := Ground.guard }], guard := some (2, true) },
{ dst := some 40, op := Op.move (Operand.tmp 0), type := 102, pos := "frame.go:117", after := #[{ on := 2, ground := Ground.guard }], guard := some (2, true) },
{ dst := some 41, op := Op.nilCheck (Operand.tmp 40), type := 0, pos := "frame.go:117", after := #[{ on := 10, ground := Ground.data }, { on := 2, ground := Ground.guard }], guard := some (2, true) },
{ dst := some 42, op := Op.fieldAddr 35 (Operand.tmp 41) 0, type := 0, pos := "frame.go:117", after := #[{ on := 11, ground := Ground.data }, { on := 2, ground := Ground.guard }], guard := some (2, true) },
{ dst := some 43, op := Op.load 32 (Operand.tmp 42), type := 32, pos := "frame.go:117", after := #[{ on := 12, ground := Ground.data }, { on := 2, ground := Ground.guard }], guard := some (2, true) },
{ dst := some 44, op := Op.slice 32 (Operand.tmp 43) (some (Operand.const (Value.int IntKind.i64 24))) none none, type := 32, pos := "frame.go:117", after := #[{ on := 13, ground := Ground.data }, { on := 2, ground := Ground.guard }], guard := some (2, true) },
{ dst := some 45, op := Op.call { callee := Callee.value (Operand.func 65), args := #[Operand.tmp 44], argTypes := #[32] }, type := 135, pos := "frame.go:117", after := #[{ on := 14, ground := Ground.data }, { on := 2, ground := Ground.chain }, { on := 2, ground := Ground.guard }], guard := some (2, true) },
{ dst := some 46, op := Op.binOp BinOp.neq 135 (Operand.tmp 39) (Operand.tmp 45) 135, type := 4, pos := "frame.go:117", after := #[{ on := 9, ground := Ground.data }, { on := 15, ground := Ground.data }, { on := 2, ground := Ground.guard }], guard := some (2, true) },
{ dst := some 47, op := Op.pick (Operand.tmp 32) (Operand.tmp 46) (Operand.const (Value.bool false)), type := 4, pos := "frame.go:117", after := #[{ on := 2, ground := Ground.data }, { on := 16, ground := Ground.data }], guard := none }] true) Q { tmps := List.toArray (.pointer (some ⟨p, fo, none⟩) :: t1 :: t2 :: t3 :: t4 :: t5 :: t6 :: t7 :: t8 :: t9 :: t10 :: t11 :: t12 :: t13 :: t14 :: t15 :: t16 :: t17 :: t18 :: t19 :: t20 :: t21 :: t22 :: t23 :: t24 :: t25 :: t26 :: t27 :: t28 :: t29 :: t30 :: t31 :: t32 :: t33 :: t34 :: t35 :: t36 :: t37 :: t38 :: t39 :: t40 :: t41 :: t42 :: t43 :: t44 :: t45 :: t46 :: t47 :: []), defers := [] } V := by
  refine wp_region_noPanic ?_
  refine wp_region_held_drew (S := (fun w' => Below V.heap.size V w')) (by kernel_rfl) ((Below.refl _ _).drew) (fun hHeld => ?_)
  have hB : Below V.heap.size V V.drew := ((Below.refl _ _).drew)
  show wpAnyH _ _ _ _ _ 18 _ _ _
  refine wpAnyH_take (i := 0) (oi := { dst := some 30, op := Op.move (Operand.tmp 0), type := 102, pos := "frame.go:117", after := #[], guard := none }) (v := .pointer (some ⟨p, fo, none⟩)) rfl (by kernel_rfl) (by kernel_rfl) (by kernel_rfl) (fun _ _ _ h => h) ?_ hB ?_
  · (refine Or.inl ⟨by kernel_rfl, ?_⟩; intro w hSw; go_simp)
  simp only [Act.put, List.setIfInBounds_toArray, List.set_cons_zero, List.set_cons_succ]
  refine wpAnyH_ready (rs := [1]) (by kernel_rfl) (by simp) ?_
  refine AllReadyH.cons rfl (fun K hK => ?_) AllReadyH.nil
  refine step_callG (by kernel_rfl) _ _ (.bool true) (HWH.out _ hB) (by kernel_rfl) (fun w6 hb6 => ?_)
  simp only [Act.put, List.setIfInBounds_toArray, List.set_cons_zero, List.set_cons_succ]
  have hB2 := (below_step hB hB.size hb6)
  refine hK.out _ _ hB2 (fun _ => ?_)
  show wpAnyH _ _ _ _ _ 16 #[true, true, false, false, false, false, false, false, false, false, false, false, false, false, false, false, false, false] { tmps := List.toArray (.pointer (some ⟨p, fo, none⟩) :: t1 :: t2 :: t3 :: t4 :: t5 :: t6 :: t7 :: t8 :: t9 :: t10 :: t11 :: t12 :: t13 :: t14 :: t15 :: t16 :: t17 :: t18 :: t19 :: t20 :: t21 :: t22 :: t23 :: t24 :: t25 :: t26 :: t27 :: t28 :: t29 :: .pointer (some ⟨p, fo, none⟩) :: .bool true :: t32 :: t33 :: t34 :: t35 :: t36 :: t37 :: t38 :: t39 :: t40 :: t41 :: t42 :: t43 :: t44 :: t45 :: t46 :: t47 :: []), defers := [] } _
  refine wpAnyH_take (i := 2) (oi := { dst := some 32, op := Op.move (Operand.tmp 31), type := 4, pos := "frame.go:117", after := #[{ on := 1, ground := Ground.data }, { on := 1, ground := Ground.chain }], guard := none }) (v := .bool true) rfl (by kernel_rfl) (by kernel_rfl) (by kernel_rfl) (fun _ _ _ h => h) ?_ hB2 ?_
  · (refine Or.inl ⟨by kernel_rfl, ?_⟩; intro w hSw; go_simp)
  simp only [Act.put, List.setIfInBounds_toArray, List.set_cons_zero, List.set_cons_succ]
  refine wpAnyH_take (i := 3) (oi := { dst := some 33, op := Op.move (Operand.tmp 0), type := 102, pos := "frame.go:117", after := #[{ on := 2, ground := Ground.guard }], guard := some (2, true) }) (v := .pointer (some ⟨p, fo, none⟩)) rfl (by kernel_rfl) (by kernel_rfl) (by kernel_rfl) (fun _ _ _ h => h) ?_ hB2 ?_
  · (refine Or.inl ⟨by kernel_rfl, ?_⟩; intro w hSw; go_simp)
  simp only [Act.put, List.setIfInBounds_toArray, List.set_cons_zero, List.set_cons_succ]
  refine wpAnyH_take (i := 4) (oi := { dst := some 34, op := Op.nilCheck (Operand.tmp 33), type := 0, pos := "frame.go:117", after := #[{ on := 3, ground := Ground.data }, { on := 2, ground := Ground.guard }], guard := some (2, true) }) (v := .pointer (some ⟨p, fo, none⟩)) rfl (by kernel_rfl) (by kernel_rfl) (by kernel_rfl) (fun _ _ _ h => h) ?_ hB2 ?_
  · (refine Or.inl ⟨by kernel_rfl, ?_⟩; intro w hSw; have h1 := (fd0 (Bk.below HP.out hSw HP.out.lt)); have h2 := (Bk.below HP.out hSw HP.out.lt).lt; go_simp)
  simp only [Act.put, List.setIfInBounds_toArray, List.set_cons_zero, List.set_cons_succ]
  refine wpAnyH_take (i := 5) (oi := { dst := some 35, op := Op.fieldAddr 35 (Operand.tmp 34) 0, type := 0, pos := "frame.go:117", after := #[{ on := 4, ground := Ground.data }, { on := 2, ground := Ground.guard }], guard := some (2, true) }) (v := .pointer (some ⟨p, fo, none⟩)) rfl (by kernel_rfl) (by kernel_rfl) (by kernel_rfl) (fun _ _ _ h => h) ?_ hB2 ?_
  · (refine Or.inl ⟨by kernel_rfl, ?_⟩; intro w hSw; have h1 := (fd0 (Bk.below HP.out hSw HP.out.lt)); have h2 := (Bk.below HP.out hSw HP.out.lt).lt; go_simp)
  simp only [Act.put, List.setIfInBounds_toArray, List.set_cons_zero, List.set_cons_succ]
  refine wpAnyH_take (i := 6) (oi := { dst := some 36, op := Op.load 32 (Operand.tmp 35), type := 32, pos := "frame.go:117", after := #[{ on := 5, ground := Ground.data }, { on := 2, ground := Ground.guard }], guard := some (2, true) }) (v := .slice (some ⟨b, o, none⟩) n c) rfl (by kernel_rfl) (by kernel_rfl) (by kernel_rfl) (fun _ _ _ h => h) ?_ hB2 ?_
  · (refine Or.inl ⟨by kernel_rfl, ?_⟩; intro w hSw; have h1 := (fd0 (Bk.below HP.out hSw HP.out.lt)); have h2 := (Bk.below HP.out hSw HP.out.lt).lt; go_simp)
  simp only [Act.put, List.setIfInBounds_toArray, List.set_cons_zero, List.set_cons_succ]
  refine wpAnyH_take (i := 7) (oi := { dst := some 37, op := Op.slice 32 (Operand.tmp 36) (some (Operand.const (Value.int IntKind.i64 20))) (some (Operand.const (Value.int IntKind.i64 24))) none, type := 32, pos := "frame.go:117", after := #[{ on := 6, ground := Ground.data }, { on := 2, ground := Ground.guard }], guard := some (2, true) }) (v := .slice (some ⟨b, o + 20, none⟩) 4 (c - 20)) rfl (by kernel_rfl) (by kernel_rfl) (by kernel_rfl) (fun _ _ _ h => h) ?_ hB2 ?_
  · (refine Or.inl ⟨by kernel_rfl, ?_⟩; intro w hSw; have h0 := hc1; have h5 := hc2; have h6 := hc3; have h7 := hc4; have h8 := hc5; go_simp)
  simp only [Act.put, List.setIfInBounds_toArray, List.set_cons_zero, List.set_cons_succ]
  refine wpAnyH_take (i := 8) (oi := { dst := some 38, op := Op.sliceToArrayPointer 135 (Operand.tmp 37), type := 0, pos := "frame.go:117", after := #[{ on := 7, ground := Ground.data }, { on := 2, ground := Ground.guard }], guard := some (2, true) }) (v := .pointer (some ⟨b, o + 20, none⟩)) rfl (by kernel_rfl) (by kernel_rfl) (by kernel_rfl) (fun _ _ _ h => h) ?_ hB2 ?_
  · (refine Or.inl ⟨by kernel_rfl, ?_⟩; intro w hSw; have h0 := hat; go_simp)
  simp only [Act.put, List.setIfInBounds_toArray, List.set_cons_zero, List.set_cons_succ]
  refine wpAnyH_take (i := 9) (oi := { dst := some 39, op := Op.load 135 (Operand.tmp 38), type := 135, pos := "frame.go:117", after := #[{ on := 8, ground := Ground.data }, { on := 2, ground := Ground.guard }], guard := some (2, true) }) (v := .agg FL.toArray) rfl (by kernel_rfl) (by kernel_rfl) (by kernel_rfl) (fun _ _ _ h => h) ?_ hB2 ?_
  · (exact yieldsIf_load_mid (by kernel_rfl) 135 (.tmp 38) (by kernel_rfl) b (o + 20) (by kernel_rfl) FL _ (fun w h => HRG.out w h) Tryd.underlying135 rfl hps)
  simp only [Act.put, List.setIfInBounds_toArray, List.set_cons_zero, List.set_cons_succ]
  refine wpAnyH_take (i := 10) (oi := { dst := some 40, op := Op.move (Operand.tmp 0), type := 102, pos := "frame.go:117", after := #[{ on := 2, ground := Ground.guard }], guard := some (2, true) }) (v := .pointer (some ⟨p, fo, none⟩)) rfl (by kernel_rfl) (by kernel_rfl) (by kernel_rfl) (fun _ _ _ h => h) ?_ hB2 ?_
  · (refine Or.inl ⟨by kernel_rfl, ?_⟩; intro w hSw; go_simp)
  simp only [Act.put, List.setIfInBounds_toArray, List.set_cons_zero, List.set_cons_succ]
  refine wpAnyH_take (i := 11) (oi := { dst := some 41, op := Op.nilCheck (Operand.tmp 40), type := 0, pos := "frame.go:117", after := #[{ on := 10, ground := Ground.data }, { on := 2, ground := Ground.guard }], guard := some (2, true) }) (v := .pointer (some ⟨p, fo, none⟩)) rfl (by kernel_rfl) (by kernel_rfl) (by kernel_rfl) (fun _ _ _ h => h) ?_ hB2 ?_
  · (refine Or.inl ⟨by kernel_rfl, ?_⟩; intro w hSw; have h1 := (fd0 (Bk.below HP.out hSw HP.out.lt)); have h2 := (Bk.below HP.out hSw HP.out.lt).lt; go_simp)
  simp only [Act.put, List.setIfInBounds_toArray, List.set_cons_zero, List.set_cons_succ]
  refine wpAnyH_take (i := 12) (oi := { dst := some 42, op := Op.fieldAddr 35 (Operand.tmp 41) 0, type := 0, pos := "frame.go:117", after := #[{ on := 11, ground := Ground.data }, { on := 2, ground := Ground.guard }], guard := some (2, true) }) (v := .pointer (some ⟨p, fo, none⟩)) rfl (by kernel_rfl) (by kernel_rfl) (by kernel_rfl) (fun _ _ _ h => h) ?_ hB2 ?_
  · (refine Or.inl ⟨by kernel_rfl, ?_⟩; intro w hSw; have h1 := (fd0 (Bk.below HP.out hSw HP.out.lt)); have h2 := (Bk.below HP.out hSw HP.out.lt).lt; go_simp)
  simp only [Act.put, List.setIfInBounds_toArray, List.set_cons_zero, List.set_cons_succ]
  refine wpAnyH_take (i := 13) (oi := { dst := some 43, op := Op.load 32 (Operand.tmp 42), type := 32, pos := "frame.go:117", after := #[{ on := 12, ground := Ground.data }, { on := 2, ground := Ground.guard }], guard := some (2, true) }) (v := .slice (some ⟨b, o, none⟩) n c) rfl (by kernel_rfl) (by kernel_rfl) (by kernel_rfl) (fun _ _ _ h => h) ?_ hB2 ?_
  · (refine Or.inl ⟨by kernel_rfl, ?_⟩; intro w hSw; have h1 := (fd0 (Bk.below HP.out hSw HP.out.lt)); have h2 := (Bk.below HP.out hSw HP.out.lt).lt; go_simp)
  simp only [Act.put, List.setIfInBounds_toArray, List.set_cons_zero, List.set_cons_succ]
  refine wpAnyH_take (i := 14) (oi := { dst := some 44, op := Op.slice 32 (Operand.tmp 43) (some (Operand.const (Value.int IntKind.i64 24))) none none, type := 32, pos := "frame.go:117", after := #[{ on := 13, ground := Ground.data }, { on := 2, ground := Ground.guard }], guard := some (2, true) }) (v := .slice s24 (n - 24) (c - 24)) rfl (by kernel_rfl) (by kernel_rfl) (by kernel_rfl) (fun _ _ _ h => h) ?_ hB2 ?_
  · (refine Or.inl ⟨by kernel_rfl, ?_⟩; intro w hSw; have h0 := hs24; go_simp)
  simp only [Act.put, List.setIfInBounds_toArray, List.set_cons_zero, List.set_cons_succ]
  clear hB hK K
  have hB := hB2
  clear hB2
  refine wpAnyH_ready (rs := [15]) (by kernel_rfl) (by simp) ?_
  refine AllReadyH.cons rfl (fun K hK => ?_) AllReadyH.nil
  refine step_callG (by kernel_rfl) _ _ (.agg SA) (HSU.out _ hB) (by kernel_rfl) (fun w6 hb6 => ?_)
  simp only [Act.put, List.setIfInBounds_toArray, List.set_cons_zero, List.set_cons_succ]
  have hB2 := (below_step hB hB.size hb6)
  refine hK.out _ _ hB2 (fun _ => ?_)
  show wpAnyH _ _ _ _ _ 2 #[true, true, true, true, true, true, true, true, true, true, true, true, true, true, true, true, false, false] { tmps := List.toArray (.pointer (some ⟨p, fo, none⟩) :: t1 :: t2 :: t3 :: t4 :: t5 :: t6 :: t7 :: t8 :: t9 :: t10 :: t11 :: t12 :: t13 :: t14 :: t15 :: t16 :: t17 :: t18 :: t19 :: t20 :: t21 :: t22 :: t23 :: t24 :: t25 :: t26 :: t27 :: t28 :: t29 :: .pointer (some ⟨p, fo, none⟩) :: .bool true :: .bool true :: .pointer (some ⟨p, fo, none⟩) :: .pointer (some ⟨p, fo, none⟩) :: .pointer (some ⟨p, fo, none⟩) :: .slice (some ⟨b, o, none⟩) n c :: .slice (some ⟨b, o + 20, none⟩) 4 (c - 20) :: .pointer (some ⟨b, o + 20, none⟩) :: .agg FL.toArray :: .pointer (some ⟨p, fo, none⟩) :: .pointer (some ⟨p, fo, none⟩) :: .pointer (some ⟨p, fo, none⟩) :: .slice (some ⟨b, o, none⟩) n c :: .slice s24 (n - 24) (c - 24) :: .agg SA :: t46 :: t47 :: []), defers := [] } _
  refine wpAnyH_take (i := 16) (oi := { dst := some 46, op := Op.binOp BinOp.neq 135 (Operand.tmp 39) (Operand.tmp 45) 135, type := 4, pos := "frame.go:117", after := #[{ on := 9, ground := Ground.data }, { on := 15, ground := Ground.data }, { on := 2, ground := Ground.guard }], guard := some (2, true) }) (v := .bool r) rfl (by kernel_rfl) (by kernel_rfl) (by kernel_rfl) (fun _ _ _ h => h) ?_ hB2 ?_
  · (refine Or.inl ⟨by kernel_rfl, ?_⟩; intro w hSw; have h0 := hgd; have h5 := hbn; go_simp)
  simp only [Act.put, List.setIfInBounds_toArray, List.set_cons_zero, List.set_cons_succ]
  refine wpAnyH_take (i := 17) (oi := { dst := some 47, op := Op.pick (Operand.tmp 32) (Operand.tmp 46) (Operand.const (Value.bool false)), type := 4, pos := "frame.go:117", after := #[{ on := 2, ground := Ground.data }, { on := 16, ground := Ground.data }], guard := none }) (v := .bool r) rfl (by kernel_rfl) (by kernel_rfl) (by kernel_rfl) (fun _ _ _ h => h) ?_ hB2 ?_
  · (refine Or.inl ⟨by kernel_rfl, ?_⟩; intro w hSw; go_simp)
  simp only [Act.put, List.setIfInBounds_toArray, List.set_cons_zero, List.set_cons_succ]
  clear hB hK K
  have hB := hB2
  clear hB2
  refine wpAnyH_done (by kernel_rfl) ?_ _
  refine NoPanic.normal ?_
  have hEnd := HQ.out (.pointer (some ⟨p, fo, none⟩)) (.bool true) (.bool true) (.pointer (some ⟨p, fo, none⟩)) (.pointer (some ⟨p, fo, none⟩)) (.pointer (some ⟨p, fo, none⟩)) (.slice (some ⟨b, o, none⟩) n c) (.slice (some ⟨b, o + 20, none⟩) 4 (c - 20)) (.pointer (some ⟨b, o + 20, none⟩)) (.agg FL.toArray) (.pointer (some ⟨p, fo, none⟩)) (.pointer (some ⟨p, fo, none⟩)) (.pointer (some ⟨p, fo, none⟩)) (.slice (some ⟨b, o, none⟩) n c) (.slice s24 (n - 24) (c - 24)) (.agg SA) (.bool r) _ hB
  exact hEnd
end Go.Proofs.YtkpffjcdalclmaaDoor
