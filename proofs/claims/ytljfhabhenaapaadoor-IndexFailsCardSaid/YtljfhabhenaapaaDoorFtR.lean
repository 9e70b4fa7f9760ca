/-
  Regions of the tree's Fits.
-/
import Derived.Test.YtljfhabhenaapaaDoorMed
import Derived.Deep.RegionHeld3
namespace Go.Proofs.YtljfhabhenaapaaDoor
open Go.RowKit
set_option linter.unusedVariables false
set_option linter.unusedSimpArgs false
set_option maxRecDepth 100000
theorem hd_sizeL {h : Hd} (k : IsHd h) : (Tryd.prog.info? 32).map (·.size) = some (hdL h).length := by rw [hdL_length k]; exact hd_info
set_option maxRecDepth 100000 in
set_option maxHeartbeats 16000000 in
theorem fits3 (p hb lim cd : Nat) (h : Hd) (V : World) (t1 t2 t3 t4 t6 t7 t8 t9 t10 t11 t12 t13 t14 t15 t16 t17 t18 t19 t20 t21 t22 t23 t24 t25 t26 t27 t28 t29 t30 t31 t32 t33 t34 t35 t36 t37 t38 t39 t40 t41 t42 t43 t44 t45 t46 t47 t48 t49 t50 t51 t52 t53 : Value) (Q : Exit → Act → World → Prop) (zp : p < V.heap.size) (zh : hb < V.heap.size) (HC0 : Hid (V.cell? ⟨p, 0, none⟩ = some (.int .u32 (lim : Int)))) (hx : IsHd h) (hrg : V.rangeAt hb 0 (hdL h)) (HPR : Hid (∀ W, Below V.heap.size V W → Calls Tryd.prog 31 #[.agg (hdA h), .int .u32 (lim : Int)] W fun e w' => e = .returned (.int .i64 (cd : Int)) ∧ Below W.heap.size W w')) (HQ : Hid (∀ (x14 x15 x16 x17 x18 x19 x20 : Value)  (w' : World), Below V.heap.size V w' → Q .normal { tmps := List.toArray (.pointer (some ⟨p, 0, none⟩) :: t1 :: t2 :: t3 :: t4 :: .pointer (some ⟨hb, 0, none⟩) :: t6 :: t7 :: t8 :: .int .i64 (cd : Int) :: t10 :: t11 :: t12 :: t13 :: x14 :: x15 :: x16 :: x17 :: x18 :: x19 :: x20 :: t21 :: t22 :: t23 :: t24 :: t25 :: t26 :: t27 :: t28 :: t29 :: t30 :: t31 :: t32 :: t33 :: t34 :: t35 :: t36 :: t37 :: t38 :: t39 :: t40 :: t41 :: t42 :: t43 :: t44 :: t45 :: t46 :: t47 :: t48 :: t49 :: t50 :: t51 :: t52 :: t53 :: []), defers := [] } w')) :
    Code.wp Tryd.prog (Code.region 3 #[{ dst := some 14, op := Op.load 32 (Operand.tmp 5), type := 32, pos := "index.go:142", after := #[], guard := none },
{ dst := some 15, op := Op.move (Operand.tmp 0), type := 24, pos := "index.go:142", after := #[], guard := none },
{ dst := some 16, op := Op.nilCheck (Operand.tmp 15), type := 0, pos := "index.go:142", after := #[{ on := 1, ground := Ground.data }], guard := none },
{ dst := some 17, op := Op.fieldAddr 76 (Operand.tmp 16) 0, type := 0, pos := "index.go:142", after := #[{ on := 2, ground := Ground.data }], guard := none },
{ dst := some 18, op := Op.fieldAddr 37 (Operand.tmp 17) 0, type := 0, pos := "index.go:142", after := #[{ on := 3, ground := Ground.data }], guard := none },
{ dst := some 19, op := Op.load 28 (Operand.tmp 18), type := 28, pos := "index.go:142", after := #[{ on := 4, ground := Ground.data }], guard := none },
{ dst := some 20, op := Op.call { callee := Callee.value (Operand.func 31), args := #[Operand.tmp 14, Operand.tmp 19], argTypes := #[32, 28] }, type := 25, pos := "index.go:142", after := #[{ on := 0, ground := Ground.data }, { on := 5, ground := Ground.data }], guard := none },
{ dst := some 9, op := Op.assign (Operand.tmp 20), type := 25, pos := "index.go:142", after := #[{ on := 6, ground := Ground.data }, { on := 6, ground := Ground.chain }, { on := 0, ground := Ground.phase }, { on := 1, ground := Ground.phase }, { on := 2, ground := Ground.phase }, { on := 3, ground := Ground.phase }, { on := 4, ground := Ground.phase }, { on := 5, ground := Ground.phase }, { on := 6, ground := Ground.phase }], guard := none }] true) Q { tmps := List.toArray (.pointer (some ⟨p, 0, none⟩) :: t1 :: t2 :: t3 :: t4 :: .pointer (some ⟨hb, 0, none⟩) :: t6 :: t7 :: t8 :: t9 :: t10 :: t11 :: t12 :: t13 :: t14 :: t15 :: t16 :: t17 :: t18 :: t19 :: t20 :: t21 :: t22 :: t23 :: t24 :: t25 :: t26 :: t27 :: t28 :: t29 :: t30 :: t31 :: t32 :: t33 :: t34 :: t35 :: t36 :: t37 :: t38 :: t39 :: t40 :: t41 :: t42 :: t43 :: t44 :: t45 :: t46 :: t47 :: t48 :: t49 :: t50 :: t51 :: t52 :: t53 :: []), defers := [] } V := by
  refine wp_region_noPanic ?_
  refine wp_region_held_drew (S := (fun w' => Below V.heap.size V w')) (by kernel_rfl) ((Below.refl _ _).drew) (fun hHeld => ?_)
  have hB : Below V.heap.size V V.drew := ((Below.refl _ _).drew)
  show wpAnyH _ _ _ _ _ 8 _ _ _
  refine wpAnyH_take (i := 0) (oi := { dst := some 14, op := Op.load 32 (Operand.tmp 5), type := 32, pos := "index.go:142", after := #[], guard := none }) (v := .agg (hdA h)) rfl (by kernel_rfl) (by kernel_rfl) (by kernel_rfl) (fun _ _ _ h => h) ?_ hB ?_
  · (exact yieldsIf_load_mid (by kernel_rfl) 32 (.tmp 5) rfl hb 0 rfl (hdL h) _ (fun w hSw => rowr_below hrg hSw zh) Tryd.underlying32 rfl (hd_sizeL hx))
  simp only [Act.put, List.setIfInBounds_toArray, List.set_cons_zero, List.set_cons_succ]
  refine wpAnyH_take (i := 1) (oi := { dst := some 15, op := Op.move (Operand.tmp 0), type := 24, pos := "index.go:142", after := #[], guard := none }) (v := .pointer (some ⟨p, 0, none⟩)) rfl (by kernel_rfl) (by kernel_rfl) (by kernel_rfl) (fun _ _ _ h => h) ?_ hB ?_
  · (refine Or.inl ⟨by kernel_rfl, ?_⟩; intro w hSw; go_simp)
  simp only [Act.put, List.setIfInBounds_toArray, List.set_cons_zero, List.set_cons_succ]
  refine wpAnyH_take (i := 2) (oi := { dst := some 16, op := Op.nilCheck (Operand.tmp 15), type := 0, pos := "index.go:142", after := #[{ on := 1, ground := Ground.data }], guard := none }) (v := .pointer (some ⟨p, 0, none⟩)) rfl (by kernel_rfl) (by kernel_rfl) (by kernel_rfl) (fun _ _ _ h => h) ?_ hB ?_
  · (refine Or.inl ⟨by kernel_rfl, ?_⟩; intro w hSw; have hzp := Nat.lt_of_lt_of_le zp hSw.size; go_simp)
  simp only [Act.put, List.setIfInBounds_toArray, List.set_cons_zero, List.set_cons_succ]
  refine wpAnyH_take (i := 3) (oi := { dst := some 17, op := Op.fieldAddr 76 (Operand.tmp 16) 0, type := 0, pos := "index.go:142", after := #[{ on := 2, ground := Ground.data }], guard := none }) (v := .pointer (some ⟨p, 0, none⟩)) rfl (by kernel_rfl) (by kernel_rfl) (by kernel_rfl) (fun _ _ _ h => h) ?_ hB ?_
  · (refine Or.inl ⟨by kernel_rfl, ?_⟩; intro w hSw; have hzp := Nat.lt_of_lt_of_le zp hSw.size; go_simp)
  simp only [Act.put, List.setIfInBounds_toArray, List.set_cons_zero, List.set_cons_succ]
  refine wpAnyH_take (i := 4) (oi := { dst := some 18, op := Op.fieldAddr 37 (Operand.tmp 17) 0, type := 0, pos := "index.go:142", after := #[{ on := 3, ground := Ground.data }], guard := none }) (v := .pointer (some ⟨p, 0, none⟩)) rfl (by kernel_rfl) (by kernel_rfl) (by kernel_rfl) (fun _ _ _ h => h) ?_ hB ?_
  · (refine Or.inl ⟨by kernel_rfl, ?_⟩; intro w hSw; have hzp := Nat.lt_of_lt_of_le zp hSw.size; go_simp)
  simp only [Act.put, List.setIfInBounds_toArray, List.set_cons_zero, List.set_cons_succ]
  refine wpAnyH_take (i := 5) (oi := { dst := some 19, op := Op.load 28 (Operand.tmp 18), type := 28, pos := "index.go:142", after := #[{ on := 4, ground := Ground.data }], guard := none }) (v := .int .u32 (lim : Int)) rfl (by kernel_rfl) (by kernel_rfl) (by kernel_rfl) (fun _ _ _ h => h) ?_ hB ?_
  · (refine Or.inl ⟨by kernel_rfl, ?_⟩; intro w hSw; have hzp := Nat.lt_of_lt_of_le zp hSw.size; have c0 := (hSw.cell (p := ⟨p, 0, none⟩) zp).trans HC0.out; go_simp)
  simp only [Act.put, List.setIfInBounds_toArray, List.set_cons_zero, List.set_cons_succ]
  refine wpAnyH_ready (rs := [6]) (by kernel_rfl) (by simp) ?_
  refine AllReadyH.cons rfl (fun K hK => ?_) AllReadyH.nil
  refine sx_call (by kernel_rfl) _ _ (HPR.out _ hB) (by kernel_rfl) (fun e6 w6 h6 => ⟨_, h6.1, ?_⟩)
  have hb6 := h6.2
  simp only [Act.put, List.setIfInBounds_toArray, List.set_cons_zero, List.set_cons_succ]
  have hB2 := (below_step hB hB.size hb6)
  refine hK.out _ _ hB2 (fun _ => ?_)
  show wpAnyH _ _ _ _ _ 1 #[true, true, true, true, true, true, true, false] { tmps := List.toArray (.pointer (some ⟨p, 0, none⟩) :: t1 :: t2 :: t3 :: t4 :: .pointer (some ⟨hb, 0, none⟩) :: t6 :: t7 :: t8 :: t9 :: t10 :: t11 :: t12 :: t13 :: .agg (hdA h) :: .pointer (some ⟨p, 0, none⟩) :: .pointer (some ⟨p, 0, none⟩) :: .pointer (some ⟨p, 0, none⟩) :: .pointer (some ⟨p, 0, none⟩) :: .int .u32 (lim : Int) :: .int .i64 (cd : Int) :: t21 :: t22 :: t23 :: t24 :: t25 :: t26 :: t27 :: t28 :: t29 :: t30 :: t31 :: t32 :: t33 :: t34 :: t35 :: t36 :: t37 :: t38 :: t39 :: t40 :: t41 :: t42 :: t43 :: t44 :: t45 :: t46 :: t47 :: t48 :: t49 :: t50 :: t51 :: t52 :: t53 :: []), defers := [] } _
  refine wpAnyH_take (i := 7) (oi := { dst := some 9, op := Op.assign (Operand.tmp 20), type := 25, pos := "index.go:142", after := #[{ on := 6, ground := Ground.data }, { on := 6, ground := Ground.chain }, { on := 0, ground := Ground.phase }, { on := 1, ground := Ground.phase }, { on := 2, ground := Ground.phase }, { on := 3, ground := Ground.phase }, { on := 4, ground := Ground.phase }, { on := 5, ground := Ground.phase }, { on := 6, ground := Ground.phase }], guard := none }) (v := .int .i64 (cd : Int)) rfl (by kernel_rfl) (by kernel_rfl) (by kernel_rfl) (fun _ _ _ h => h) ?_ hB2 ?_
  · (refine Or.inl ⟨by kernel_rfl, ?_⟩; intro w hSw; go_simp)
  simp only [Act.put, List.setIfInBounds_toArray, List.set_cons_zero, List.set_cons_succ]
  clear hB hK K
  have hB := hB2
  clear hB2
  refine wpAnyH_done (by kernel_rfl) ?_ _
  refine NoPanic.normal ?_
  have hEnd := HQ.out (.agg (hdA h)) (.pointer (some ⟨p, 0, none⟩)) (.pointer (some ⟨p, 0, none⟩)) (.pointer (some ⟨p, 0, none⟩)) (.pointer (some ⟨p, 0, none⟩)) (.int .u32 (lim : Int)) (.int .i64 (cd : Int)) _ hB
  exact hEnd

set_option maxRecDepth 100000 in
set_option maxHeartbeats 16000000 in
theorem fits8 (p hb j x y : Nat) (bv : Bool) (V : World) (t1 t3 t4 t6 t7 t8 t9 t10 t11 t12 t13 t14 t15 t16 t17 t18 t19 t20 t21 t22 t23 t24 t25 t26 t27 t28 t29 t30 t31 t32 t33 t34 t35 t36 t37 t38 t39 t40 t41 t42 t43 t44 t45 t46 t47 t48 t49 t50 t51 t52 t53 : Value) (Q : Exit → Act → World → Prop) (zh : hb < V.heap.size) (HCY : Hid (V.cell? ⟨hb, 66, none⟩ = some (.int .u32 (y : Int)))) (hv : ((y : Int) != (x : Int)) = bv) (HCA : Hid (∀ W, Below V.heap.size V W → Calls Tryd.prog 25 #[.pointer (some ⟨p, 0, none⟩), .int .i64 (j : Int)] W fun e w' => e = .returned (.int .u32 (x : Int)) ∧ Below W.heap.size W w')) (HQ : Hid (∀ (x34 x35 x36 x37 x38 x39 : Value)  (w' : World), Below V.heap.size V w' → Q .normal { tmps := List.toArray (.pointer (some ⟨p, 0, none⟩) :: t1 :: .int .i64 (j : Int) :: t3 :: t4 :: .pointer (some ⟨hb, 0, none⟩) :: t6 :: t7 :: t8 :: t9 :: t10 :: t11 :: t12 :: t13 :: t14 :: t15 :: t16 :: t17 :: t18 :: t19 :: t20 :: t21 :: t22 :: t23 :: t24 :: t25 :: t26 :: t27 :: t28 :: t29 :: t30 :: t31 :: t32 :: .bool bv :: x34 :: x35 :: x36 :: x37 :: x38 :: x39 :: t40 :: t41 :: t42 :: t43 :: t44 :: t45 :: t46 :: t47 :: t48 :: t49 :: t50 :: t51 :: t52 :: t53 :: []), defers := [] } w')) :
    Code.wp Tryd.prog (Code.region 8 #[{ dst := some 34, op := Op.fieldAddr 32 (Operand.tmp 5) 4, type := 0, pos := "index.go:148", after := #[], guard := none },
{ dst := some 35, op := Op.load 28 (Operand.tmp 34), type := 28, pos := "index.go:148", after := #[{ on := 0, ground := Ground.data }], guard := none },
{ dst := some 36, op := Op.move (Operand.tmp 0), type := 24, pos := "index.go:148", after := #[], guard := none },
{ dst := some 37, op := Op.move (Operand.tmp 2), type := 3, pos := "index.go:148", after := #[], guard := none },
{ dst := some 38, op := Op.call { callee := Callee.value (Operand.func 25), args := #[Operand.tmp 36, Operand.tmp 37], argTypes := #[24, 3] }, type := 28, pos := "index.go:148", after := #[{ on := 2, ground := Ground.data }, { on := 3, ground := Ground.data }], guard := none },
{ dst := some 39, op := Op.binOp BinOp.neq 28 (Operand.tmp 35) (Operand.tmp 38) 28, type := 4, pos := "index.go:148", after := #[{ on := 1, ground := Ground.data }, { on := 4, ground := Ground.data }], guard := none },
{ dst := some 33, op := Op.assign (Operand.tmp 39), type := 4, pos := "index.go:148", after := #[{ on := 5, ground := Ground.data }, { on := 4, ground := Ground.chain }], guard := none }] true) Q { tmps := List.toArray (.pointer (some ⟨p, 0, none⟩) :: t1 :: .int .i64 (j : Int) :: t3 :: t4 :: .pointer (some ⟨hb, 0, none⟩) :: t6 :: t7 :: t8 :: t9 :: t10 :: t11 :: t12 :: t13 :: t14 :: t15 :: t16 :: t17 :: t18 :: t19 :: t20 :: t21 :: t22 :: t23 :: t24 :: t25 :: t26 :: t27 :: t28 :: t29 :: t30 :: t31 :: t32 :: t33 :: t34 :: t35 :: t36 :: t37 :: t38 :: t39 :: t40 :: t41 :: t42 :: t43 :: t44 :: t45 :: t46 :: t47 :: t48 :: t49 :: t50 :: t51 :: t52 :: t53 :: []), defers := [] } V := by
  refine wp_region_noPanic ?_
  refine wp_region_held_drew (S := (fun w' => Below V.heap.size V w')) (by kernel_rfl) ((Below.refl _ _).drew) (fun hHeld => ?_)
  have hB : Below V.heap.size V V.drew := ((Below.refl _ _).drew)
  show wpAnyH _ _ _ _ _ 7 _ _ _
  refine wpAnyH_take (i := 0) (oi := { dst := some 34, op := Op.fieldAddr 32 (Operand.tmp 5) 4, type := 0, pos := "index.go:148", after := #[], guard := none }) (v := .pointer (some ⟨hb, 66, none⟩)) rfl (by kernel_rfl) (by kernel_rfl) (by kernel_rfl) (fun _ _ _ h => h) ?_ hB ?_
  · (refine Or.inl ⟨by kernel_rfl, ?_⟩; intro w hSw; have hzh := Nat.lt_of_lt_of_le zh hSw.size; go_simp)
  simp only [Act.put, List.setIfInBounds_toArray, List.set_cons_zero, List.set_cons_succ]
  refine wpAnyH_take (i := 1) (oi := { dst := some 35, op := Op.load 28 (Operand.tmp 34), type := 28, pos := "index.go:148", after := #[{ on := 0, ground := Ground.data }], guard := none }) (v := .int .u32 (y : Int)) rfl (by kernel_rfl) (by kernel_rfl) (by kernel_rfl) (fun _ _ _ h => h) ?_ hB ?_
  · (refine Or.inl ⟨by kernel_rfl, ?_⟩; intro w hSw; have hzh := Nat.lt_of_lt_of_le zh hSw.size; have c1 := (hSw.cell (p := ⟨hb, 66, none⟩) zh).trans HCY.out; go_simp)
  simp only [Act.put, List.setIfInBounds_toArray, List.set_cons_zero, List.set_cons_succ]
  refine wpAnyH_take (i := 2) (oi := { dst := some 36, op := Op.move (Operand.tmp 0), type := 24, pos := "index.go:148", after := #[], guard := none }) (v := .pointer (some ⟨p, 0, none⟩)) rfl (by kernel_rfl) (by kernel_rfl) (by kernel_rfl) (fun _ _ _ h => h) ?_ hB ?_
  · (refine Or.inl ⟨by kernel_rfl, ?_⟩; intro w hSw; go_simp)
  simp only [Act.put, List.setIfInBounds_toArray, List.set_cons_zero, List.set_cons_succ]
  refine wpAnyH_take (i := 3) (oi := { dst := some 37, op := Op.move (Operand.tmp 2), type := 3, pos := "index.go:148", after := #[], guard := none }) (v := .int .i64 (j : Int)) rfl (by kernel_rfl) (by kernel_rfl) (by kernel_rfl) (fun _ _ _ h => h) ?_ hB ?_
  · (refine Or.inl ⟨by kernel_rfl, ?_⟩; intro w hSw; go_simp)
  simp only [Act.put, List.setIfInBounds_toArray, List.set_cons_zero, List.set_cons_succ]
  refine wpAnyH_ready (rs := [4]) (by kernel_rfl) (by simp) ?_
  refine AllReadyH.cons rfl (fun K hK => ?_) AllReadyH.nil
  refine sx_call (by kernel_rfl) _ _ (HCA.out _ hB) (by kernel_rfl) (fun e6 w6 h6 => ⟨_, h6.1, ?_⟩)
  have hb6 := h6.2
  simp only [Act.put, List.setIfInBounds_toArray, List.set_cons_zero, List.set_cons_succ]
  have hB2 := (below_step hB hB.size hb6)
  refine hK.out _ _ hB2 (fun _ => ?_)
  show wpAnyH _ _ _ _ _ 2 #[true, true, true, true, true, false, false] { tmps := List.toArray (.pointer (some ⟨p, 0, none⟩) :: t1 :: .int .i64 (j : Int) :: t3 :: t4 :: .pointer (some ⟨hb, 0, none⟩) :: t6 :: t7 :: t8 :: t9 :: t10 :: t11 :: t12 :: t13 :: t14 :: t15 :: t16 :: t17 :: t18 :: t19 :: t20 :: t21 :: t22 :: t23 :: t24 :: t25 :: t26 :: t27 :: t28 :: t29 :: t30 :: t31 :: t32 :: t33 :: .pointer (some ⟨hb, 66, none⟩) :: .int .u32 (y : Int) :: .pointer (some ⟨p, 0, none⟩) :: .int .i64 (j : Int) :: .int .u32 (x : Int) :: t39 :: t40 :: t41 :: t42 :: t43 :: t44 :: t45 :: t46 :: t47 :: t48 :: t49 :: t50 :: t51 :: t52 :: t53 :: []), defers := [] } _
  refine wpAnyH_take (i := 5) (oi := { dst := some 39, op := Op.binOp BinOp.neq 28 (Operand.tmp 35) (Operand.tmp 38) 28, type := 4, pos := "index.go:148", after := #[{ on := 1, ground := Ground.data }, { on := 4, ground := Ground.data }], guard := none }) (v := .bool bv) rfl (by kernel_rfl) (by kernel_rfl) (by kernel_rfl) (fun _ _ _ h => h) ?_ hB2 ?_
  · (refine Or.inl ⟨by kernel_rfl, ?_⟩; intro w hSw; have h1 := hv; go_simp)
  simp only [Act.put, List.setIfInBounds_toArray, List.set_cons_zero, List.set_cons_succ]
  refine wpAnyH_take (i := 6) (oi := { dst := some 33, op := Op.assign (Operand.tmp 39), type := 4, pos := "index.go:148", after := #[{ on := 5, ground := Ground.data }, { on := 4, ground := Ground.chain }], guard := none }) (v := .bool bv) rfl (by kernel_rfl) (by kernel_rfl) (by kernel_rfl) (fun _ _ _ h => h) ?_ hB2 ?_
  · (refine Or.inl ⟨by kernel_rfl, ?_⟩; intro w hSw; go_simp)
  simp only [Act.put, List.setIfInBounds_toArray, List.set_cons_zero, List.set_cons_succ]
  clear hB hK K
  have hB := hB2
  clear hB2
  refine wpAnyH_done (by kernel_rfl) ?_ _
  refine NoPanic.normal ?_
  have hEnd := HQ.out (.pointer (some ⟨hb, 66, none⟩)) (.int .u32 (y : Int)) (.pointer (some ⟨p, 0, none⟩)) (.int .i64 (j : Int)) (.int .u32 (x : Int)) (.bool bv) _ hB
  exact hEnd

set_option maxRecDepth 100000 in
set_option maxHeartbeats 16000000 in
theorem fits10 (p hb j x y : Nat) (bv : Bool) (V : World) (t1 t3 t4 t6 t7 t8 t9 t10 t11 t12 t13 t14 t15 t16 t17 t18 t19 t20 t21 t22 t23 t24 t25 t26 t27 t28 t29 t30 t31 t32 t33 t34 t35 t36 t37 t38 t39 t40 t41 t42 t43 t44 t45 t46 t47 t48 t49 t50 t51 t52 t53 : Value) (Q : Exit → Act → World → Prop) (zh : hb < V.heap.size) (HCY : Hid (V.cell? ⟨hb, 65, none⟩ = some (.int .u32 (y : Int)))) (hv : decide (y ≤ x) = bv ∧ decide ((y : Int) ≤ (x : Int)) = bv) (HCA : Hid (∀ W, Below V.heap.size V W → Calls Tryd.prog 24 #[.pointer (some ⟨p, 0, none⟩), .int .i64 (j : Int)] W fun e w' => e = .returned (.int .u32 (x : Int)) ∧ Below W.heap.size W w')) (HQ : Hid (∀ (x41 x42 x43 x44 x45 x46 : Value)  (w' : World), Below V.heap.size V w' → Q .normal { tmps := List.toArray (.pointer (some ⟨p, 0, none⟩) :: t1 :: .int .i64 (j : Int) :: t3 :: t4 :: .pointer (some ⟨hb, 0, none⟩) :: t6 :: t7 :: t8 :: t9 :: t10 :: t11 :: t12 :: t13 :: t14 :: t15 :: t16 :: t17 :: t18 :: t19 :: t20 :: t21 :: t22 :: t23 :: t24 :: t25 :: t26 :: t27 :: t28 :: t29 :: t30 :: t31 :: t32 :: t33 :: t34 :: t35 :: t36 :: t37 :: t38 :: t39 :: .bool bv :: x41 :: x42 :: x43 :: x44 :: x45 :: x46 :: t47 :: t48 :: t49 :: t50 :: t51 :: t52 :: t53 :: []), defers := [] } w')) :
    Code.wp Tryd.prog (Code.region 10 #[{ dst := some 41, op := Op.fieldAddr 32 (Operand.tmp 5) 3, type := 0, pos := "index.go:150", after := #[], guard := none },
{ dst := some 42, op := Op.load 28 (Operand.tmp 41), type := 28, pos := "index.go:150", after := #[{ on := 0, ground := Ground.data }], guard := none },
{ dst := some 43, op := Op.move (Operand.tmp 0), type := 24, pos := "index.go:150", after := #[], guard := none },
{ dst := some 44, op := Op.move (Operand.tmp 2), type := 3, pos := "index.go:150", after := #[], guard := none },
{ dst := some 45, op := Op.call { callee := Callee.value (Operand.func 24), args := #[Operand.tmp 43, Operand.tmp 44], argTypes := #[24, 3] }, type := 28, pos := "index.go:150", after := #[{ on := 2, ground := Ground.data }, { on := 3, ground := Ground.data }], guard := none },
{ dst := some 46, op := Op.binOp BinOp.leq 28 (Operand.tmp 42) (Operand.tmp 45) 28, type := 4, pos := "index.go:150", after := #[{ on := 1, ground := Ground.data }, { on := 4, ground := Ground.data }], guard := none },
{ dst := some 40, op := Op.assign (Operand.tmp 46), type := 4, pos := "index.go:150", after := #[{ on := 5, ground := Ground.data }, { on := 4, ground := Ground.chain }], guard := none }] true) Q { tmps := List.toArray (.pointer (some ⟨p, 0, none⟩) :: t1 :: .int .i64 (j : Int) :: t3 :: t4 :: .pointer (some ⟨hb, 0, none⟩) :: t6 :: t7 :: t8 :: t9 :: t10 :: t11 :: t12 :: t13 :: t14 :: t15 :: t16 :: t17 :: t18 :: t19 :: t20 :: t21 :: t22 :: t23 :: t24 :: t25 :: t26 :: t27 :: t28 :: t29 :: t30 :: t31 :: t32 :: t33 :: t34 :: t35 :: t36 :: t37 :: t38 :: t39 :: t40 :: t41 :: t42 :: t43 :: t44 :: t45 :: t46 :: t47 :: t48 :: t49 :: t50 :: t51 :: t52 :: t53 :: []), defers := [] } V := by
  refine wp_region_noPanic ?_
  refine wp_region_held_drew (S := (fun w' => Below V.heap.size V w')) (by kernel_rfl) ((Below.refl _ _).drew) (fun hHeld => ?_)
  have hB : Below V.heap.size V V.drew := ((Below.refl _ _).drew)
  show wpAnyH _ _ _ _ _ 7 _ _ _
  refine wpAnyH_take (i := 0) (oi := { dst := some 41, op := Op.fieldAddr 32 (Operand.tmp 5) 3, type := 0, pos := "index.go:150", after := #[], guard := none }) (v := .pointer (some ⟨hb, 65, none⟩)) rfl (by kernel_rfl) (by kernel_rfl) (by kernel_rfl) (fun _ _ _ h => h) ?_ hB ?_
  · (refine Or.inl ⟨by kernel_rfl, ?_⟩; intro w hSw; have hzh := Nat.lt_of_lt_of_le zh hSw.size; go_simp)
  simp only [Act.put, List.setIfInBounds_toArray, List.set_cons_zero, List.set_cons_succ]
  refine wpAnyH_take (i := 1) (oi := { dst := some 42, op := Op.load 28 (Operand.tmp 41), type := 28, pos := "index.go:150", after := #[{ on := 0, ground := Ground.data }], guard := none }) (v := .int .u32 (y : Int)) rfl (by kernel_rfl) (by kernel_rfl) (by kernel_rfl) (fun _ _ _ h => h) ?_ hB ?_
  · (refine Or.inl ⟨by kernel_rfl, ?_⟩; intro w hSw; have hzh := Nat.lt_of_lt_of_le zh hSw.size; have c1 := (hSw.cell (p := ⟨hb, 65, none⟩) zh).trans HCY.out; go_simp)
  simp only [Act.put, List.setIfInBounds_toArray, List.set_cons_zero, List.set_cons_succ]
  refine wpAnyH_take (i := 2) (oi := { dst := some 43, op := Op.move (Operand.tmp 0), type := 24, pos := "index.go:150", after := #[], guard := none }) (v := .pointer (some ⟨p, 0, none⟩)) rfl (by kernel_rfl) (by kernel_rfl) (by kernel_rfl) (fun _ _ _ h => h) ?_ hB ?_
  · (refine Or.inl ⟨by kernel_rfl, ?_⟩; intro w hSw; go_simp)
  simp only [Act.put, List.setIfInBounds_toArray, List.set_cons_zero, List.set_cons_succ]
  refine wpAnyH_take (i := 3) (oi := { dst := some 44, op := Op.move (Operand.tmp 2), type := 3, pos := "index.go:150", after := #[], guard := none }) (v := .int .i64 (j : Int)) rfl (by kernel_rfl) (by kernel_rfl) (by kernel_rfl) (fun _ _ _ h => h) ?_ hB ?_
  · (refine Or.inl ⟨by kernel_rfl, ?_⟩; intro w hSw; go_simp)
  simp only [Act.put, List.setIfInBounds_toArray, List.set_cons_zero, List.set_cons_succ]
  refine wpAnyH_ready (rs := [4]) (by kernel_rfl) (by simp) ?_
  refine AllReadyH.cons rfl (fun K hK => ?_) AllReadyH.nil
  refine sx_call (by kernel_rfl) _ _ (HCA.out _ hB) (by kernel_rfl) (fun e6 w6 h6 => ⟨_, h6.1, ?_⟩)
  have hb6 := h6.2
  simp only [Act.put, List.setIfInBounds_toArray, List.set_cons_zero, List.set_cons_succ]
  have hB2 := (below_step hB hB.size hb6)
  refine hK.out _ _ hB2 (fun _ => ?_)
  show wpAnyH _ _ _ _ _ 2 #[true, true, true, true, true, false, false] { tmps := List.toArray (.pointer (some ⟨p, 0, none⟩) :: t1 :: .int .i64 (j : Int) :: t3 :: t4 :: .pointer (some ⟨hb, 0, none⟩) :: t6 :: t7 :: t8 :: t9 :: t10 :: t11 :: t12 :: t13 :: t14 :: t15 :: t16 :: t17 :: t18 :: t19 :: t20 :: t21 :: t22 :: t23 :: t24 :: t25 :: t26 :: t27 :: t28 :: t29 :: t30 :: t31 :: t32 :: t33 :: t34 :: t35 :: t36 :: t37 :: t38 :: t39 :: t40 :: .pointer (some ⟨hb, 65, none⟩) :: .int .u32 (y : Int) :: .pointer (some ⟨p, 0, none⟩) :: .int .i64 (j : Int) :: .int .u32 (x : Int) :: t46 :: t47 :: t48 :: t49 :: t50 :: t51 :: t52 :: t53 :: []), defers := [] } _
  refine wpAnyH_take (i := 5) (oi := { dst := some 46, op := Op.binOp BinOp.leq 28 (Operand.tmp 42) (Operand.tmp 45) 28, type := 4, pos := "index.go:150", after := #[{ on := 1, ground := Ground.data }, { on := 4, ground := Ground.data }], guard := none }) (v := .bool bv) rfl (by kernel_rfl) (by kernel_rfl) (by kernel_rfl) (fun _ _ _ h => h) ?_ hB2 ?_
  · (refine Or.inl ⟨by kernel_rfl, ?_⟩; intro w hSw; have h1 := hv; go_simp)
  simp only [Act.put, List.setIfInBounds_toArray, List.set_cons_zero, List.set_cons_succ]
  refine wpAnyH_take (i := 6) (oi := { dst := some 40, op := Op.assign (Operand.tmp 46), type := 4, pos := "index.go:150", after := #[{ on := 5, ground := Ground.data }, { on := 4, ground := Ground.chain }], guard := none }) (v := .bool bv) rfl (by kernel_rfl) (by kernel_rfl) (by kernel_rfl) (fun _ _ _ h => h) ?_ hB2 ?_
  · (refine Or.inl ⟨by kernel_rfl, ?_⟩; intro w hSw; go_simp)
  simp only [Act.put, List.setIfInBounds_toArray, List.set_cons_zero, List.set_cons_succ]
  clear hB hK K
  have hB := hB2
  clear hB2
  refine wpAnyH_done (by kernel_rfl) ?_ _
  refine NoPanic.normal ?_
  have hEnd := HQ.out (.pointer (some ⟨hb, 65, none⟩)) (.int .u32 (y : Int)) (.pointer (some ⟨p, 0, none⟩)) (.int .i64 (j : Int)) (.int .u32 (x : Int)) (.bool bv) _ hB
  exact hEnd

end Go.Proofs.YtljfhabhenaapaaDoor
