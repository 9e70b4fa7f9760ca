/-
  Rows of numbers of 32 bits; the insertion sort: its steps.
-/
import Derived.Test.YtljfhabhenaapaaDoorIxS
import Derived.Deep.RegionHeld3
namespace Go.Proofs.YtljfhabhenaapaaDoor
open Go.RowKit
set_option linter.unusedVariables false
set_option linter.unusedSimpArgs false
set_option maxRecDepth 100000
def u32R : RowT Nat := ⟨28, 91, 1, 4, fun x => [u32V x], 0⟩
theorem u32_facts : (Tryd.prog.info? 28).map (fun i => (i.zero.map (·.cells), i.size, i.bytes)) = some (some #[u32V 0], 1, 4) := by kernel_rfl
theorem u32_info : ∃ i v, Tryd.prog.info? 28 = some i ∧ i.zero = some v ∧ i.size = 1 ∧ i.bytes = 4 ∧ v.cells = #[u32V 0] := by
  obtain ⟨i, hi, hs⟩ := Option.map_eq_some_iff.1 u32_facts
  simp only [Prod.mk.injEq, Option.map_eq_some_iff] at hs
  obtain ⟨⟨v, hv, hc⟩, h1, h2⟩ := hs
  exact ⟨i, v, hi, hv, h1, h2, hc⟩
theorem u32R_ok : u32R.Ok where
  ht := Tryd.underlying91
  info := u32_info
  len := fun _ => rfl
  one := fun x v hv => by simp only [u32R, List.mem_singleton] at hv; subst hv; rfl
  pos := by decide
  bys := by decide
theorem u4_sz (w : World) : (sizeOf 28).run Tryd.prog w = .ok 1 w := by kernel_rfl
theorem u4_ag (w : World) : (isAgg 28).run Tryd.prog w = .ok false w := by kernel_rfl
theorem sx_int {ops : Array Oper} {o : Oper} {a : Act} {w : World} {K : Act → World → Prop} {Q : Exit → Act → World → Prop} {E : Prop} (hg : o.guard = none) (t : TypeId) (hsz : ∀ w, (sizeOf t).run Tryd.prog w = .ok 1 w) (x y : Operand) (ho : o.op = .store t x y)
    (b f : Nat) (v : Value) (hv : ∃ k z, v = .int k z) (hx : a.eval x = .pointer (some ⟨b, f, none⟩)) (hy : a.eval y = v) (u : Value) (hc : w.cell? ⟨b, f, none⟩ = some u) (hf : w.frozen? ⟨b, f, none⟩ = false)
    (hK : K (a.put o.dst undef) (w.setCell ⟨b, f, none⟩ v)) :
    if Region.wanted o (yielded ops a.tmps) = true then Oper.wp Tryd.prog o a w K Q else E := by
  obtain ⟨d, op, ty, pos, after, g⟩ := o
  obtain rfl : op = .store t x y := ho
  obtain rfl : g = none := hg
  obtain ⟨k, z, rfl⟩ := hv
  have hx' : Act.eval a x = .pointer (some ⟨b, f, none⟩) := hx
  have hw : Region.wanted ({ dst := d, op := .store t x y, type := ty, pos := pos, after := after, guard := none } : Oper) (yielded ops a.tmps) = true := by simp [Region.wanted]
  rw [if_pos hw]
  unfold Oper.wp execOp
  simp only [hx, hy]
  go_simp
  exact hK
set_option maxHeartbeats 4000000 in
theorem nan_any (x : Nat) (w : World) : Calls Tryd.prog 99 #[.int .u32 (x : Int)] w fun e w' => e = .returned (.bool false) ∧ w' = w := by
  have h : ((x : Int) != (x : Int)) = false := by simp
  go_enter Tryd.func99, Tryd.ntmps99
  go_wp2_with fail
  go_ret
  exact ⟨rfl, rfl⟩
set_option maxHeartbeats 4000000 in
theorem less_any (x y : Nat) (w : World) : Calls Tryd.prog 86 #[.int .u32 (x : Int), .int .u32 (y : Int)] w fun e w' => e = .returned (.bool (decide (x < y))) ∧ w' = w := by
  have H := nan_any x w
  go_enter Tryd.func86, Tryd.ntmps86
  go_wp2_with fail
  refine H.mono ?_
  rintro e w1 ⟨rfl, rfl⟩
  go_wp2_with fail
  go_ret
  refine ⟨?_, rfl⟩
  first | rfl | (simp)
def ins6_ops : Array Oper := #[{ dst := some 33, op := Op.move (Operand.tmp 0), type := 91, pos := "zsortordered.go:15", after := #[], guard := none },
{ dst := some 34, op := Op.move (Operand.tmp 7), type := 3, pos := "zsortordered.go:15", after := #[], guard := none },
{ dst := some 35, op := Op.move (Operand.tmp 0), type := 91, pos := "zsortordered.go:15", after := #[{ on := 15, ground := Ground.gcOnly Departure.lateStores }], guard := none },
{ dst := some 36, op := Op.move (Operand.tmp 7), type := 3, pos := "zsortordered.go:15", after := #[{ on := 15, ground := Ground.gcOnly Departure.lateStores }], guard := none },
{ dst := some 37, op := Op.binOp BinOp.sub 3 (Operand.tmp 36) (Operand.const (Value.int IntKind.i64 1)) 3, type := 3, pos := "zsortordered.go:15", after := #[{ on := 3, ground := Ground.data }, { on := 15, ground := Ground.gcOnly Departure.lateStores }], guard := none },
{ dst := some 38, op := Op.move (Operand.tmp 0), type := 91, pos := "zsortordered.go:15", after := #[], guard := none },
{ dst := some 39, op := Op.move (Operand.tmp 7), type := 3, pos := "zsortordered.go:15", after := #[], guard := none },
{ dst := some 40, op := Op.binOp BinOp.sub 3 (Operand.tmp 39) (Operand.const (Value.int IntKind.i64 1)) 3, type := 3, pos := "zsortordered.go:15", after := #[{ on := 6, ground := Ground.data }], guard := none },
{ dst := some 41, op := Op.indexAddr 91 (Operand.tmp 38) (Operand.tmp 40), type := 0, pos := "zsortordered.go:15", after := #[{ on := 5, ground := Ground.data }, { on := 7, ground := Ground.data }], guard := none },
{ dst := some 42, op := Op.load 28 (Operand.tmp 41), type := 28, pos := "zsortordered.go:15", after := #[{ on := 8, ground := Ground.data }], guard := none },
{ dst := some 43, op := Op.move (Operand.tmp 0), type := 91, pos := "zsortordered.go:15", after := #[], guard := none },
{ dst := some 44, op := Op.move (Operand.tmp 7), type := 3, pos := "zsortordered.go:15", after := #[], guard := none },
{ dst := some 45, op := Op.indexAddr 91 (Operand.tmp 43) (Operand.tmp 44), type := 0, pos := "zsortordered.go:15", after := #[{ on := 10, ground := Ground.data }, { on := 11, ground := Ground.data }], guard := none },
{ dst := some 46, op := Op.load 28 (Operand.tmp 45), type := 28, pos := "zsortordered.go:15", after := #[{ on := 12, ground := Ground.data }], guard := none },
{ dst := some 47, op := Op.indexAddr 91 (Operand.tmp 33) (Operand.tmp 34), type := 0, pos := "zsortordered.go:15", after := #[{ on := 0, ground := Ground.data }, { on := 1, ground := Ground.data }, { on := 0, ground := Ground.phase }, { on := 1, ground := Ground.phase }, { on := 2, ground := Ground.textOnly Departure.lateStores }, { on := 3, ground := Ground.textOnly Departure.lateStores }, { on := 4, ground := Ground.textOnly Departure.lateStores }, { on := 5, ground := Ground.phase }, { on := 6, ground := Ground.phase }, { on := 7, ground := Ground.phase }, { on := 8, ground := Ground.phase }, { on := 9, ground := Ground.phase }, { on := 10, ground := Ground.textOnly Departure.lateStores }, { on := 11, ground := Ground.textOnly Departure.lateStores }, { on := 12, ground := Ground.textOnly Departure.lateStoresUnsure }, { on := 13, ground := Ground.phase }], guard := none },
{ dst := none, op := Op.store 28 (Operand.tmp 47) (Operand.tmp 42), type := 0, pos := "zsortordered.go:15", after := #[{ on := 14, ground := Ground.data }, { on := 9, ground := Ground.data }, { on := 0, ground := Ground.phase }, { on := 1, ground := Ground.phase }, { on := 2, ground := Ground.textOnly Departure.lateStores }, { on := 3, ground := Ground.textOnly Departure.lateStores }, { on := 4, ground := Ground.textOnly Departure.lateStores }, { on := 5, ground := Ground.phase }, { on := 6, ground := Ground.phase }, { on := 7, ground := Ground.phase }, { on := 8, ground := Ground.phase }, { on := 9, ground := Ground.phase }, { on := 10, ground := Ground.textOnly Departure.lateStores }, { on := 11, ground := Ground.textOnly Departure.lateStores }, { on := 12, ground := Ground.textOnly Departure.lateStoresUnsure }, { on := 13, ground := Ground.phase }], guard := none },
{ dst := some 48, op := Op.indexAddr 91 (Operand.tmp 35) (Operand.tmp 37), type := 0, pos := "zsortordered.go:15", after := #[{ on := 2, ground := Ground.data }, { on := 4, ground := Ground.data }, { on := 0, ground := Ground.phase }, { on := 1, ground := Ground.phase }, { on := 2, ground := Ground.phase }, { on := 3, ground := Ground.phase }, { on := 4, ground := Ground.phase }, { on := 5, ground := Ground.phase }, { on := 6, ground := Ground.phase }, { on := 7, ground := Ground.phase }, { on := 8, ground := Ground.phase }, { on := 9, ground := Ground.phase }, { on := 10, ground := Ground.phase }, { on := 11, ground := Ground.phase }, { on := 12, ground := Ground.phase }, { on := 13, ground := Ground.phase }, { on := 14, ground := Ground.phase }, { on := 15, ground := Ground.phase }], guard := none },
{ dst := none, op := Op.store 28 (Operand.tmp 48) (Operand.tmp 46), type := 0, pos := "zsortordered.go:15", after := #[{ on := 16, ground := Ground.data }, { on := 13, ground := Ground.data }, { on := 15, ground := Ground.chain }, { on := 0, ground := Ground.phase }, { on := 1, ground := Ground.phase }, { on := 2, ground := Ground.phase }, { on := 3, ground := Ground.phase }, { on := 4, ground := Ground.phase }, { on := 5, ground := Ground.phase }, { on := 6, ground := Ground.phase }, { on := 7, ground := Ground.phase }, { on := 8, ground := Ground.phase }, { on := 9, ground := Ground.phase }, { on := 10, ground := Ground.phase }, { on := 11, ground := Ground.phase }, { on := 12, ground := Ground.phase }, { on := 13, ground := Ground.phase }, { on := 14, ground := Ground.phase }, { on := 15, ground := Ground.phase }], guard := none }]
set_option maxRecDepth 100000 in
set_option maxHeartbeats 4000000 in
theorem ins6_9_13_15_17 (b n c i j x y : Nat) (cs : Array Value) (V : World) (t1 t2 t3 t4 t5 t6 t8 t9 t10 t11 t12 t13 t14 t15 t16 t17 t18 t19 t20 t21 t22 t23 t24 t25 t26 t27 t28 t29 t30 t31 t32 t33 t34 t35 t36 t37 t38 t39 t40 t41 t42 t43 t44 t45 t46 t47 t48 : Value) (Q : Exit → Act → World → Prop) (zb : b < V.heap.size) (hi : i < n) (hj : j < n) (hi0 : (0 : Int) ≤ (i : Int)) (hj0 : (0 : Int) ≤ (j : Int)) (hji : IntKind.i64.wrap ((j : Int) - 1) = (i : Int)) (hci : cs[i]? = some (.int .u32 (y : Int))) (hcj : cs[j]? = some (.int .u32 (x : Int))) (hci2 : (cs.setIfInBounds j (.int .u32 (y : Int)))[i]? = some (.int .u32 (y : Int))) (HK : Hid (Bk V b 28 cs)) (HQ : Hid (∀ (x33 x34 x35 x36 x37 x38 x39 x40 x41 x42 x43 x44 x45 x46 x47 x48 : Value)  (w' : World), But (fun k => k = b) V w' → Bk w' b 28 ((cs.setIfInBounds j (.int .u32 (y : Int))).setIfInBounds i (.int .u32 (x : Int))) → Q .normal { tmps := List.toArray (.slice (some ⟨b, 0, none⟩) n c :: t1 :: t2 :: t3 :: t4 :: t5 :: t6 :: .int .i64 (j : Int) :: t8 :: t9 :: t10 :: t11 :: t12 :: t13 :: t14 :: t15 :: t16 :: t17 :: t18 :: t19 :: t20 :: t21 :: t22 :: t23 :: t24 :: t25 :: t26 :: t27 :: t28 :: t29 :: t30 :: t31 :: t32 :: x33 :: x34 :: x35 :: x36 :: x37 :: x38 :: x39 :: x40 :: x41 :: x42 :: x43 :: x44 :: x45 :: x46 :: x47 :: x48 :: []), defers := [] } w')) (w : World) (hB : But (fun k => k = b) V w) (hend : Bk w b 28 ((cs.setIfInBounds j (.int .u32 (y : Int))).setIfInBounds i (.int .u32 (x : Int)))) :
    wpAnyH Tryd.prog .any ins6_ops (NoPanic Q) (fun w' => But (fun k => k = b) V w') 0 #[true, true, true, true, true, true, true, true, true, true, true, true, true, true, true, true, true, true] { tmps := List.toArray (.slice (some ⟨b, 0, none⟩) n c :: t1 :: t2 :: t3 :: t4 :: t5 :: t6 :: .int .i64 (j : Int) :: t8 :: t9 :: t10 :: t11 :: t12 :: t13 :: t14 :: t15 :: t16 :: t17 :: t18 :: t19 :: t20 :: t21 :: t22 :: t23 :: t24 :: t25 :: t26 :: t27 :: t28 :: t29 :: t30 :: t31 :: t32 :: .slice (some ⟨b, 0, none⟩) n c :: .int .i64 (j : Int) :: .slice (some ⟨b, 0, none⟩) n c :: .int .i64 (j : Int) :: .int .i64 (i : Int) :: .slice (some ⟨b, 0, none⟩) n c :: .int .i64 (j : Int) :: .int .i64 (i : Int) :: .pointer (some ⟨b, i, none⟩) :: .int .u32 (y : Int) :: .slice (some ⟨b, 0, none⟩) n c :: .int .i64 (j : Int) :: .pointer (some ⟨b, j, none⟩) :: .int .u32 (x : Int) :: .pointer (some ⟨b, j, none⟩) :: .pointer (some ⟨b, i, none⟩) :: []), defers := [] } w := by
  refine wpAnyH_done (by kernel_rfl) ?_ _
  refine NoPanic.normal ?_
  have hEnd := HQ.out (.slice (some ⟨b, 0, none⟩) n c) (.int .i64 (j : Int)) (.slice (some ⟨b, 0, none⟩) n c) (.int .i64 (j : Int)) (.int .i64 (i : Int)) (.slice (some ⟨b, 0, none⟩) n c) (.int .i64 (j : Int)) (.int .i64 (i : Int)) (.pointer (some ⟨b, i, none⟩)) (.int .u32 (y : Int)) (.slice (some ⟨b, 0, none⟩) n c) (.int .i64 (j : Int)) (.pointer (some ⟨b, j, none⟩)) (.int .u32 (x : Int)) (.pointer (some ⟨b, j, none⟩)) (.pointer (some ⟨b, i, none⟩)) _ hB hend
  exact hEnd

set_option maxRecDepth 100000 in
set_option maxHeartbeats 4000000 in
theorem ins6_9_13_15 (b n c i j x y : Nat) (cs : Array Value) (V : World) (t1 t2 t3 t4 t5 t6 t8 t9 t10 t11 t12 t13 t14 t15 t16 t17 t18 t19 t20 t21 t22 t23 t24 t25 t26 t27 t28 t29 t30 t31 t32 t33 t34 t35 t36 t37 t38 t39 t40 t41 t42 t43 t44 t45 t46 t47 t48 : Value) (Q : Exit → Act → World → Prop) (zb : b < V.heap.size) (hi : i < n) (hj : j < n) (hi0 : (0 : Int) ≤ (i : Int)) (hj0 : (0 : Int) ≤ (j : Int)) (hji : IntKind.i64.wrap ((j : Int) - 1) = (i : Int)) (hci : cs[i]? = some (.int .u32 (y : Int))) (hcj : cs[j]? = some (.int .u32 (x : Int))) (hci2 : (cs.setIfInBounds j (.int .u32 (y : Int)))[i]? = some (.int .u32 (y : Int))) (HK : Hid (Bk V b 28 cs)) (HQ : Hid (∀ (x33 x34 x35 x36 x37 x38 x39 x40 x41 x42 x43 x44 x45 x46 x47 x48 : Value)  (w' : World), But (fun k => k = b) V w' → Bk w' b 28 ((cs.setIfInBounds j (.int .u32 (y : Int))).setIfInBounds i (.int .u32 (x : Int))) → Q .normal { tmps := List.toArray (.slice (some ⟨b, 0, none⟩) n c :: t1 :: t2 :: t3 :: t4 :: t5 :: t6 :: .int .i64 (j : Int) :: t8 :: t9 :: t10 :: t11 :: t12 :: t13 :: t14 :: t15 :: t16 :: t17 :: t18 :: t19 :: t20 :: t21 :: t22 :: t23 :: t24 :: t25 :: t26 :: t27 :: t28 :: t29 :: t30 :: t31 :: t32 :: x33 :: x34 :: x35 :: x36 :: x37 :: x38 :: x39 :: x40 :: x41 :: x42 :: x43 :: x44 :: x45 :: x46 :: x47 :: x48 :: []), defers := [] } w')) (w : World) (hB : But (fun k => k = b) V w) (k1 : Bk w b 28 (cs.setIfInBounds j (.int .u32 (y : Int)))) :
    wpAnyH Tryd.prog .any ins6_ops (NoPanic Q) (fun w' => But (fun k => k = b) V w') 1 #[true, true, true, true, true, true, true, true, true, true, true, true, true, true, true, true, true, false] { tmps := List.toArray (.slice (some ⟨b, 0, none⟩) n c :: t1 :: t2 :: t3 :: t4 :: t5 :: t6 :: .int .i64 (j : Int) :: t8 :: t9 :: t10 :: t11 :: t12 :: t13 :: t14 :: t15 :: t16 :: t17 :: t18 :: t19 :: t20 :: t21 :: t22 :: t23 :: t24 :: t25 :: t26 :: t27 :: t28 :: t29 :: t30 :: t31 :: t32 :: .slice (some ⟨b, 0, none⟩) n c :: .int .i64 (j : Int) :: .slice (some ⟨b, 0, none⟩) n c :: .int .i64 (j : Int) :: .int .i64 (i : Int) :: .slice (some ⟨b, 0, none⟩) n c :: .int .i64 (j : Int) :: .int .i64 (i : Int) :: .pointer (some ⟨b, i, none⟩) :: .int .u32 (y : Int) :: .slice (some ⟨b, 0, none⟩) n c :: .int .i64 (j : Int) :: .pointer (some ⟨b, j, none⟩) :: .int .u32 (x : Int) :: .pointer (some ⟨b, j, none⟩) :: .pointer (some ⟨b, i, none⟩) :: []), defers := [] } w := by
  refine wpAnyH_ready (rs := [17]) (by kernel_rfl) (by simp) ?_
  refine AllReadyH.cons rfl (fun K hK => ?_) ?_
  · refine sx_int rfl 28 u4_sz (.tmp 48) (.tmp 46) rfl b i _ ⟨_, _, rfl⟩ rfl rfl _ ((k1.cell _).trans hci2) (k1.frozen _) ?_
    simp only [Act.put, List.setIfInBounds_toArray, List.set_cons_zero, List.set_cons_succ]
    have hB2 := (But.set_ (S := fun k => k = b) (g := b) hB (.inl rfl) i none (.int .u32 (x : Int)))
    refine hK.out _ _ hB2 (fun _ => ?_)
    show wpAnyH _ _ _ _ _ 0 #[true, true, true, true, true, true, true, true, true, true, true, true, true, true, true, true, true, true] { tmps := List.toArray (.slice (some ⟨b, 0, none⟩) n c :: t1 :: t2 :: t3 :: t4 :: t5 :: t6 :: .int .i64 (j : Int) :: t8 :: t9 :: t10 :: t11 :: t12 :: t13 :: t14 :: t15 :: t16 :: t17 :: t18 :: t19 :: t20 :: t21 :: t22 :: t23 :: t24 :: t25 :: t26 :: t27 :: t28 :: t29 :: t30 :: t31 :: t32 :: .slice (some ⟨b, 0, none⟩) n c :: .int .i64 (j : Int) :: .slice (some ⟨b, 0, none⟩) n c :: .int .i64 (j : Int) :: .int .i64 (i : Int) :: .slice (some ⟨b, 0, none⟩) n c :: .int .i64 (j : Int) :: .int .i64 (i : Int) :: .pointer (some ⟨b, i, none⟩) :: .int .u32 (y : Int) :: .slice (some ⟨b, 0, none⟩) n c :: .int .i64 (j : Int) :: .pointer (some ⟨b, j, none⟩) :: .int .u32 (x : Int) :: .pointer (some ⟨b, j, none⟩) :: .pointer (some ⟨b, i, none⟩) :: []), defers := [] } _
    exact ins6_9_13_15_17 b n c i j x y cs V t1 t2 t3 t4 t5 t6 t8 t9 t10 t11 t12 t13 t14 t15 t16 t17 t18 t19 t20 t21 t22 t23 t24 t25 t26 t27 t28 t29 t30 t31 t32 t33 t34 t35 t36 t37 t38 t39 t40 t41 t42 t43 t44 t45 t46 t47 t48 Q zb hi hj hi0 hj0 hji hci hcj hci2 HK HQ _ hB2 ((k1.set_ i (.int .u32 (x : Int))))
  exact AllReadyH.nil

set_option maxRecDepth 100000 in
set_option maxHeartbeats 4000000 in
theorem ins6_9_13 (b n c i j x y : Nat) (cs : Array Value) (V : World) (t1 t2 t3 t4 t5 t6 t8 t9 t10 t11 t12 t13 t14 t15 t16 t17 t18 t19 t20 t21 t22 t23 t24 t25 t26 t27 t28 t29 t30 t31 t32 t33 t34 t35 t36 t37 t38 t39 t40 t41 t42 t43 t44 t45 t46 t47 t48 : Value) (Q : Exit → Act → World → Prop) (zb : b < V.heap.size) (hi : i < n) (hj : j < n) (hi0 : (0 : Int) ≤ (i : Int)) (hj0 : (0 : Int) ≤ (j : Int)) (hji : IntKind.i64.wrap ((j : Int) - 1) = (i : Int)) (hci : cs[i]? = some (.int .u32 (y : Int))) (hcj : cs[j]? = some (.int .u32 (x : Int))) (hci2 : (cs.setIfInBounds j (.int .u32 (y : Int)))[i]? = some (.int .u32 (y : Int))) (HK : Hid (Bk V b 28 cs)) (HQ : Hid (∀ (x33 x34 x35 x36 x37 x38 x39 x40 x41 x42 x43 x44 x45 x46 x47 x48 : Value)  (w' : World), But (fun k => k = b) V w' → Bk w' b 28 ((cs.setIfInBounds j (.int .u32 (y : Int))).setIfInBounds i (.int .u32 (x : Int))) → Q .normal { tmps := List.toArray (.slice (some ⟨b, 0, none⟩) n c :: t1 :: t2 :: t3 :: t4 :: t5 :: t6 :: .int .i64 (j : Int) :: t8 :: t9 :: t10 :: t11 :: t12 :: t13 :: t14 :: t15 :: t16 :: t17 :: t18 :: t19 :: t20 :: t21 :: t22 :: t23 :: t24 :: t25 :: t26 :: t27 :: t28 :: t29 :: t30 :: t31 :: t32 :: x33 :: x34 :: x35 :: x36 :: x37 :: x38 :: x39 :: x40 :: x41 :: x42 :: x43 :: x44 :: x45 :: x46 :: x47 :: x48 :: []), defers := [] } w')) (w : World) (hB : But (fun k => k = b) V w) (k0 : Bk w b 28 cs) :
    wpAnyH Tryd.prog .any ins6_ops (NoPanic Q) (fun w' => But (fun k => k = b) V w') 3 #[true, true, true, true, true, true, true, true, true, true, true, true, true, true, true, false, false, false] { tmps := List.toArray (.slice (some ⟨b, 0, none⟩) n c :: t1 :: t2 :: t3 :: t4 :: t5 :: t6 :: .int .i64 (j : Int) :: t8 :: t9 :: t10 :: t11 :: t12 :: t13 :: t14 :: t15 :: t16 :: t17 :: t18 :: t19 :: t20 :: t21 :: t22 :: t23 :: t24 :: t25 :: t26 :: t27 :: t28 :: t29 :: t30 :: t31 :: t32 :: .slice (some ⟨b, 0, none⟩) n c :: .int .i64 (j : Int) :: .slice (some ⟨b, 0, none⟩) n c :: .int .i64 (j : Int) :: .int .i64 (i : Int) :: .slice (some ⟨b, 0, none⟩) n c :: .int .i64 (j : Int) :: .int .i64 (i : Int) :: .pointer (some ⟨b, i, none⟩) :: .int .u32 (y : Int) :: .slice (some ⟨b, 0, none⟩) n c :: .int .i64 (j : Int) :: .pointer (some ⟨b, j, none⟩) :: .int .u32 (x : Int) :: .pointer (some ⟨b, j, none⟩) :: t48 :: []), defers := [] } w := by
  refine wpAnyH_ready (rs := [15]) (by kernel_rfl) (by simp) ?_
  refine AllReadyH.cons rfl (fun K hK => ?_) ?_
  · refine sx_int rfl 28 u4_sz (.tmp 47) (.tmp 42) rfl b j _ ⟨_, _, rfl⟩ rfl rfl _ ((k0.cell _).trans hcj) (k0.frozen _) ?_
    simp only [Act.put, List.setIfInBounds_toArray, List.set_cons_zero, List.set_cons_succ]
    have hB2 := (But.set_ (S := fun k => k = b) (g := b) hB (.inl rfl) j none (.int .u32 (y : Int)))
    refine hK.out _ _ hB2 (fun _ => ?_)
    show wpAnyH _ _ _ _ _ 2 #[true, true, true, true, true, true, true, true, true, true, true, true, true, true, true, true, false, false] { tmps := List.toArray (.slice (some ⟨b, 0, none⟩) n c :: t1 :: t2 :: t3 :: t4 :: t5 :: t6 :: .int .i64 (j : Int) :: t8 :: t9 :: t10 :: t11 :: t12 :: t13 :: t14 :: t15 :: t16 :: t17 :: t18 :: t19 :: t20 :: t21 :: t22 :: t23 :: t24 :: t25 :: t26 :: t27 :: t28 :: t29 :: t30 :: t31 :: t32 :: .slice (some ⟨b, 0, none⟩) n c :: .int .i64 (j : Int) :: .slice (some ⟨b, 0, none⟩) n c :: .int .i64 (j : Int) :: .int .i64 (i : Int) :: .slice (some ⟨b, 0, none⟩) n c :: .int .i64 (j : Int) :: .int .i64 (i : Int) :: .pointer (some ⟨b, i, none⟩) :: .int .u32 (y : Int) :: .slice (some ⟨b, 0, none⟩) n c :: .int .i64 (j : Int) :: .pointer (some ⟨b, j, none⟩) :: .int .u32 (x : Int) :: .pointer (some ⟨b, j, none⟩) :: t48 :: []), defers := [] } _
    refine wpAnyH_take (i := 16) (oi := { dst := some 48, op := Op.indexAddr 91 (Operand.tmp 35) (Operand.tmp 37), type := 0, pos := "zsortordered.go:15", after := #[{ on := 2, ground := Ground.data }, { on := 4, ground := Ground.data }, { on := 0, ground := Ground.phase }, { on := 1, ground := Ground.phase }, { on := 2, ground := Ground.phase }, { on := 3, ground := Ground.phase }, { on := 4, ground := Ground.phase }, { on := 5, ground := Ground.phase }, { on := 6, ground := Ground.phase }, { on := 7, ground := Ground.phase }, { on := 8, ground := Ground.phase }, { on := 9, ground := Ground.phase }, { on := 10, ground := Ground.phase }, { on := 11, ground := Ground.phase }, { on := 12, ground := Ground.phase }, { on := 13, ground := Ground.phase }, { on := 14, ground := Ground.phase }, { on := 15, ground := Ground.phase }], guard := none }) (v := .pointer (some ⟨b, i, none⟩)) rfl (by kernel_rfl) (by kernel_rfl) (by kernel_rfl) (fun _ _ _ h => h) ?_ hB2 ?_
    · (refine Or.inl ⟨by kernel_rfl, ?_⟩; intro w hSw; have h1 := hi; have h2 := hi0; have hzb := Nat.lt_of_lt_of_le zb hSw.size; go_simp)
    simp only [Act.put, List.setIfInBounds_toArray, List.set_cons_zero, List.set_cons_succ]
    exact ins6_9_13_15 b n c i j x y cs V t1 t2 t3 t4 t5 t6 t8 t9 t10 t11 t12 t13 t14 t15 t16 t17 t18 t19 t20 t21 t22 t23 t24 t25 t26 t27 t28 t29 t30 t31 t32 t33 t34 t35 t36 t37 t38 t39 t40 t41 t42 t43 t44 t45 t46 t47 t48 Q zb hi hj hi0 hj0 hji hci hcj hci2 HK HQ _ hB2 ((k0.set_ j (.int .u32 (y : Int))))
  exact AllReadyH.nil

set_option maxRecDepth 100000 in
set_option maxHeartbeats 4000000 in
theorem ins6_9 (b n c i j x y : Nat) (cs : Array Value) (V : World) (t1 t2 t3 t4 t5 t6 t8 t9 t10 t11 t12 t13 t14 t15 t16 t17 t18 t19 t20 t21 t22 t23 t24 t25 t26 t27 t28 t29 t30 t31 t32 t33 t34 t35 t36 t37 t38 t39 t40 t41 t42 t43 t44 t45 t46 t47 t48 : Value) (Q : Exit → Act → World → Prop) (zb : b < V.heap.size) (hi : i < n) (hj : j < n) (hi0 : (0 : Int) ≤ (i : Int)) (hj0 : (0 : Int) ≤ (j : Int)) (hji : IntKind.i64.wrap ((j : Int) - 1) = (i : Int)) (hci : cs[i]? = some (.int .u32 (y : Int))) (hcj : cs[j]? = some (.int .u32 (x : Int))) (hci2 : (cs.setIfInBounds j (.int .u32 (y : Int)))[i]? = some (.int .u32 (y : Int))) (HK : Hid (Bk V b 28 cs)) (HQ : Hid (∀ (x33 x34 x35 x36 x37 x38 x39 x40 x41 x42 x43 x44 x45 x46 x47 x48 : Value)  (w' : World), But (fun k => k = b) V w' → Bk w' b 28 ((cs.setIfInBounds j (.int .u32 (y : Int))).setIfInBounds i (.int .u32 (x : Int))) → Q .normal { tmps := List.toArray (.slice (some ⟨b, 0, none⟩) n c :: t1 :: t2 :: t3 :: t4 :: t5 :: t6 :: .int .i64 (j : Int) :: t8 :: t9 :: t10 :: t11 :: t12 :: t13 :: t14 :: t15 :: t16 :: t17 :: t18 :: t19 :: t20 :: t21 :: t22 :: t23 :: t24 :: t25 :: t26 :: t27 :: t28 :: t29 :: t30 :: t31 :: t32 :: x33 :: x34 :: x35 :: x36 :: x37 :: x38 :: x39 :: x40 :: x41 :: x42 :: x43 :: x44 :: x45 :: x46 :: x47 :: x48 :: []), defers := [] } w')) (w : World) (hB : But (fun k => k = b) V w) (k0 : Bk w b 28 cs) :
    wpAnyH Tryd.prog .any ins6_ops (NoPanic Q) (fun w' => But (fun k => k = b) V w') 5 #[true, true, true, true, true, true, true, true, true, true, true, true, true, false, false, false, false, false] { tmps := List.toArray (.slice (some ⟨b, 0, none⟩) n c :: t1 :: t2 :: t3 :: t4 :: t5 :: t6 :: .int .i64 (j : Int) :: t8 :: t9 :: t10 :: t11 :: t12 :: t13 :: t14 :: t15 :: t16 :: t17 :: t18 :: t19 :: t20 :: t21 :: t22 :: t23 :: t24 :: t25 :: t26 :: t27 :: t28 :: t29 :: t30 :: t31 :: t32 :: .slice (some ⟨b, 0, none⟩) n c :: .int .i64 (j : Int) :: .slice (some ⟨b, 0, none⟩) n c :: .int .i64 (j : Int) :: .int .i64 (i : Int) :: .slice (some ⟨b, 0, none⟩) n c :: .int .i64 (j : Int) :: .int .i64 (i : Int) :: .pointer (some ⟨b, i, none⟩) :: .int .u32 (y : Int) :: .slice (some ⟨b, 0, none⟩) n c :: .int .i64 (j : Int) :: .pointer (some ⟨b, j, none⟩) :: t46 :: t47 :: t48 :: []), defers := [] } w := by
  refine wpAnyH_ready (rs := [13]) (by kernel_rfl) (by simp) ?_
  refine AllReadyH.cons rfl (fun K hK => ?_) ?_
  · refine sx_load rfl 28 u4_sz u4_ag (.tmp 45) rfl b j _ rfl ((k0.cell _).trans hcj) ?_
    simp only [Act.put, List.setIfInBounds_toArray, List.set_cons_zero, List.set_cons_succ]
    have hB2 := hB
    refine hK.out _ _ hB2 (fun _ => ?_)
    show wpAnyH _ _ _ _ _ 4 #[true, true, true, true, true, true, true, true, true, true, true, true, true, true, false, false, false, false] { tmps := List.toArray (.slice (some ⟨b, 0, none⟩) n c :: t1 :: t2 :: t3 :: t4 :: t5 :: t6 :: .int .i64 (j : Int) :: t8 :: t9 :: t10 :: t11 :: t12 :: t13 :: t14 :: t15 :: t16 :: t17 :: t18 :: t19 :: t20 :: t21 :: t22 :: t23 :: t24 :: t25 :: t26 :: t27 :: t28 :: t29 :: t30 :: t31 :: t32 :: .slice (some ⟨b, 0, none⟩) n c :: .int .i64 (j : Int) :: .slice (some ⟨b, 0, none⟩) n c :: .int .i64 (j : Int) :: .int .i64 (i : Int) :: .slice (some ⟨b, 0, none⟩) n c :: .int .i64 (j : Int) :: .int .i64 (i : Int) :: .pointer (some ⟨b, i, none⟩) :: .int .u32 (y : Int) :: .slice (some ⟨b, 0, none⟩) n c :: .int .i64 (j : Int) :: .pointer (some ⟨b, j, none⟩) :: .int .u32 (x : Int) :: t47 :: t48 :: []), defers := [] } _
    refine wpAnyH_take (i := 14) (oi := { dst := some 47, op := Op.indexAddr 91 (Operand.tmp 33) (Operand.tmp 34), type := 0, pos := "zsortordered.go:15", after := #[{ on := 0, ground := Ground.data }, { on := 1, ground := Ground.data }, { on := 0, ground := Ground.phase }, { on := 1, ground := Ground.phase }, { on := 2, ground := Ground.textOnly Departure.lateStores }, { on := 3, ground := Ground.textOnly Departure.lateStores }, { on := 4, ground := Ground.textOnly Departure.lateStores }, { on := 5, ground := Ground.phase }, { on := 6, ground := Ground.phase }, { on := 7, ground := Ground.phase }, { on := 8, ground := Ground.phase }, { on := 9, ground := Ground.phase }, { on := 10, ground := Ground.textOnly Departure.lateStores }, { on := 11, ground := Ground.textOnly Departure.lateStores }, { on := 12, ground := Ground.textOnly Departure.lateStoresUnsure }, { on := 13, ground := Ground.phase }], guard := none }) (v := .pointer (some ⟨b, j, none⟩)) rfl (by kernel_rfl) (by kernel_rfl) (by kernel_rfl) (fun _ _ _ h => h) ?_ hB2 ?_
    · (refine Or.inl ⟨by kernel_rfl, ?_⟩; intro w hSw; have h1 := hj; have h2 := hj0; have hzb := Nat.lt_of_lt_of_le zb hSw.size; go_simp)
    simp only [Act.put, List.setIfInBounds_toArray, List.set_cons_zero, List.set_cons_succ]
    exact ins6_9_13 b n c i j x y cs V t1 t2 t3 t4 t5 t6 t8 t9 t10 t11 t12 t13 t14 t15 t16 t17 t18 t19 t20 t21 t22 t23 t24 t25 t26 t27 t28 t29 t30 t31 t32 t33 t34 t35 t36 t37 t38 t39 t40 t41 t42 t43 t44 t45 t46 t47 t48 Q zb hi hj hi0 hj0 hji hci hcj hci2 HK HQ _ hB2 (k0)
  exact AllReadyH.nil

set_option maxRecDepth 100000 in
set_option maxHeartbeats 4000000 in
theorem ins6_13 (b n c i j x y : Nat) (cs : Array Value) (V : World) (t1 t2 t3 t4 t5 t6 t8 t9 t10 t11 t12 t13 t14 t15 t16 t17 t18 t19 t20 t21 t22 t23 t24 t25 t26 t27 t28 t29 t30 t31 t32 t33 t34 t35 t36 t37 t38 t39 t40 t41 t42 t43 t44 t45 t46 t47 t48 : Value) (Q : Exit → Act → World → Prop) (zb : b < V.heap.size) (hi : i < n) (hj : j < n) (hi0 : (0 : Int) ≤ (i : Int)) (hj0 : (0 : Int) ≤ (j : Int)) (hji : IntKind.i64.wrap ((j : Int) - 1) = (i : Int)) (hci : cs[i]? = some (.int .u32 (y : Int))) (hcj : cs[j]? = some (.int .u32 (x : Int))) (hci2 : (cs.setIfInBounds j (.int .u32 (y : Int)))[i]? = some (.int .u32 (y : Int))) (HK : Hid (Bk V b 28 cs)) (HQ : Hid (∀ (x33 x34 x35 x36 x37 x38 x39 x40 x41 x42 x43 x44 x45 x46 x47 x48 : Value)  (w' : World), But (fun k => k = b) V w' → Bk w' b 28 ((cs.setIfInBounds j (.int .u32 (y : Int))).setIfInBounds i (.int .u32 (x : Int))) → Q .normal { tmps := List.toArray (.slice (some ⟨b, 0, none⟩) n c :: t1 :: t2 :: t3 :: t4 :: t5 :: t6 :: .int .i64 (j : Int) :: t8 :: t9 :: t10 :: t11 :: t12 :: t13 :: t14 :: t15 :: t16 :: t17 :: t18 :: t19 :: t20 :: t21 :: t22 :: t23 :: t24 :: t25 :: t26 :: t27 :: t28 :: t29 :: t30 :: t31 :: t32 :: x33 :: x34 :: x35 :: x36 :: x37 :: x38 :: x39 :: x40 :: x41 :: x42 :: x43 :: x44 :: x45 :: x46 :: x47 :: x48 :: []), defers := [] } w')) (w : World) (hB : But (fun k => k = b) V w) (k0 : Bk w b 28 cs) :
    wpAnyH Tryd.prog .any ins6_ops (NoPanic Q) (fun w' => But (fun k => k = b) V w') 5 #[true, true, true, true, true, true, true, true, true, false, true, true, true, true, false, false, false, false] { tmps := List.toArray (.slice (some ⟨b, 0, none⟩) n c :: t1 :: t2 :: t3 :: t4 :: t5 :: t6 :: .int .i64 (j : Int) :: t8 :: t9 :: t10 :: t11 :: t12 :: t13 :: t14 :: t15 :: t16 :: t17 :: t18 :: t19 :: t20 :: t21 :: t22 :: t23 :: t24 :: t25 :: t26 :: t27 :: t28 :: t29 :: t30 :: t31 :: t32 :: .slice (some ⟨b, 0, none⟩) n c :: .int .i64 (j : Int) :: .slice (some ⟨b, 0, none⟩) n c :: .int .i64 (j : Int) :: .int .i64 (i : Int) :: .slice (some ⟨b, 0, none⟩) n c :: .int .i64 (j : Int) :: .int .i64 (i : Int) :: .pointer (some ⟨b, i, none⟩) :: t42 :: .slice (some ⟨b, 0, none⟩) n c :: .int .i64 (j : Int) :: .pointer (some ⟨b, j, none⟩) :: .int .u32 (x : Int) :: t47 :: t48 :: []), defers := [] } w := by
  refine wpAnyH_ready (rs := [9]) (by kernel_rfl) (by simp) ?_
  refine AllReadyH.cons rfl (fun K hK => ?_) ?_
  · refine sx_load rfl 28 u4_sz u4_ag (.tmp 41) rfl b i _ rfl ((k0.cell _).trans hci) ?_
    simp only [Act.put, List.setIfInBounds_toArray, List.set_cons_zero, List.set_cons_succ]
    have hB2 := hB
    refine hK.out _ _ hB2 (fun _ => ?_)
    show wpAnyH _ _ _ _ _ 4 #[true, true, true, true, true, true, true, true, true, true, true, true, true, true, false, false, false, false] { tmps := List.toArray (.slice (some ⟨b, 0, none⟩) n c :: t1 :: t2 :: t3 :: t4 :: t5 :: t6 :: .int .i64 (j : Int) :: t8 :: t9 :: t10 :: t11 :: t12 :: t13 :: t14 :: t15 :: t16 :: t17 :: t18 :: t19 :: t20 :: t21 :: t22 :: t23 :: t24 :: t25 :: t26 :: t27 :: t28 :: t29 :: t30 :: t31 :: t32 :: .slice (some ⟨b, 0, none⟩) n c :: .int .i64 (j : Int) :: .slice (some ⟨b, 0, none⟩) n c :: .int .i64 (j : Int) :: .int .i64 (i : Int) :: .slice (some ⟨b, 0, none⟩) n c :: .int .i64 (j : Int) :: .int .i64 (i : Int) :: .pointer (some ⟨b, i, none⟩) :: .int .u32 (y : Int) :: .slice (some ⟨b, 0, none⟩) n c :: .int .i64 (j : Int) :: .pointer (some ⟨b, j, none⟩) :: .int .u32 (x : Int) :: t47 :: t48 :: []), defers := [] } _
    refine wpAnyH_take (i := 14) (oi := { dst := some 47, op := Op.indexAddr 91 (Operand.tmp 33) (Operand.tmp 34), type := 0, pos := "zsortordered.go:15", after := #[{ on := 0, ground := Ground.data }, { on := 1, ground := Ground.data }, { on := 0, ground := Ground.phase }, { on := 1, ground := Ground.phase }, { on := 2, ground := Ground.textOnly Departure.lateStores }, { on := 3, ground := Ground.textOnly Departure.lateStores }, { on := 4, ground := Ground.textOnly Departure.lateStores }, { on := 5, ground := Ground.phase }, { on := 6, ground := Ground.phase }, { on := 7, ground := Ground.phase }, { on := 8, ground := Ground.phase }, { on := 9, ground := Ground.phase }, { on := 10, ground := Ground.textOnly Departure.lateStores }, { on := 11, ground := Ground.textOnly Departure.lateStores }, { on := 12, ground := Ground.textOnly Departure.lateStoresUnsure }, { on := 13, ground := Ground.phase }], guard := none }) (v := .pointer (some ⟨b, j, none⟩)) rfl (by kernel_rfl) (by kernel_rfl) (by kernel_rfl) (fun _ _ _ h => h) ?_ hB2 ?_
    · (refine Or.inl ⟨by kernel_rfl, ?_⟩; intro w hSw; have h1 := hj; have h2 := hj0; have hzb := Nat.lt_of_lt_of_le zb hSw.size; go_simp)
    simp only [Act.put, List.setIfInBounds_toArray, List.set_cons_zero, List.set_cons_succ]
    exact ins6_9_13 b n c i j x y cs V t1 t2 t3 t4 t5 t6 t8 t9 t10 t11 t12 t13 t14 t15 t16 t17 t18 t19 t20 t21 t22 t23 t24 t25 t26 t27 t28 t29 t30 t31 t32 t33 t34 t35 t36 t37 t38 t39 t40 t41 t42 t43 t44 t45 t46 t47 t48 Q zb hi hj hi0 hj0 hji hci hcj hci2 HK HQ _ hB2 (k0)
  exact AllReadyH.nil

set_option maxRecDepth 100000 in
set_option maxHeartbeats 4000000 in
theorem ins6_o (b n c i j x y : Nat) (cs : Array Value) (V : World) (t1 t2 t3 t4 t5 t6 t8 t9 t10 t11 t12 t13 t14 t15 t16 t17 t18 t19 t20 t21 t22 t23 t24 t25 t26 t27 t28 t29 t30 t31 t32 t33 t34 t35 t36 t37 t38 t39 t40 t41 t42 t43 t44 t45 t46 t47 t48 : Value) (Q : Exit → Act → World → Prop) (zb : b < V.heap.size) (hi : i < n) (hj : j < n) (hi0 : (0 : Int) ≤ (i : Int)) (hj0 : (0 : Int) ≤ (j : Int)) (hji : IntKind.i64.wrap ((j : Int) - 1) = (i : Int)) (hci : cs[i]? = some (.int .u32 (y : Int))) (hcj : cs[j]? = some (.int .u32 (x : Int))) (hci2 : (cs.setIfInBounds j (.int .u32 (y : Int)))[i]? = some (.int .u32 (y : Int))) (HK : Hid (Bk V b 28 cs)) (HQ : Hid (∀ (x33 x34 x35 x36 x37 x38 x39 x40 x41 x42 x43 x44 x45 x46 x47 x48 : Value)  (w' : World), But (fun k => k = b) V w' → Bk w' b 28 ((cs.setIfInBounds j (.int .u32 (y : Int))).setIfInBounds i (.int .u32 (x : Int))) → Q .normal { tmps := List.toArray (.slice (some ⟨b, 0, none⟩) n c :: t1 :: t2 :: t3 :: t4 :: t5 :: t6 :: .int .i64 (j : Int) :: t8 :: t9 :: t10 :: t11 :: t12 :: t13 :: t14 :: t15 :: t16 :: t17 :: t18 :: t19 :: t20 :: t21 :: t22 :: t23 :: t24 :: t25 :: t26 :: t27 :: t28 :: t29 :: t30 :: t31 :: t32 :: x33 :: x34 :: x35 :: x36 :: x37 :: x38 :: x39 :: x40 :: x41 :: x42 :: x43 :: x44 :: x45 :: x46 :: x47 :: x48 :: []), defers := [] } w')) (w : World) (hB : But (fun k => k = b) V w) (k0 : Bk w b 28 cs) :
    wpAnyH Tryd.prog .any ins6_ops (NoPanic Q) (fun w' => But (fun k => k = b) V w') 6 #[true, true, true, true, true, true, true, true, true, false, true, true, true, false, false, false, false, false] { tmps := List.toArray (.slice (some ⟨b, 0, none⟩) n c :: t1 :: t2 :: t3 :: t4 :: t5 :: t6 :: .int .i64 (j : Int) :: t8 :: t9 :: t10 :: t11 :: t12 :: t13 :: t14 :: t15 :: t16 :: t17 :: t18 :: t19 :: t20 :: t21 :: t22 :: t23 :: t24 :: t25 :: t26 :: t27 :: t28 :: t29 :: t30 :: t31 :: t32 :: .slice (some ⟨b, 0, none⟩) n c :: .int .i64 (j : Int) :: .slice (some ⟨b, 0, none⟩) n c :: .int .i64 (j : Int) :: .int .i64 (i : Int) :: .slice (some ⟨b, 0, none⟩) n c :: .int .i64 (j : Int) :: .int .i64 (i : Int) :: .pointer (some ⟨b, i, none⟩) :: t42 :: .slice (some ⟨b, 0, none⟩) n c :: .int .i64 (j : Int) :: .pointer (some ⟨b, j, none⟩) :: t46 :: t47 :: t48 :: []), defers := [] } w := by
  refine wpAnyH_ready (rs := [9, 13]) (by kernel_rfl) (by simp) ?_
  refine AllReadyH.cons rfl (fun K hK => ?_) ?_
  · refine sx_load rfl 28 u4_sz u4_ag (.tmp 41) rfl b i _ rfl ((k0.cell _).trans hci) ?_
    simp only [Act.put, List.setIfInBounds_toArray, List.set_cons_zero, List.set_cons_succ]
    have hB2 := hB
    refine hK.out _ _ hB2 (fun _ => ?_)
    show wpAnyH _ _ _ _ _ 5 #[true, true, true, true, true, true, true, true, true, true, true, true, true, false, false, false, false, false] { tmps := List.toArray (.slice (some ⟨b, 0, none⟩) n c :: t1 :: t2 :: t3 :: t4 :: t5 :: t6 :: .int .i64 (j : Int) :: t8 :: t9 :: t10 :: t11 :: t12 :: t13 :: t14 :: t15 :: t16 :: t17 :: t18 :: t19 :: t20 :: t21 :: t22 :: t23 :: t24 :: t25 :: t26 :: t27 :: t28 :: t29 :: t30 :: t31 :: t32 :: .slice (some ⟨b, 0, none⟩) n c :: .int .i64 (j : Int) :: .slice (some ⟨b, 0, none⟩) n c :: .int .i64 (j : Int) :: .int .i64 (i : Int) :: .slice (some ⟨b, 0, none⟩) n c :: .int .i64 (j : Int) :: .int .i64 (i : Int) :: .pointer (some ⟨b, i, none⟩) :: .int .u32 (y : Int) :: .slice (some ⟨b, 0, none⟩) n c :: .int .i64 (j : Int) :: .pointer (some ⟨b, j, none⟩) :: t46 :: t47 :: t48 :: []), defers := [] } _
    exact ins6_9 b n c i j x y cs V t1 t2 t3 t4 t5 t6 t8 t9 t10 t11 t12 t13 t14 t15 t16 t17 t18 t19 t20 t21 t22 t23 t24 t25 t26 t27 t28 t29 t30 t31 t32 t33 t34 t35 t36 t37 t38 t39 t40 t41 t42 t43 t44 t45 t46 t47 t48 Q zb hi hj hi0 hj0 hji hci hcj hci2 HK HQ _ hB2 (k0)
  refine AllReadyH.cons rfl (fun K hK => ?_) ?_
  · refine sx_load rfl 28 u4_sz u4_ag (.tmp 45) rfl b j _ rfl ((k0.cell _).trans hcj) ?_
    simp only [Act.put, List.setIfInBounds_toArray, List.set_cons_zero, List.set_cons_succ]
    have hB2 := hB
    refine hK.out _ _ hB2 (fun _ => ?_)
    show wpAnyH _ _ _ _ _ 5 #[true, true, true, true, true, true, true, true, true, false, true, true, true, true, false, false, false, false] { tmps := List.toArray (.slice (some ⟨b, 0, none⟩) n c :: t1 :: t2 :: t3 :: t4 :: t5 :: t6 :: .int .i64 (j : Int) :: t8 :: t9 :: t10 :: t11 :: t12 :: t13 :: t14 :: t15 :: t16 :: t17 :: t18 :: t19 :: t20 :: t21 :: t22 :: t23 :: t24 :: t25 :: t26 :: t27 :: t28 :: t29 :: t30 :: t31 :: t32 :: .slice (some ⟨b, 0, none⟩) n c :: .int .i64 (j : Int) :: .slice (some ⟨b, 0, none⟩) n c :: .int .i64 (j : Int) :: .int .i64 (i : Int) :: .slice (some ⟨b, 0, none⟩) n c :: .int .i64 (j : Int) :: .int .i64 (i : Int) :: .pointer (some ⟨b, i, none⟩) :: t42 :: .slice (some ⟨b, 0, none⟩) n c :: .int .i64 (j : Int) :: .pointer (some ⟨b, j, none⟩) :: .int .u32 (x : Int) :: t47 :: t48 :: []), defers := [] } _
    exact ins6_13 b n c i j x y cs V t1 t2 t3 t4 t5 t6 t8 t9 t10 t11 t12 t13 t14 t15 t16 t17 t18 t19 t20 t21 t22 t23 t24 t25 t26 t27 t28 t29 t30 t31 t32 t33 t34 t35 t36 t37 t38 t39 t40 t41 t42 t43 t44 t45 t46 t47 t48 Q zb hi hj hi0 hj0 hji hci hcj hci2 HK HQ _ hB2 (k0)
  exact AllReadyH.nil

set_option maxRecDepth 100000 in
set_option maxHeartbeats 4000000 in
theorem ins6 (b n c i j x y : Nat) (cs : Array Value) (V : World) (t1 t2 t3 t4 t5 t6 t8 t9 t10 t11 t12 t13 t14 t15 t16 t17 t18 t19 t20 t21 t22 t23 t24 t25 t26 t27 t28 t29 t30 t31 t32 t33 t34 t35 t36 t37 t38 t39 t40 t41 t42 t43 t44 t45 t46 t47 t48 : Value) (Q : Exit → Act → World → Prop) (zb : b < V.heap.size) (hi : i < n) (hj : j < n) (hi0 : (0 : Int) ≤ (i : Int)) (hj0 : (0 : Int) ≤ (j : Int)) (hji : IntKind.i64.wrap ((j : Int) - 1) = (i : Int)) (hci : cs[i]? = some (.int .u32 (y : Int))) (hcj : cs[j]? = some (.int .u32 (x : Int))) (hci2 : (cs.setIfInBounds j (.int .u32 (y : Int)))[i]? = some (.int .u32 (y : Int))) (HK : Hid (Bk V b 28 cs)) (HQ : Hid (∀ (x33 x34 x35 x36 x37 x38 x39 x40 x41 x42 x43 x44 x45 x46 x47 x48 : Value)  (w' : World), But (fun k => k = b) V w' → Bk w' b 28 ((cs.setIfInBounds j (.int .u32 (y : Int))).setIfInBounds i (.int .u32 (x : Int))) → Q .normal { tmps := List.toArray (.slice (some ⟨b, 0, none⟩) n c :: t1 :: t2 :: t3 :: t4 :: t5 :: t6 :: .int .i64 (j : Int) :: t8 :: t9 :: t10 :: t11 :: t12 :: t13 :: t14 :: t15 :: t16 :: t17 :: t18 :: t19 :: t20 :: t21 :: t22 :: t23 :: t24 :: t25 :: t26 :: t27 :: t28 :: t29 :: t30 :: t31 :: t32 :: x33 :: x34 :: x35 :: x36 :: x37 :: x38 :: x39 :: x40 :: x41 :: x42 :: x43 :: x44 :: x45 :: x46 :: x47 :: x48 :: []), defers := [] } w')) :
    Code.wp Tryd.prog (Code.region 6 #[{ dst := some 33, op := Op.move (Operand.tmp 0), type := 91, pos := "zsortordered.go:15", after := #[], guard := none },
{ dst := some 34, op := Op.move (Operand.tmp 7), type := 3, pos := "zsortordered.go:15", after := #[], guard := none },
{ dst := some 35, op := Op.move (Operand.tmp 0), type := 91, pos := "zsortordered.go:15", after := #[{ on := 15, ground := Ground.gcOnly Departure.lateStores }], guard := none },
{ dst := some 36, op := Op.move (Operand.tmp 7), type := 3, pos := "zsortordered.go:15", after := #[{ on := 15, ground := Ground.gcOnly Departure.lateStores }], guard := none },
{ dst := some 37, op := Op.binOp BinOp.sub 3 (Operand.tmp 36) (Operand.const (Value.int IntKind.i64 1)) 3, type := 3, pos := "zsortordered.go:15", after := #[{ on := 3, ground := Ground.data }, { on := 15, ground := Ground.gcOnly Departure.lateStores }], guard := none },
{ dst := some 38, op := Op.move (Operand.tmp 0), type := 91, pos := "zsortordered.go:15", after := #[], guard := none },
{ dst := some 39, op := Op.move (Operand.tmp 7), type := 3, pos := "zsortordered.go:15", after := #[], guard := none },
{ dst := some 40, op := Op.binOp BinOp.sub 3 (Operand.tmp 39) (Operand.const (Value.int IntKind.i64 1)) 3, type := 3, pos := "zsortordered.go:15", after := #[{ on := 6, ground := Ground.data }], guard := none },
{ dst := some 41, op := Op.indexAddr 91 (Operand.tmp 38) (Operand.tmp 40), type := 0, pos := "zsortordered.go:15", after := #[{ on := 5, ground := Ground.data }, { on := 7, ground := Ground.data }], guard := none },
{ dst := some 42, op := Op.load 28 (Operand.tmp 41), type := 28, pos := "zsortordered.go:15", after := #[{ on := 8, ground := Ground.data }], guard := none },
{ dst := some 43, op := Op.move (Operand.tmp 0), type := 91, pos := "zsortordered.go:15", after := #[], guard := none },
{ dst := some 44, op := Op.move (Operand.tmp 7), type := 3, pos := "zsortordered.go:15", after := #[], guard := none },
{ dst := some 45, op := Op.indexAddr 91 (Operand.tmp 43) (Operand.tmp 44), type := 0, pos := "zsortordered.go:15", after := #[{ on := 10, ground := Ground.data }, { on := 11, ground := Ground.data }], guard := none },
{ dst := some 46, op := Op.load 28 (Operand.tmp 45), type := 28, pos := "zsortordered.go:15", after := #[{ on := 12, ground := Ground.data }], guard := none },
{ dst := some 47, op := Op.indexAddr 91 (Operand.tmp 33) (Operand.tmp 34), type := 0, pos := "zsortordered.go:15", after := #[{ on := 0, ground := Ground.data }, { on := 1, ground := Ground.data }, { on := 0, ground := Ground.phase }, { on := 1, ground := Ground.phase }, { on := 2, ground := Ground.textOnly Departure.lateStores }, { on := 3, ground := Ground.textOnly Departure.lateStores }, { on := 4, ground := Ground.textOnly Departure.lateStores }, { on := 5, ground := Ground.phase }, { on := 6, ground := Ground.phase }, { on := 7, ground := Ground.phase }, { on := 8, ground := Ground.phase }, { on := 9, ground := Ground.phase }, { on := 10, ground := Ground.textOnly Departure.lateStores }, { on := 11, ground := Ground.textOnly Departure.lateStores }, { on := 12, ground := Ground.textOnly Departure.lateStoresUnsure }, { on := 13, ground := Ground.phase }], guard := none },
{ dst := none, op := Op.store 28 (Operand.tmp 47) (Operand.tmp 42), type := 0, pos := "zsortordered.go:15", after := #[{ on := 14, ground := Ground.data }, { on := 9, ground := Ground.data }, { on := 0, ground := Ground.phase }, { on := 1, ground := Ground.phase }, { on := 2, ground := Ground.textOnly Departure.lateStores }, { on := 3, ground := Ground.textOnly Departure.lateStores }, { on := 4, ground := Ground.textOnly Departure.lateStores }, { on := 5, ground := Ground.phase }, { on := 6, ground := Ground.phase }, { on := 7, ground := Ground.phase }, { on := 8, ground := Ground.phase }, { on := 9, ground := Ground.phase }, { on := 10, ground := Ground.textOnly Departure.lateStores }, { on := 11, ground := Ground.textOnly Departure.lateStores }, { on := 12, ground := Ground.textOnly Departure.lateStoresUnsure }, { on := 13, ground := Ground.phase }], guard := none },
{ dst := some 48, op := Op.indexAddr 91 (Operand.tmp 35) (Operand.tmp 37), type := 0, pos := "zsortordered.go:15", after := #[{ on := 2, ground := Ground.data }, { on := 4, ground := Ground.data }, { on := 0, ground := Ground.phase }, { on := 1, ground := Ground.phase }, { on := 2, ground := Ground.phase }, { on := 3, ground := Ground.phase }, { on := 4, ground := Ground.phase }, { on := 5, ground := Ground.phase }, { on := 6, ground := Ground.phase }, { on := 7, ground := Ground.phase }, { on := 8, ground := Ground.phase }, { on := 9, ground := Ground.phase }, { on := 10, ground := Ground.phase }, { on := 11, ground := Ground.phase }, { on := 12, ground := Ground.phase }, { on := 13, ground := Ground.phase }, { on := 14, ground := Ground.phase }, { on := 15, ground := Ground.phase }], guard := none },
{ dst := none, op := Op.store 28 (Operand.tmp 48) (Operand.tmp 46), type := 0, pos := "zsortordered.go:15", after := #[{ on := 16, ground := Ground.data }, { on := 13, ground := Ground.data }, { on := 15, ground := Ground.chain }, { on := 0, ground := Ground.phase }, { on := 1, ground := Ground.phase }, { on := 2, ground := Ground.phase }, { on := 3, ground := Ground.phase }, { on := 4, ground := Ground.phase }, { on := 5, ground := Ground.phase }, { on := 6, ground := Ground.phase }, { on := 7, ground := Ground.phase }, { on := 8, ground := Ground.phase }, { on := 9, ground := Ground.phase }, { on := 10, ground := Ground.phase }, { on := 11, ground := Ground.phase }, { on := 12, ground := Ground.phase }, { on := 13, ground := Ground.phase }, { on := 14, ground := Ground.phase }, { on := 15, ground := Ground.phase }], guard := none }] true) Q { tmps := List.toArray (.slice (some ⟨b, 0, none⟩) n c :: t1 :: t2 :: t3 :: t4 :: t5 :: t6 :: .int .i64 (j : Int) :: t8 :: t9 :: t10 :: t11 :: t12 :: t13 :: t14 :: t15 :: t16 :: t17 :: t18 :: t19 :: t20 :: t21 :: t22 :: t23 :: t24 :: t25 :: t26 :: t27 :: t28 :: t29 :: t30 :: t31 :: t32 :: t33 :: t34 :: t35 :: t36 :: t37 :: t38 :: t39 :: t40 :: t41 :: t42 :: t43 :: t44 :: t45 :: t46 :: t47 :: t48 :: []), defers := [] } V := by
  refine wp_region_noPanic ?_
  refine wp_region_held_drew (S := (fun w' => But (fun k => k = b) V w')) (by kernel_rfl) ((But.refl _ V).drew) (fun hHeld => ?_)
  have hB : But (fun k => k = b) V V.drew := ((But.refl _ V).drew)
  show wpAnyH _ _ ins6_ops _ _ 18 _ _ _
  refine wpAnyH_take (i := 0) (oi := { dst := some 33, op := Op.move (Operand.tmp 0), type := 91, pos := "zsortordered.go:15", after := #[], guard := none }) (v := .slice (some ⟨b, 0, none⟩) n c) rfl (by kernel_rfl) (by kernel_rfl) (by kernel_rfl) (fun _ _ _ h => h) ?_ hB ?_
  · (refine Or.inl ⟨by kernel_rfl, ?_⟩; intro w hSw; go_simp)
  simp only [Act.put, List.setIfInBounds_toArray, List.set_cons_zero, List.set_cons_succ]
  refine wpAnyH_take (i := 1) (oi := { dst := some 34, op := Op.move (Operand.tmp 7), type := 3, pos := "zsortordered.go:15", after := #[], guard := none }) (v := .int .i64 (j : Int)) rfl (by kernel_rfl) (by kernel_rfl) (by kernel_rfl) (fun _ _ _ h => h) ?_ hB ?_
  · (refine Or.inl ⟨by kernel_rfl, ?_⟩; intro w hSw; go_simp)
  simp only [Act.put, List.setIfInBounds_toArray, List.set_cons_zero, List.set_cons_succ]
  refine wpAnyH_take (i := 2) (oi := { dst := some 35, op := Op.move (Operand.tmp 0), type := 91, pos := "zsortordered.go:15", after := #[{ on := 15, ground := Ground.gcOnly Departure.lateStores }], guard := none }) (v := .slice (some ⟨b, 0, none⟩) n c) rfl (by kernel_rfl) (by kernel_rfl) (by kernel_rfl) (fun _ _ _ h => h) ?_ hB ?_
  · (refine Or.inl ⟨by kernel_rfl, ?_⟩; intro w hSw; go_simp)
  simp only [Act.put, List.setIfInBounds_toArray, List.set_cons_zero, List.set_cons_succ]
  refine wpAnyH_take (i := 3) (oi := { dst := some 36, op := Op.move (Operand.tmp 7), type := 3, pos := "zsortordered.go:15", after := #[{ on := 15, ground := Ground.gcOnly Departure.lateStores }], guard := none }) (v := .int .i64 (j : Int)) rfl (by kernel_rfl) (by kernel_rfl) (by kernel_rfl) (fun _ _ _ h => h) ?_ hB ?_
  · (refine Or.inl ⟨by kernel_rfl, ?_⟩; intro w hSw; go_simp)
  simp only [Act.put, List.setIfInBounds_toArray, List.set_cons_zero, List.set_cons_succ]
  refine wpAnyH_take (i := 4) (oi := { dst := some 37, op := Op.binOp BinOp.sub 3 (Operand.tmp 36) (Operand.const (Value.int IntKind.i64 1)) 3, type := 3, pos := "zsortordered.go:15", after := #[{ on := 3, ground := Ground.data }, { on := 15, ground := Ground.gcOnly Departure.lateStores }], guard := none }) (v := .int .i64 (i : Int)) rfl (by kernel_rfl) (by kernel_rfl) (by kernel_rfl) (fun _ _ _ h => h) ?_ hB ?_
  · (refine Or.inl ⟨by kernel_rfl, ?_⟩; intro w hSw; have h := hji; go_simp)
  simp only [Act.put, List.setIfInBounds_toArray, List.set_cons_zero, List.set_cons_succ]
  refine wpAnyH_take (i := 5) (oi := { dst := some 38, op := Op.move (Operand.tmp 0), type := 91, pos := "zsortordered.go:15", after := #[], guard := none }) (v := .slice (some ⟨b, 0, none⟩) n c) rfl (by kernel_rfl) (by kernel_rfl) (by kernel_rfl) (fun _ _ _ h => h) ?_ hB ?_
  · (refine Or.inl ⟨by kernel_rfl, ?_⟩; intro w hSw; go_simp)
  simp only [Act.put, List.setIfInBounds_toArray, List.set_cons_zero, List.set_cons_succ]
  refine wpAnyH_take (i := 6) (oi := { dst := some 39, op := Op.move (Operand.tmp 7), type := 3, pos := "zsortordered.go:15", after := #[], guard := none }) (v := .int .i64 (j : Int)) rfl (by kernel_rfl) (by kernel_rfl) (by kernel_rfl) (fun _ _ _ h => h) ?_ hB ?_
  · (refine Or.inl ⟨by kernel_rfl, ?_⟩; intro w hSw; go_simp)
  simp only [Act.put, List.setIfInBounds_toArray, List.set_cons_zero, List.set_cons_succ]
  refine wpAnyH_take (i := 7) (oi := { dst := some 40, op := Op.binOp BinOp.sub 3 (Operand.tmp 39) (Operand.const (Value.int IntKind.i64 1)) 3, type := 3, pos := "zsortordered.go:15", after := #[{ on := 6, ground := Ground.data }], guard := none }) (v := .int .i64 (i : Int)) rfl (by kernel_rfl) (by kernel_rfl) (by kernel_rfl) (fun _ _ _ h => h) ?_ hB ?_
  · (refine Or.inl ⟨by kernel_rfl, ?_⟩; intro w hSw; have h := hji; go_simp)
  simp only [Act.put, List.setIfInBounds_toArray, List.set_cons_zero, List.set_cons_succ]
  refine wpAnyH_take (i := 8) (oi := { dst := some 41, op := Op.indexAddr 91 (Operand.tmp 38) (Operand.tmp 40), type := 0, pos := "zsortordered.go:15", after := #[{ on := 5, ground := Ground.data }, { on := 7, ground := Ground.data }], guard := none }) (v := .pointer (some ⟨b, i, none⟩)) rfl (by kernel_rfl) (by kernel_rfl) (by kernel_rfl) (fun _ _ _ h => h) ?_ hB ?_
  · (refine Or.inl ⟨by kernel_rfl, ?_⟩; intro w hSw; have h1 := hi; have h2 := hi0; have hzb := Nat.lt_of_lt_of_le zb hSw.size; go_simp)
  simp only [Act.put, List.setIfInBounds_toArray, List.set_cons_zero, List.set_cons_succ]
  refine wpAnyH_take (i := 10) (oi := { dst := some 43, op := Op.move (Operand.tmp 0), type := 91, pos := "zsortordered.go:15", after := #[], guard := none }) (v := .slice (some ⟨b, 0, none⟩) n c) rfl (by kernel_rfl) (by kernel_rfl) (by kernel_rfl) (fun _ _ _ h => h) ?_ hB ?_
  · (refine Or.inl ⟨by kernel_rfl, ?_⟩; intro w hSw; go_simp)
  simp only [Act.put, List.setIfInBounds_toArray, List.set_cons_zero, List.set_cons_succ]
  refine wpAnyH_take (i := 11) (oi := { dst := some 44, op := Op.move (Operand.tmp 7), type := 3, pos := "zsortordered.go:15", after := #[], guard := none }) (v := .int .i64 (j : Int)) rfl (by kernel_rfl) (by kernel_rfl) (by kernel_rfl) (fun _ _ _ h => h) ?_ hB ?_
  · (refine Or.inl ⟨by kernel_rfl, ?_⟩; intro w hSw; go_simp)
  simp only [Act.put, List.setIfInBounds_toArray, List.set_cons_zero, List.set_cons_succ]
  refine wpAnyH_take (i := 12) (oi := { dst := some 45, op := Op.indexAddr 91 (Operand.tmp 43) (Operand.tmp 44), type := 0, pos := "zsortordered.go:15", after := #[{ on := 10, ground := Ground.data }, { on := 11, ground := Ground.data }], guard := none }) (v := .pointer (some ⟨b, j, none⟩)) rfl (by kernel_rfl) (by kernel_rfl) (by kernel_rfl) (fun _ _ _ h => h) ?_ hB ?_
  · (refine Or.inl ⟨by kernel_rfl, ?_⟩; intro w hSw; have h1 := hj; have h2 := hj0; have hzb := Nat.lt_of_lt_of_le zb hSw.size; go_simp)
  simp only [Act.put, List.setIfInBounds_toArray, List.set_cons_zero, List.set_cons_succ]
  exact ins6_o b n c i j x y cs V t1 t2 t3 t4 t5 t6 t8 t9 t10 t11 t12 t13 t14 t15 t16 t17 t18 t19 t20 t21 t22 t23 t24 t25 t26 t27 t28 t29 t30 t31 t32 t33 t34 t35 t36 t37 t38 t39 t40 t41 t42 t43 t44 t45 t46 t47 t48 Q zb hi hj hi0 hj0 hji hci hcj hci2 HK HQ _ hB ((Bk.drew HK.out))
set_option maxRecDepth 100000 in
set_option maxHeartbeats 16000000 in
theorem ins4 (b n c i j x y : Nat) (cs : Array Value) (V : World) (t2 t3 t4 t5 t6 t8 t9 t10 t11 t12 t13 t14 t15 t16 t17 t18 t19 t20 t21 t22 t23 t24 t25 t26 t27 t28 t29 t30 t31 t32 t33 t34 t35 t36 t37 t38 t39 t40 t41 t42 t43 t44 t45 t46 t47 t48 : Value) (Q : Exit → Act → World → Prop) (hi : i < n) (hj : j < n) (hi0 : (0 : Int) ≤ (i : Int)) (hj0 : (0 : Int) ≤ (j : Int)) (hgt : 0 < j) (hji : IntKind.i64.wrap ((j : Int) - 1) = (i : Int)) (hci : cs[i]? = some (.int .u32 (y : Int))) (hcj : cs[j]? = some (.int .u32 (x : Int))) (HK : Hid (Bk V b 28 cs)) (HQ : Hid (∀ (x16 x17 x18 x19 x20 x21 x22 x23 x24 x25 x26 x27 x28 x29 : Value)  (w' : World), w' = V.drew → Q .normal { tmps := List.toArray (.slice (some ⟨b, 0, none⟩) n c :: .int .i64 0 :: t2 :: t3 :: t4 :: t5 :: t6 :: .int .i64 (j : Int) :: t8 :: t9 :: t10 :: t11 :: t12 :: t13 :: t14 :: t15 :: x16 :: x17 :: x18 :: x19 :: x20 :: x21 :: x22 :: x23 :: x24 :: x25 :: x26 :: x27 :: x28 :: x29 :: .bool (decide (x < y)) :: t31 :: t32 :: t33 :: t34 :: t35 :: t36 :: t37 :: t38 :: t39 :: t40 :: t41 :: t42 :: t43 :: t44 :: t45 :: t46 :: t47 :: t48 :: []), defers := [] } w')) :
    Code.wp Tryd.prog (Code.region 4 #[{ dst := some 16, op := Op.move (Operand.tmp 7), type := 3, pos := "zsortordered.go:14", after := #[], guard := none },
{ dst := some 17, op := Op.move (Operand.tmp 1), type := 3, pos := "zsortordered.go:14", after := #[], guard := none },
{ dst := some 18, op := Op.binOp BinOp.gtr 3 (Operand.tmp 16) (Operand.tmp 17) 3, type := 4, pos := "zsortordered.go:14", after := #[{ on := 0, ground := Ground.data }, { on := 1, ground := Ground.data }], guard := none },
{ dst := some 19, op := Op.move (Operand.tmp 18), type := 4, pos := "zsortordered.go:14", after := #[{ on := 2, ground := Ground.data }], guard := none },
{ dst := some 20, op := Op.move (Operand.tmp 0), type := 91, pos := "zsortordered.go:14", after := #[{ on := 3, ground := Ground.guard }], guard := some (3, true) },
{ dst := some 21, op := Op.move (Operand.tmp 7), type := 3, pos := "zsortordered.go:14", after := #[{ on := 3, ground := Ground.guard }], guard := some (3, true) },
{ dst := some 22, op := Op.indexAddr 91 (Operand.tmp 20) (Operand.tmp 21), type := 0, pos := "zsortordered.go:14", after := #[{ on := 4, ground := Ground.data }, { on := 5, ground := Ground.data }, { on := 3, ground := Ground.guard }], guard := some (3, true) },
{ dst := some 23, op := Op.load 28 (Operand.tmp 22), type := 28, pos := "zsortordered.go:14", after := #[{ on := 6, ground := Ground.data }, { on := 3, ground := Ground.guard }], guard := some (3, true) },
{ dst := some 24, op := Op.move (Operand.tmp 0), type := 91, pos := "zsortordered.go:14", after := #[{ on := 3, ground := Ground.guard }], guard := some (3, true) },
{ dst := some 25, op := Op.move (Operand.tmp 7), type := 3, pos := "zsortordered.go:14", after := #[{ on := 3, ground := Ground.guard }], guard := some (3, true) },
{ dst := some 26, op := Op.binOp BinOp.sub 3 (Operand.tmp 25) (Operand.const (Value.int IntKind.i64 1)) 3, type := 3, pos := "zsortordered.go:14", after := #[{ on := 9, ground := Ground.data }, { on := 3, ground := Ground.guard }], guard := some (3, true) },
{ dst := some 27, op := Op.indexAddr 91 (Operand.tmp 24) (Operand.tmp 26), type := 0, pos := "zsortordered.go:14", after := #[{ on := 8, ground := Ground.data }, { on := 10, ground := Ground.data }, { on := 3, ground := Ground.guard }], guard := some (3, true) },
{ dst := some 28, op := Op.load 28 (Operand.tmp 27), type := 28, pos := "zsortordered.go:14", after := #[{ on := 11, ground := Ground.data }, { on := 3, ground := Ground.guard }], guard := some (3, true) },
{ dst := some 29, op := Op.call { callee := Callee.value (Operand.func 86), args := #[Operand.tmp 23, Operand.tmp 28], argTypes := #[28, 28] }, type := 4, pos := "zsortordered.go:14", after := #[{ on := 7, ground := Ground.data }, { on := 12, ground := Ground.data }, { on := 3, ground := Ground.chain }, { on := 3, ground := Ground.guard }], guard := some (3, true) },
{ dst := some 30, op := Op.pick (Operand.tmp 19) (Operand.tmp 29) (Operand.const (Value.bool false)), type := 4, pos := "zsortordered.go:14", after := #[{ on := 3, ground := Ground.data }, { on := 13, ground := Ground.data }], guard := none }] true) Q { tmps := List.toArray (.slice (some ⟨b, 0, none⟩) n c :: .int .i64 0 :: t2 :: t3 :: t4 :: t5 :: t6 :: .int .i64 (j : Int) :: t8 :: t9 :: t10 :: t11 :: t12 :: t13 :: t14 :: t15 :: t16 :: t17 :: t18 :: t19 :: t20 :: t21 :: t22 :: t23 :: t24 :: t25 :: t26 :: t27 :: t28 :: t29 :: t30 :: t31 :: t32 :: t33 :: t34 :: t35 :: t36 :: t37 :: t38 :: t39 :: t40 :: t41 :: t42 :: t43 :: t44 :: t45 :: t46 :: t47 :: t48 :: []), defers := [] } V := by
  refine wp_region_noPanic ?_
  refine wp_region_held_drew (S := (fun w' => Bk w' b 28 cs ∧ w' = V.drew)) (by kernel_rfl) ⟨Bk.drew HK.out, rfl⟩ (fun hHeld => ?_)
  have hB : Bk V.drew b 28 cs ∧ V.drew = V.drew := ⟨Bk.drew HK.out, rfl⟩
  show wpAnyH _ _ _ _ _ 15 _ _ _
  refine wpAnyH_take (i := 0) (oi := { dst := some 16, op := Op.move (Operand.tmp 7), type := 3, pos := "zsortordered.go:14", after := #[], guard := none }) (v := .int .i64 (j : Int)) rfl (by kernel_rfl) (by kernel_rfl) (by kernel_rfl) (fun _ _ _ h => h) ?_ hB ?_
  · (refine Or.inl ⟨by kernel_rfl, ?_⟩; intro w hSw; go_simp)
  simp only [Act.put, List.setIfInBounds_toArray, List.set_cons_zero, List.set_cons_succ]
  refine wpAnyH_take (i := 1) (oi := { dst := some 17, op := Op.move (Operand.tmp 1), type := 3, pos := "zsortordered.go:14", after := #[], guard := none }) (v := .int .i64 0) rfl (by kernel_rfl) (by kernel_rfl) (by kernel_rfl) (fun _ _ _ h => h) ?_ hB ?_
  · (refine Or.inl ⟨by kernel_rfl, ?_⟩; intro w hSw; go_simp)
  simp only [Act.put, List.setIfInBounds_toArray, List.set_cons_zero, List.set_cons_succ]
  refine wpAnyH_take (i := 2) (oi := { dst := some 18, op := Op.binOp BinOp.gtr 3 (Operand.tmp 16) (Operand.tmp 17) 3, type := 4, pos := "zsortordered.go:14", after := #[{ on := 0, ground := Ground.data }, { on := 1, ground := Ground.data }], guard := none }) (v := .bool true) rfl (by kernel_rfl) (by kernel_rfl) (by kernel_rfl) (fun _ _ _ h => h) ?_ hB ?_
  · (refine Or.inl ⟨by kernel_rfl, ?_⟩; intro w hSw; have h := hgt; go_simp)
  simp only [Act.put, List.setIfInBounds_toArray, List.set_cons_zero, List.set_cons_succ]
  refine wpAnyH_take (i := 3) (oi := { dst := some 19, op := Op.move (Operand.tmp 18), type := 4, pos := "zsortordered.go:14", after := #[{ on := 2, ground := Ground.data }], guard := none }) (v := .bool true) rfl (by kernel_rfl) (by kernel_rfl) (by kernel_rfl) (fun _ _ _ h => h) ?_ hB ?_
  · (refine Or.inl ⟨by kernel_rfl, ?_⟩; intro w hSw; go_simp)
  simp only [Act.put, List.setIfInBounds_toArray, List.set_cons_zero, List.set_cons_succ]
  refine wpAnyH_take (i := 4) (oi := { dst := some 20, op := Op.move (Operand.tmp 0), type := 91, pos := "zsortordered.go:14", after := #[{ on := 3, ground := Ground.guard }], guard := some (3, true) }) (v := .slice (some ⟨b, 0, none⟩) n c) rfl (by kernel_rfl) (by kernel_rfl) (by kernel_rfl) (fun _ _ _ h => h) ?_ hB ?_
  · (refine Or.inl ⟨by kernel_rfl, ?_⟩; intro w hSw; go_simp)
  simp only [Act.put, List.setIfInBounds_toArray, List.set_cons_zero, List.set_cons_succ]
  refine wpAnyH_take (i := 5) (oi := { dst := some 21, op := Op.move (Operand.tmp 7), type := 3, pos := "zsortordered.go:14", after := #[{ on := 3, ground := Ground.guard }], guard := some (3, true) }) (v := .int .i64 (j : Int)) rfl (by kernel_rfl) (by kernel_rfl) (by kernel_rfl) (fun _ _ _ h => h) ?_ hB ?_
  · (refine Or.inl ⟨by kernel_rfl, ?_⟩; intro w hSw; go_simp)
  simp only [Act.put, List.setIfInBounds_toArray, List.set_cons_zero, List.set_cons_succ]
  refine wpAnyH_take (i := 6) (oi := { dst := some 22, op := Op.indexAddr 91 (Operand.tmp 20) (Operand.tmp 21), type := 0, pos := "zsortordered.go:14", after := #[{ on := 4, ground := Ground.data }, { on := 5, ground := Ground.data }, { on := 3, ground := Ground.guard }], guard := some (3, true) }) (v := .pointer (some ⟨b, j, none⟩)) rfl (by kernel_rfl) (by kernel_rfl) (by kernel_rfl) (fun _ _ _ h => h) ?_ hB ?_
  · (refine Or.inl ⟨by kernel_rfl, ?_⟩; intro w hSw; have h1 := hj; have h2 := hj0; have hk := hSw.1; have hzb := hk.lt; go_simp)
  simp only [Act.put, List.setIfInBounds_toArray, List.set_cons_zero, List.set_cons_succ]
  refine wpAnyH_take (i := 7) (oi := { dst := some 23, op := Op.load 28 (Operand.tmp 22), type := 28, pos := "zsortordered.go:14", after := #[{ on := 6, ground := Ground.data }, { on := 3, ground := Ground.guard }], guard := some (3, true) }) (v := .int .u32 (x : Int)) rfl (by kernel_rfl) (by kernel_rfl) (by kernel_rfl) (fun _ _ _ h => h) ?_ hB ?_
  · (refine Or.inl ⟨by kernel_rfl, ?_⟩; intro w hSw; have h1 := HK.out.cell j; rw [hcj] at h1; have hk := hSw.1; have hzb := hk.lt; go_simp)
  simp only [Act.put, List.setIfInBounds_toArray, List.set_cons_zero, List.set_cons_succ]
  refine wpAnyH_take (i := 8) (oi := { dst := some 24, op := Op.move (Operand.tmp 0), type := 91, pos := "zsortordered.go:14", after := #[{ on := 3, ground := Ground.guard }], guard := some (3, true) }) (v := .slice (some ⟨b, 0, none⟩) n c) rfl (by kernel_rfl) (by kernel_rfl) (by kernel_rfl) (fun _ _ _ h => h) ?_ hB ?_
  · (refine Or.inl ⟨by kernel_rfl, ?_⟩; intro w hSw; go_simp)
  simp only [Act.put, List.setIfInBounds_toArray, List.set_cons_zero, List.set_cons_succ]
  refine wpAnyH_take (i := 9) (oi := { dst := some 25, op := Op.move (Operand.tmp 7), type := 3, pos := "zsortordered.go:14", after := #[{ on := 3, ground := Ground.guard }], guard := some (3, true) }) (v := .int .i64 (j : Int)) rfl (by kernel_rfl) (by kernel_rfl) (by kernel_rfl) (fun _ _ _ h => h) ?_ hB ?_
  · (refine Or.inl ⟨by kernel_rfl, ?_⟩; intro w hSw; go_simp)
  simp only [Act.put, List.setIfInBounds_toArray, List.set_cons_zero, List.set_cons_succ]
  refine wpAnyH_take (i := 10) (oi := { dst := some 26, op := Op.binOp BinOp.sub 3 (Operand.tmp 25) (Operand.const (Value.int IntKind.i64 1)) 3, type := 3, pos := "zsortordered.go:14", after := #[{ on := 9, ground := Ground.data }, { on := 3, ground := Ground.guard }], guard := some (3, true) }) (v := .int .i64 (i : Int)) rfl (by kernel_rfl) (by kernel_rfl) (by kernel_rfl) (fun _ _ _ h => h) ?_ hB ?_
  · (refine Or.inl ⟨by kernel_rfl, ?_⟩; intro w hSw; have h := hji; go_simp)
  simp only [Act.put, List.setIfInBounds_toArray, List.set_cons_zero, List.set_cons_succ]
  refine wpAnyH_take (i := 11) (oi := { dst := some 27, op := Op.indexAddr 91 (Operand.tmp 24) (Operand.tmp 26), type := 0, pos := "zsortordered.go:14", after := #[{ on := 8, ground := Ground.data }, { on := 10, ground := Ground.data }, { on := 3, ground := Ground.guard }], guard := some (3, true) }) (v := .pointer (some ⟨b, i, none⟩)) rfl (by kernel_rfl) (by kernel_rfl) (by kernel_rfl) (fun _ _ _ h => h) ?_ hB ?_
  · (refine Or.inl ⟨by kernel_rfl, ?_⟩; intro w hSw; have h1 := hi; have h2 := hi0; have hk := hSw.1; have hzb := hk.lt; go_simp)
  simp only [Act.put, List.setIfInBounds_toArray, List.set_cons_zero, List.set_cons_succ]
  refine wpAnyH_take (i := 12) (oi := { dst := some 28, op := Op.load 28 (Operand.tmp 27), type := 28, pos := "zsortordered.go:14", after := #[{ on := 11, ground := Ground.data }, { on := 3, ground := Ground.guard }], guard := some (3, true) }) (v := .int .u32 (y : Int)) rfl (by kernel_rfl) (by kernel_rfl) (by kernel_rfl) (fun _ _ _ h => h) ?_ hB ?_
  · (refine Or.inl ⟨by kernel_rfl, ?_⟩; intro w hSw; have h1 := HK.out.cell i; rw [hci] at h1; have hk := hSw.1; have hzb := hk.lt; go_simp)
  simp only [Act.put, List.setIfInBounds_toArray, List.set_cons_zero, List.set_cons_succ]
  refine wpAnyH_ready (rs := [13]) (by kernel_rfl) (by simp) ?_
  refine AllReadyH.cons rfl (fun K hK => ?_) AllReadyH.nil
  refine sx_call (by kernel_rfl) _ _ (less_any x y _) (by kernel_rfl) (fun e6 w6 h6 => ⟨_, h6.1, ?_⟩)
  obtain ⟨_, rfl⟩ := h6
  simp only [Act.put, List.setIfInBounds_toArray, List.set_cons_zero, List.set_cons_succ]
  have hB2 := hB
  refine hK.out _ _ hB2 (fun _ => ?_)
  show wpAnyH _ _ _ _ _ 1 #[true, true, true, true, true, true, true, true, true, true, true, true, true, true, false] { tmps := List.toArray (.slice (some ⟨b, 0, none⟩) n c :: .int .i64 0 :: t2 :: t3 :: t4 :: t5 :: t6 :: .int .i64 (j : Int) :: t8 :: t9 :: t10 :: t11 :: t12 :: t13 :: t14 :: t15 :: .int .i64 (j : Int) :: .int .i64 0 :: .bool true :: .bool true :: .slice (some ⟨b, 0, none⟩) n c :: .int .i64 (j : Int) :: .pointer (some ⟨b, j, none⟩) :: .int .u32 (x : Int) :: .slice (some ⟨b, 0, none⟩) n c :: .int .i64 (j : Int) :: .int .i64 (i : Int) :: .pointer (some ⟨b, i, none⟩) :: .int .u32 (y : Int) :: .bool (decide (x < y)) :: t30 :: t31 :: t32 :: t33 :: t34 :: t35 :: t36 :: t37 :: t38 :: t39 :: t40 :: t41 :: t42 :: t43 :: t44 :: t45 :: t46 :: t47 :: t48 :: []), defers := [] } _
  refine wpAnyH_take (i := 14) (oi := { dst := some 30, op := Op.pick (Operand.tmp 19) (Operand.tmp 29) (Operand.const (Value.bool false)), type := 4, pos := "zsortordered.go:14", after := #[{ on := 3, ground := Ground.data }, { on := 13, ground := Ground.data }], guard := none }) (v := .bool (decide (x < y))) rfl (by kernel_rfl) (by kernel_rfl) (by kernel_rfl) (fun _ _ _ h => h) ?_ hB2 ?_
  · (refine Or.inl ⟨by kernel_rfl, ?_⟩; intro w hSw; go_simp)
  simp only [Act.put, List.setIfInBounds_toArray, List.set_cons_zero, List.set_cons_succ]
  clear hB hK K
  have hB := hB2
  clear hB2
  refine wpAnyH_done (by kernel_rfl) ?_ _
  refine NoPanic.normal ?_
  have hEnd := HQ.out (.int .i64 (j : Int)) (.int .i64 0) (.bool true) (.bool true) (.slice (some ⟨b, 0, none⟩) n c) (.int .i64 (j : Int)) (.pointer (some ⟨b, j, none⟩)) (.int .u32 (x : Int)) (.slice (some ⟨b, 0, none⟩) n c) (.int .i64 (j : Int)) (.int .i64 (i : Int)) (.pointer (some ⟨b, i, none⟩)) (.int .u32 (y : Int)) (.bool (decide (x < y))) _ hB.2
  exact hEnd

set_option maxRecDepth 100000 in
set_option maxHeartbeats 16000000 in
theorem ins4z (b n c : Nat) (V : World) (t2 t3 t4 t5 t6 t8 t9 t10 t11 t12 t13 t14 t15 t16 t17 t18 t19 t20 t21 t22 t23 t24 t25 t26 t27 t28 t29 t30 t31 t32 t33 t34 t35 t36 t37 t38 t39 t40 t41 t42 t43 t44 t45 t46 t47 t48 : Value) (Q : Exit → Act → World → Prop) (HQ : Hid (∀ (x16 x17 x18 x19 x20 x21 x22 x23 x24 x25 x26 x27 x28 x29 : Value)  (w' : World), w' = V.drew → Q .normal { tmps := List.toArray (.slice (some ⟨b, 0, none⟩) n c :: .int .i64 0 :: t2 :: t3 :: t4 :: t5 :: t6 :: .int .i64 0 :: t8 :: t9 :: t10 :: t11 :: t12 :: t13 :: t14 :: t15 :: x16 :: x17 :: x18 :: x19 :: x20 :: x21 :: x22 :: x23 :: x24 :: x25 :: x26 :: x27 :: x28 :: x29 :: .bool false :: t31 :: t32 :: t33 :: t34 :: t35 :: t36 :: t37 :: t38 :: t39 :: t40 :: t41 :: t42 :: t43 :: t44 :: t45 :: t46 :: t47 :: t48 :: []), defers := [] } w')) :
    Code.wp Tryd.prog (Code.region 4 #[{ dst := some 16, op := Op.move (Operand.tmp 7), type := 3, pos := "zsortordered.go:14", after := #[], guard := none },
{ dst := some 17, op := Op.move (Operand.tmp 1), type := 3, pos := "zsortordered.go:14", after := #[], guard := none },
{ dst := some 18, op := Op.binOp BinOp.gtr 3 (Operand.tmp 16) (Operand.tmp 17) 3, type := 4, pos := "zsortordered.go:14", after := #[{ on := 0, ground := Ground.data }, { on := 1, ground := Ground.data }], guard := none },
{ dst := some 19, op := Op.move (Operand.tmp 18), type := 4, pos := "zsortordered.go:14", after := #[{ on := 2, ground := Ground.data }], guard := none },
{ dst := some 20, op := Op.move (Operand.tmp 0), type := 91, pos := "zsortordered.go:14", after := #[{ on := 3, ground := Ground.guard }], guard := some (3, true) },
{ dst := some 21, op := Op.move (Operand.tmp 7), type := 3, pos := "zsortordered.go:14", after := #[{ on := 3, ground := Ground.guard }], guard := some (3, true) },
{ dst := some 22, op := Op.indexAddr 91 (Operand.tmp 20) (Operand.tmp 21), type := 0, pos := "zsortordered.go:14", after := #[{ on := 4, ground := Ground.data }, { on := 5, ground := Ground.data }, { on := 3, ground := Ground.guard }], guard := some (3, true) },
{ dst := some 23, op := Op.load 28 (Operand.tmp 22), type := 28, pos := "zsortordered.go:14", after := #[{ on := 6, ground := Ground.data }, { on := 3, ground := Ground.guard }], guard := some (3, true) },
{ dst := some 24, op := Op.move (Operand.tmp 0), type := 91, pos := "zsortordered.go:14", after := #[{ on := 3, ground := Ground.guard }], guard := some (3, true) },
{ dst := some 25, op := Op.move (Operand.tmp 7), type := 3, pos := "zsortordered.go:14", after := #[{ on := 3, ground := Ground.guard }], guard := some (3, true) },
{ dst := some 26, op := Op.binOp BinOp.sub 3 (Operand.tmp 25) (Operand.const (Value.int IntKind.i64 1)) 3, type := 3, pos := "zsortordered.go:14", after := #[{ on := 9, ground := Ground.data }, { on := 3, ground := Ground.guard }], guard := some (3, true) },
{ dst := some 27, op := Op.indexAddr 91 (Operand.tmp 24) (Operand.tmp 26), type := 0, pos := "zsortordered.go:14", after := #[{ on := 8, ground := Ground.data }, { on := 10, ground := Ground.data }, { on := 3, ground := Ground.guard }], guard := some (3, true) },
{ dst := some 28, op := Op.load 28 (Operand.tmp 27), type := 28, pos := "zsortordered.go:14", after := #[{ on := 11, ground := Ground.data }, { on := 3, ground := Ground.guard }], guard := some (3, true) },
{ dst := some 29, op := Op.call { callee := Callee.value (Operand.func 86), args := #[Operand.tmp 23, Operand.tmp 28], argTypes := #[28, 28] }, type := 4, pos := "zsortordered.go:14", after := #[{ on := 7, ground := Ground.data }, { on := 12, ground := Ground.data }, { on := 3, ground := Ground.chain }, { on := 3, ground := Ground.guard }], guard := some (3, true) },
{ dst := some 30, op := Op.pick (Operand.tmp 19) (Operand.tmp 29) (Operand.const (Value.bool false)), type := 4, pos := "zsortordered.go:14", after := #[{ on := 3, ground := Ground.data }, { on := 13, ground := Ground.data }], guard := none }] true) Q { tmps := List.toArray (.slice (some ⟨b, 0, none⟩) n c :: .int .i64 0 :: t2 :: t3 :: t4 :: t5 :: t6 :: .int .i64 0 :: t8 :: t9 :: t10 :: t11 :: t12 :: t13 :: t14 :: t15 :: t16 :: t17 :: t18 :: t19 :: t20 :: t21 :: t22 :: t23 :: t24 :: t25 :: t26 :: t27 :: t28 :: t29 :: t30 :: t31 :: t32 :: t33 :: t34 :: t35 :: t36 :: t37 :: t38 :: t39 :: t40 :: t41 :: t42 :: t43 :: t44 :: t45 :: t46 :: t47 :: t48 :: []), defers := [] } V := by
  refine wp_region_noPanic ?_
  refine wp_region_held_drew (S := (fun w' => w' = V.drew)) (by kernel_rfl) rfl (fun hHeld => ?_)
  have hB : V.drew = V.drew := rfl
  show wpAnyH _ _ _ _ _ 15 _ _ _
  refine wpAnyH_take (i := 0) (oi := { dst := some 16, op := Op.move (Operand.tmp 7), type := 3, pos := "zsortordered.go:14", after := #[], guard := none }) (v := .int .i64 0) rfl (by kernel_rfl) (by kernel_rfl) (by kernel_rfl) (fun _ _ _ h => h) ?_ hB ?_
  · (refine Or.inl ⟨by kernel_rfl, ?_⟩; intro w hSw; go_simp)
  simp only [Act.put, List.setIfInBounds_toArray, List.set_cons_zero, List.set_cons_succ]
  refine wpAnyH_take (i := 1) (oi := { dst := some 17, op := Op.move (Operand.tmp 1), type := 3, pos := "zsortordered.go:14", after := #[], guard := none }) (v := .int .i64 0) rfl (by kernel_rfl) (by kernel_rfl) (by kernel_rfl) (fun _ _ _ h => h) ?_ hB ?_
  · (refine Or.inl ⟨by kernel_rfl, ?_⟩; intro w hSw; go_simp)
  simp only [Act.put, List.setIfInBounds_toArray, List.set_cons_zero, List.set_cons_succ]
  refine wpAnyH_take (i := 2) (oi := { dst := some 18, op := Op.binOp BinOp.gtr 3 (Operand.tmp 16) (Operand.tmp 17) 3, type := 4, pos := "zsortordered.go:14", after := #[{ on := 0, ground := Ground.data }, { on := 1, ground := Ground.data }], guard := none }) (v := .bool false) rfl (by kernel_rfl) (by kernel_rfl) (by kernel_rfl) (fun _ _ _ h => h) ?_ hB ?_
  · (refine Or.inl ⟨by kernel_rfl, ?_⟩; intro w hSw; go_simp)
  simp only [Act.put, List.setIfInBounds_toArray, List.set_cons_zero, List.set_cons_succ]
  refine wpAnyH_take (i := 3) (oi := { dst := some 19, op := Op.move (Operand.tmp 18), type := 4, pos := "zsortordered.go:14", after := #[{ on := 2, ground := Ground.data }], guard := none }) (v := .bool false) rfl (by kernel_rfl) (by kernel_rfl) (by kernel_rfl) (fun _ _ _ h => h) ?_ hB ?_
  · (refine Or.inl ⟨by kernel_rfl, ?_⟩; intro w hSw; go_simp)
  simp only [Act.put, List.setIfInBounds_toArray, List.set_cons_zero, List.set_cons_succ]
  refine wpAnyH_take (i := 4) (oi := { dst := some 20, op := Op.move (Operand.tmp 0), type := 91, pos := "zsortordered.go:14", after := #[{ on := 3, ground := Ground.guard }], guard := some (3, true) }) (v := undef) rfl (by kernel_rfl) (by kernel_rfl) (by kernel_rfl) (fun _ _ _ h => h) ?_ hB ?_
  · (exact Or.inr ⟨by kernel_rfl, rfl⟩)
  simp only [Act.put, List.setIfInBounds_toArray, List.set_cons_zero, List.set_cons_succ]
  refine wpAnyH_take (i := 5) (oi := { dst := some 21, op := Op.move (Operand.tmp 7), type := 3, pos := "zsortordered.go:14", after := #[{ on := 3, ground := Ground.guard }], guard := some (3, true) }) (v := undef) rfl (by kernel_rfl) (by kernel_rfl) (by kernel_rfl) (fun _ _ _ h => h) ?_ hB ?_
  · (exact Or.inr ⟨by kernel_rfl, rfl⟩)
  simp only [Act.put, List.setIfInBounds_toArray, List.set_cons_zero, List.set_cons_succ]
  refine wpAnyH_take (i := 6) (oi := { dst := some 22, op := Op.indexAddr 91 (Operand.tmp 20) (Operand.tmp 21), type := 0, pos := "zsortordered.go:14", after := #[{ on := 4, ground := Ground.data }, { on := 5, ground := Ground.data }, { on := 3, ground := Ground.guard }], guard := some (3, true) }) (v := undef) rfl (by kernel_rfl) (by kernel_rfl) (by kernel_rfl) (fun _ _ _ h => h) ?_ hB ?_
  · (exact Or.inr ⟨by kernel_rfl, rfl⟩)
  simp only [Act.put, List.setIfInBounds_toArray, List.set_cons_zero, List.set_cons_succ]
  refine wpAnyH_take (i := 7) (oi := { dst := some 23, op := Op.load 28 (Operand.tmp 22), type := 28, pos := "zsortordered.go:14", after := #[{ on := 6, ground := Ground.data }, { on := 3, ground := Ground.guard }], guard := some (3, true) }) (v := undef) rfl (by kernel_rfl) (by kernel_rfl) (by kernel_rfl) (fun _ _ _ h => h) ?_ hB ?_
  · (exact Or.inr ⟨by kernel_rfl, rfl⟩)
  simp only [Act.put, List.setIfInBounds_toArray, List.set_cons_zero, List.set_cons_succ]
  refine wpAnyH_take (i := 8) (oi := { dst := some 24, op := Op.move (Operand.tmp 0), type := 91, pos := "zsortordered.go:14", after := #[{ on := 3, ground := Ground.guard }], guard := some (3, true) }) (v := undef) rfl (by kernel_rfl) (by kernel_rfl) (by kernel_rfl) (fun _ _ _ h => h) ?_ hB ?_
  · (exact Or.inr ⟨by kernel_rfl, rfl⟩)
  simp only [Act.put, List.setIfInBounds_toArray, List.set_cons_zero, List.set_cons_succ]
  refine wpAnyH_take (i := 9) (oi := { dst := some 25, op := Op.move (Operand.tmp 7), type := 3, pos := "zsortordered.go:14", after := #[{ on := 3, ground := Ground.guard }], guard := some (3, true) }) (v := undef) rfl (by kernel_rfl) (by kernel_rfl) (by kernel_rfl) (fun _ _ _ h => h) ?_ hB ?_
  · (exact Or.inr ⟨by kernel_rfl, rfl⟩)
  simp only [Act.put, List.setIfInBounds_toArray, List.set_cons_zero, List.set_cons_succ]
  refine wpAnyH_take (i := 10) (oi := { dst := some 26, op := Op.binOp BinOp.sub 3 (Operand.tmp 25) (Operand.const (Value.int IntKind.i64 1)) 3, type := 3, pos := "zsortordered.go:14", after := #[{ on := 9, ground := Ground.data }, { on := 3, ground := Ground.guard }], guard := some (3, true) }) (v := undef) rfl (by kernel_rfl) (by kernel_rfl) (by kernel_rfl) (fun _ _ _ h => h) ?_ hB ?_
  · (exact Or.inr ⟨by kernel_rfl, rfl⟩)
  simp only [Act.put, List.setIfInBounds_toArray, List.set_cons_zero, List.set_cons_succ]
  refine wpAnyH_take (i := 11) (oi := { dst := some 27, op := Op.indexAddr 91 (Operand.tmp 24) (Operand.tmp 26), type := 0, pos := "zsortordered.go:14", after := #[{ on := 8, ground := Ground.data }, { on := 10, ground := Ground.data }, { on := 3, ground := Ground.guard }], guard := some (3, true) }) (v := undef) rfl (by kernel_rfl) (by kernel_rfl) (by kernel_rfl) (fun _ _ _ h => h) ?_ hB ?_
  · (exact Or.inr ⟨by kernel_rfl, rfl⟩)
  simp only [Act.put, List.setIfInBounds_toArray, List.set_cons_zero, List.set_cons_succ]
  refine wpAnyH_take (i := 12) (oi := { dst := some 28, op := Op.load 28 (Operand.tmp 27), type := 28, pos := "zsortordered.go:14", after := #[{ on := 11, ground := Ground.data }, { on := 3, ground := Ground.guard }], guard := some (3, true) }) (v := undef) rfl (by kernel_rfl) (by kernel_rfl) (by kernel_rfl) (fun _ _ _ h => h) ?_ hB ?_
  · (exact Or.inr ⟨by kernel_rfl, rfl⟩)
  simp only [Act.put, List.setIfInBounds_toArray, List.set_cons_zero, List.set_cons_succ]
  refine wpAnyH_take (i := 13) (oi := { dst := some 29, op := Op.call { callee := Callee.value (Operand.func 86), args := #[Operand.tmp 23, Operand.tmp 28], argTypes := #[28, 28] }, type := 4, pos := "zsortordered.go:14", after := #[{ on := 7, ground := Ground.data }, { on := 12, ground := Ground.data }, { on := 3, ground := Ground.chain }, { on := 3, ground := Ground.guard }], guard := some (3, true) }) (v := undef) rfl (by kernel_rfl) (by kernel_rfl) (by kernel_rfl) (fun _ _ _ h => h) ?_ hB ?_
  · (exact Or.inr ⟨by kernel_rfl, rfl⟩)
  simp only [Act.put, List.setIfInBounds_toArray, List.set_cons_zero, List.set_cons_succ]
  refine wpAnyH_take (i := 14) (oi := { dst := some 30, op := Op.pick (Operand.tmp 19) (Operand.tmp 29) (Operand.const (Value.bool false)), type := 4, pos := "zsortordered.go:14", after := #[{ on := 3, ground := Ground.data }, { on := 13, ground := Ground.data }], guard := none }) (v := .bool false) rfl (by kernel_rfl) (by kernel_rfl) (by kernel_rfl) (fun _ _ _ h => h) ?_ hB ?_
  · (refine Or.inl ⟨by kernel_rfl, ?_⟩; intro w hSw; go_simp)
  simp only [Act.put, List.setIfInBounds_toArray, List.set_cons_zero, List.set_cons_succ]
  refine wpAnyH_done (by kernel_rfl) ?_ _
  refine NoPanic.normal ?_
  have hEnd := HQ.out (.int .i64 0) (.int .i64 0) (.bool false) (.bool false) (undef) (undef) (undef) (undef) (undef) (undef) (undef) (undef) (undef) (undef) _ hB
  exact hEnd

end Go.Proofs.YtljfhabhenaapaaDoor
