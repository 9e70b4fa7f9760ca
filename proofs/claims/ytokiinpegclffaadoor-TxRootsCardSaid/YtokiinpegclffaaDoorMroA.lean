/-
  The contract of the document's answer for layer 4: the sum at a place of a level.
-/
import Derived.Test.YtokiinpegclffaaDoorMroP
import Derived.Deep.RegionHeld3
namespace Go.Proofs.YtokiinpegclffaaDoor.merkleRoots
open Go.ChangeShapes Go.WideShapes Go.ChangeAt Go.RowKit
set_option linter.unusedVariables false
set_option linter.unusedSimpArgs false
set_option maxRecDepth 100000 in
set_option maxHeartbeats 4000000 in
theorem region7_7_8 (g6 g8 l i n c : Nat) (s : Option Addr) (V : World) (x y Z : List Nat) (t3 t4 t5 t7 t9 t10 t11 t12 t13 t14 t15 t16 t17 t18 t19 t20 t21 t22 t23 t24 t25 t26 t27 t28 t29 t30 t31 t32 t33 t34 t35 t36 t37 t38 t39 t40 t41 t42 : Value) (Q : Exit → Act → World → Prop) (HI : Hid (IsId x ∧ IsId Z)) (HJ : Hid (l ≤ 100 ∧ i ≤ 100)) (K6 : Hid (Bk V g6 28 (idA (zeros 32)))) (K8 : Hid (Bk V g8 28 (idA x))) (HG : Hid (g6 < g8))
    (HC : Hid (∀ W, Below V.heap.size V W → Calls Tryd.prog 88 #[.slice s n c, .int .i64 (l : Int), .int .i64 (2 * (i : Int) + 1)] W fun e w' => e = .returned (.agg (idA y)) ∧ Below W.heap.size W w'))
    (HP : Hid (∀ W, Calls Tryd.prog 101 #[.agg (idA x), .agg (idA y)] W fun e w' => e = .returned (.agg (idA Z)) ∧ Below W.heap.size W w'))
    (HQ : Hid (∀ x34 x35 x36 x37 x38 x39 x40 x41 x42 w', Below g6 V w' → Bk w' g6 28 (idA Z) → Q .normal { tmps := List.toArray (Value.slice s n c :: Value.int IntKind.i64 ((l : Int) + 1) :: Value.int IntKind.i64 (i : Int) :: t3 :: t4 :: t5 :: Value.pointer (some { block := g6, off := 0 }) :: t7 :: Value.pointer (some { block := g8, off := 0 }) :: t9 :: t10 :: t11 :: t12 :: t13 :: t14 :: t15 :: t16 :: t17 :: t18 :: t19 :: t20 :: t21 :: t22 :: t23 :: t24 :: t25 :: t26 :: t27 :: t28 :: t29 :: t30 :: t31 :: t32 :: t33 :: x34 :: x35 :: x36 :: x37 :: x38 :: x39 :: x40 :: x41 :: x42 :: []), defers := [] } w')) (w : World) (hB : Below g6 V w ∧ Bk w g8 28 (idA x)) (hv : Below V.heap.size V w) :
    wpAnyH Tryd.prog .any (#[{ dst := some 34, op := Op.load 28 (Operand.tmp 8), type := 28, pos := "ref.go:19", after := #[], guard := none },
{ dst := some 35, op := Op.move (Operand.tmp 0), type := 121, pos := "ref.go:19", after := #[], guard := none },
{ dst := some 36, op := Op.move (Operand.tmp 1), type := 3, pos := "ref.go:19", after := #[], guard := none },
{ dst := some 37, op := Op.binOp BinOp.sub 3 (Operand.tmp 36) (Operand.const (Value.int IntKind.i64 1)) 3, type := 3, pos := "ref.go:19", after := #[{ on := 2, ground := Ground.data }], guard := none },
{ dst := some 38, op := Op.move (Operand.tmp 2), type := 3, pos := "ref.go:19", after := #[], guard := none },
{ dst := some 39, op := Op.binOp BinOp.mul 3 (Operand.const (Value.int IntKind.i64 2)) (Operand.tmp 38) 3, type := 3, pos := "ref.go:19", after := #[{ on := 4, ground := Ground.data }], guard := none },
{ dst := some 40, op := Op.binOp BinOp.add 3 (Operand.tmp 39) (Operand.const (Value.int IntKind.i64 1)) 3, type := 3, pos := "ref.go:19", after := #[{ on := 5, ground := Ground.data }], guard := none },
{ dst := some 41, op := Op.call { callee := Callee.value (Operand.func 88), args := #[Operand.tmp 35, Operand.tmp 37, Operand.tmp 40], argTypes := #[121, 3, 3] }, type := 28, pos := "ref.go:19", after := #[{ on := 1, ground := Ground.data }, { on := 3, ground := Ground.data }, { on := 6, ground := Ground.data }], guard := none },
{ dst := some 42, op := Op.call { callee := Callee.value (Operand.func 101), args := #[Operand.tmp 34, Operand.tmp 41], argTypes := #[28, 28] }, type := 28, pos := "ref.go:19", after := #[{ on := 0, ground := Ground.data }, { on := 7, ground := Ground.data }, { on := 7, ground := Ground.chain }], guard := none },
{ dst := none, op := Op.store 28 (Operand.tmp 6) (Operand.tmp 42), type := 0, pos := "ref.go:19", after := #[{ on := 8, ground := Ground.data }, { on := 8, ground := Ground.chain }, { on := 0, ground := Ground.phase }, { on := 1, ground := Ground.phase }, { on := 2, ground := Ground.phase }, { on := 3, ground := Ground.phase }, { on := 4, ground := Ground.phase }, { on := 5, ground := Ground.phase }, { on := 6, ground := Ground.phase }, { on := 7, ground := Ground.phase }, { on := 8, ground := Ground.phase }], guard := none }]) (NoPanic Q) (fun w' => Below g6 V w' ∧ Bk w' g8 28 (idA x)) 1 #[true, true, true, true, true, true, true, true, true, false] { tmps := List.toArray (Value.slice s n c :: Value.int IntKind.i64 ((l : Int) + 1) :: Value.int IntKind.i64 (i : Int) :: t3 :: t4 :: t5 :: Value.pointer (some { block := g6, off := 0 }) :: t7 :: Value.pointer (some { block := g8, off := 0 }) :: t9 :: t10 :: t11 :: t12 :: t13 :: t14 :: t15 :: t16 :: t17 :: t18 :: t19 :: t20 :: t21 :: t22 :: t23 :: t24 :: t25 :: t26 :: t27 :: t28 :: t29 :: t30 :: t31 :: t32 :: t33 :: Value.agg (idA x) :: Value.slice s n c :: Value.int IntKind.i64 ((l : Int) + 1) :: Value.int IntKind.i64 (l : Int) :: Value.int IntKind.i64 (i : Int) :: Value.int IntKind.i64 (2 * (i : Int)) :: Value.int IntKind.i64 (2 * (i : Int) + 1) :: Value.agg (idA y) :: Value.agg (idA Z) :: []), defers := [] } w := by
  refine wpAnyH_ready (rs := [9]) (by kernel_rfl) (by simp) ?_
  refine AllReadyH.cons rfl (fun K hK => ?_) ?_
  · have hz0 : (idA Z).size = (idA (zeros 32)).size := by rw [idA_size, idA_size, HI.out.2.1]; rfl
    have hB6 : Below g6 V w := hv.mono (Nat.le_of_lt K6.out.lt)
    have k6 : Bk w g6 28 (idA (zeros 32)) := Bk.below K6.out hv K6.out.lt
    refine step_storeD rfl 28 (.tmp 6) (.tmp 42) rfl g6 0 (idA Z) rfl rfl (by rw [hz0]; exact k6.there _ (Nat.le_refl _)) (by rw [idA_size, HI.out.2.1]; exact r_info) (id_ones Z) ?_
    refine hK.out _ _ ⟨Below.setCells (Nat.le_refl _) _ _ _ hB.1, Bk.farCells hB.2 (Ne.symm (Nat.ne_of_lt HG.out)) _ 0⟩ (fun _ => ?_)
    refine wpAnyH_done (by kernel_rfl) ?_ _
    exact NoPanic.normal (HQ.out _ _ _ _ _ _ _ _ _ _ (Below.setCells (Nat.le_refl _) _ _ _ hB6) (k6.setAll hz0))
  exact AllReadyH.nil

set_option maxRecDepth 100000 in
set_option maxHeartbeats 4000000 in
theorem region7_7 (g6 g8 l i n c : Nat) (s : Option Addr) (V : World) (x y Z : List Nat) (t3 t4 t5 t7 t9 t10 t11 t12 t13 t14 t15 t16 t17 t18 t19 t20 t21 t22 t23 t24 t25 t26 t27 t28 t29 t30 t31 t32 t33 t34 t35 t36 t37 t38 t39 t40 t41 t42 : Value) (Q : Exit → Act → World → Prop) (HI : Hid (IsId x ∧ IsId Z)) (HJ : Hid (l ≤ 100 ∧ i ≤ 100)) (K6 : Hid (Bk V g6 28 (idA (zeros 32)))) (K8 : Hid (Bk V g8 28 (idA x))) (HG : Hid (g6 < g8))
    (HC : Hid (∀ W, Below V.heap.size V W → Calls Tryd.prog 88 #[.slice s n c, .int .i64 (l : Int), .int .i64 (2 * (i : Int) + 1)] W fun e w' => e = .returned (.agg (idA y)) ∧ Below W.heap.size W w'))
    (HP : Hid (∀ W, Calls Tryd.prog 101 #[.agg (idA x), .agg (idA y)] W fun e w' => e = .returned (.agg (idA Z)) ∧ Below W.heap.size W w'))
    (HQ : Hid (∀ x34 x35 x36 x37 x38 x39 x40 x41 x42 w', Below g6 V w' → Bk w' g6 28 (idA Z) → Q .normal { tmps := List.toArray (Value.slice s n c :: Value.int IntKind.i64 ((l : Int) + 1) :: Value.int IntKind.i64 (i : Int) :: t3 :: t4 :: t5 :: Value.pointer (some { block := g6, off := 0 }) :: t7 :: Value.pointer (some { block := g8, off := 0 }) :: t9 :: t10 :: t11 :: t12 :: t13 :: t14 :: t15 :: t16 :: t17 :: t18 :: t19 :: t20 :: t21 :: t22 :: t23 :: t24 :: t25 :: t26 :: t27 :: t28 :: t29 :: t30 :: t31 :: t32 :: t33 :: x34 :: x35 :: x36 :: x37 :: x38 :: x39 :: x40 :: x41 :: x42 :: []), defers := [] } w')) (w : World) (hB : Below g6 V w ∧ Bk w g8 28 (idA x)) (hv : Below V.heap.size V w) :
    wpAnyH Tryd.prog .any (#[{ dst := some 34, op := Op.load 28 (Operand.tmp 8), type := 28, pos := "ref.go:19", after := #[], guard := none },
{ dst := some 35, op := Op.move (Operand.tmp 0), type := 121, pos := "ref.go:19", after := #[], guard := none },
{ dst := some 36, op := Op.move (Operand.tmp 1), type := 3, pos := "ref.go:19", after := #[], guard := none },
{ dst := some 37, op := Op.binOp BinOp.sub 3 (Operand.tmp 36) (Operand.const (Value.int IntKind.i64 1)) 3, type := 3, pos := "ref.go:19", after := #[{ on := 2, ground := Ground.data }], guard := none },
{ dst := some 38, op := Op.move (Operand.tmp 2), type := 3, pos := "ref.go:19", after := #[], guard := none },
{ dst := some 39, op := Op.binOp BinOp.mul 3 (Operand.const (Value.int IntKind.i64 2)) (Operand.tmp 38) 3, type := 3, pos := "ref.go:19", after := #[{ on := 4, ground := Ground.data }], guard := none },
{ dst := some 40, op := Op.binOp BinOp.add 3 (Operand.tmp 39) (Operand.const (Value.int IntKind.i64 1)) 3, type := 3, pos := "ref.go:19", after := #[{ on := 5, ground := Ground.data }], guard := none },
{ dst := some 41, op := Op.call { callee := Callee.value (Operand.func 88), args := #[Operand.tmp 35, Operand.tmp 37, Operand.tmp 40], argTypes := #[121, 3, 3] }, type := 28, pos := "ref.go:19", after := #[{ on := 1, ground := Ground.data }, { on := 3, ground := Ground.data }, { on := 6, ground := Ground.data }], guard := none },
{ dst := some 42, op := Op.call { callee := Callee.value (Operand.func 101), args := #[Operand.tmp 34, Operand.tmp 41], argTypes := #[28, 28] }, type := 28, pos := "ref.go:19", after := #[{ on := 0, ground := Ground.data }, { on := 7, ground := Ground.data }, { on := 7, ground := Ground.chain }], guard := none },
{ dst := none, op := Op.store 28 (Operand.tmp 6) (Operand.tmp 42), type := 0, pos := "ref.go:19", after := #[{ on := 8, ground := Ground.data }, { on := 8, ground := Ground.chain }, { on := 0, ground := Ground.phase }, { on := 1, ground := Ground.phase }, { on := 2, ground := Ground.phase }, { on := 3, ground := Ground.phase }, { on := 4, ground := Ground.phase }, { on := 5, ground := Ground.phase }, { on := 6, ground := Ground.phase }, { on := 7, ground := Ground.phase }, { on := 8, ground := Ground.phase }], guard := none }]) (NoPanic Q) (fun w' => Below g6 V w' ∧ Bk w' g8 28 (idA x)) 2 #[true, true, true, true, true, true, true, true, false, false] { tmps := List.toArray (Value.slice s n c :: Value.int IntKind.i64 ((l : Int) + 1) :: Value.int IntKind.i64 (i : Int) :: t3 :: t4 :: t5 :: Value.pointer (some { block := g6, off := 0 }) :: t7 :: Value.pointer (some { block := g8, off := 0 }) :: t9 :: t10 :: t11 :: t12 :: t13 :: t14 :: t15 :: t16 :: t17 :: t18 :: t19 :: t20 :: t21 :: t22 :: t23 :: t24 :: t25 :: t26 :: t27 :: t28 :: t29 :: t30 :: t31 :: t32 :: t33 :: Value.agg (idA x) :: Value.slice s n c :: Value.int IntKind.i64 ((l : Int) + 1) :: Value.int IntKind.i64 (l : Int) :: Value.int IntKind.i64 (i : Int) :: Value.int IntKind.i64 (2 * (i : Int)) :: Value.int IntKind.i64 (2 * (i : Int) + 1) :: Value.agg (idA y) :: t42 :: []), defers := [] } w := by
  refine wpAnyH_ready (rs := [8]) (by kernel_rfl) (by simp) ?_
  refine AllReadyH.cons rfl (fun K hK => ?_) ?_
  · refine step_callS (by rfl) _ _ (.agg (idA Z)) (HP.out w) (by kernel_rfl) (fun w6 hb6 => ?_)
    simp only [Act.put, List.setIfInBounds_toArray, List.set_cons_zero, List.set_cons_succ]
    refine hK.out _ _ ⟨hB.1.trans (hb6.mono (Nat.le_trans (Nat.le_of_lt K6.out.lt) hv.size)), hB.2.keep hb6⟩ (fun _ => ?_)
    exact region7_7_8 g6 g8 l i n c s V x y Z t3 t4 t5 t7 t9 t10 t11 t12 t13 t14 t15 t16 t17 t18 t19 t20 t21 t22 t23 t24 t25 t26 t27 t28 t29 t30 t31 t32 t33 t34 t35 t36 t37 t38 t39 t40 t41 t42 Q HI HJ K6 K8 HG HC HP HQ _ ⟨hB.1.trans (hb6.mono (Nat.le_trans (Nat.le_of_lt K6.out.lt) hv.size)), hB.2.keep hb6⟩ (hv.trans (hb6.mono hv.size))
  exact AllReadyH.nil

set_option maxRecDepth 100000 in
set_option maxHeartbeats 4000000 in
theorem region7_o (g6 g8 l i n c : Nat) (s : Option Addr) (V : World) (x y Z : List Nat) (t3 t4 t5 t7 t9 t10 t11 t12 t13 t14 t15 t16 t17 t18 t19 t20 t21 t22 t23 t24 t25 t26 t27 t28 t29 t30 t31 t32 t33 t34 t35 t36 t37 t38 t39 t40 t41 t42 : Value) (Q : Exit → Act → World → Prop) (HI : Hid (IsId x ∧ IsId Z)) (HJ : Hid (l ≤ 100 ∧ i ≤ 100)) (K6 : Hid (Bk V g6 28 (idA (zeros 32)))) (K8 : Hid (Bk V g8 28 (idA x))) (HG : Hid (g6 < g8))
    (HC : Hid (∀ W, Below V.heap.size V W → Calls Tryd.prog 88 #[.slice s n c, .int .i64 (l : Int), .int .i64 (2 * (i : Int) + 1)] W fun e w' => e = .returned (.agg (idA y)) ∧ Below W.heap.size W w'))
    (HP : Hid (∀ W, Calls Tryd.prog 101 #[.agg (idA x), .agg (idA y)] W fun e w' => e = .returned (.agg (idA Z)) ∧ Below W.heap.size W w'))
    (HQ : Hid (∀ x34 x35 x36 x37 x38 x39 x40 x41 x42 w', Below g6 V w' → Bk w' g6 28 (idA Z) → Q .normal { tmps := List.toArray (Value.slice s n c :: Value.int IntKind.i64 ((l : Int) + 1) :: Value.int IntKind.i64 (i : Int) :: t3 :: t4 :: t5 :: Value.pointer (some { block := g6, off := 0 }) :: t7 :: Value.pointer (some { block := g8, off := 0 }) :: t9 :: t10 :: t11 :: t12 :: t13 :: t14 :: t15 :: t16 :: t17 :: t18 :: t19 :: t20 :: t21 :: t22 :: t23 :: t24 :: t25 :: t26 :: t27 :: t28 :: t29 :: t30 :: t31 :: t32 :: t33 :: x34 :: x35 :: x36 :: x37 :: x38 :: x39 :: x40 :: x41 :: x42 :: []), defers := [] } w')) (w : World) (hB : Below g6 V w ∧ Bk w g8 28 (idA x)) (hv : Below V.heap.size V w) :
    wpAnyH Tryd.prog .any (#[{ dst := some 34, op := Op.load 28 (Operand.tmp 8), type := 28, pos := "ref.go:19", after := #[], guard := none },
{ dst := some 35, op := Op.move (Operand.tmp 0), type := 121, pos := "ref.go:19", after := #[], guard := none },
{ dst := some 36, op := Op.move (Operand.tmp 1), type := 3, pos := "ref.go:19", after := #[], guard := none },
{ dst := some 37, op := Op.binOp BinOp.sub 3 (Operand.tmp 36) (Operand.const (Value.int IntKind.i64 1)) 3, type := 3, pos := "ref.go:19", after := #[{ on := 2, ground := Ground.data }], guard := none },
{ dst := some 38, op := Op.move (Operand.tmp 2), type := 3, pos := "ref.go:19", after := #[], guard := none },
{ dst := some 39, op := Op.binOp BinOp.mul 3 (Operand.const (Value.int IntKind.i64 2)) (Operand.tmp 38) 3, type := 3, pos := "ref.go:19", after := #[{ on := 4, ground := Ground.data }], guard := none },
{ dst := some 40, op := Op.binOp BinOp.add 3 (Operand.tmp 39) (Operand.const (Value.int IntKind.i64 1)) 3, type := 3, pos := "ref.go:19", after := #[{ on := 5, ground := Ground.data }], guard := none },
{ dst := some 41, op := Op.call { callee := Callee.value (Operand.func 88), args := #[Operand.tmp 35, Operand.tmp 37, Operand.tmp 40], argTypes := #[121, 3, 3] }, type := 28, pos := "ref.go:19", after := #[{ on := 1, ground := Ground.data }, { on := 3, ground := Ground.data }, { on := 6, ground := Ground.data }], guard := none },
{ dst := some 42, op := Op.call { callee := Callee.value (Operand.func 101), args := #[Operand.tmp 34, Operand.tmp 41], argTypes := #[28, 28] }, type := 28, pos := "ref.go:19", after := #[{ on := 0, ground := Ground.data }, { on := 7, ground := Ground.data }, { on := 7, ground := Ground.chain }], guard := none },
{ dst := none, op := Op.store 28 (Operand.tmp 6) (Operand.tmp 42), type := 0, pos := "ref.go:19", after := #[{ on := 8, ground := Ground.data }, { on := 8, ground := Ground.chain }, { on := 0, ground := Ground.phase }, { on := 1, ground := Ground.phase }, { on := 2, ground := Ground.phase }, { on := 3, ground := Ground.phase }, { on := 4, ground := Ground.phase }, { on := 5, ground := Ground.phase }, { on := 6, ground := Ground.phase }, { on := 7, ground := Ground.phase }, { on := 8, ground := Ground.phase }], guard := none }]) (NoPanic Q) (fun w' => Below g6 V w' ∧ Bk w' g8 28 (idA x)) 3 #[true, true, true, true, true, true, true, false, false, false] { tmps := List.toArray (Value.slice s n c :: Value.int IntKind.i64 ((l : Int) + 1) :: Value.int IntKind.i64 (i : Int) :: t3 :: t4 :: t5 :: Value.pointer (some { block := g6, off := 0 }) :: t7 :: Value.pointer (some { block := g8, off := 0 }) :: t9 :: t10 :: t11 :: t12 :: t13 :: t14 :: t15 :: t16 :: t17 :: t18 :: t19 :: t20 :: t21 :: t22 :: t23 :: t24 :: t25 :: t26 :: t27 :: t28 :: t29 :: t30 :: t31 :: t32 :: t33 :: Value.agg (idA x) :: Value.slice s n c :: Value.int IntKind.i64 ((l : Int) + 1) :: Value.int IntKind.i64 (l : Int) :: Value.int IntKind.i64 (i : Int) :: Value.int IntKind.i64 (2 * (i : Int)) :: Value.int IntKind.i64 (2 * (i : Int) + 1) :: t41 :: t42 :: []), defers := [] } w := by
  refine wpAnyH_ready (rs := [7]) (by kernel_rfl) (by simp) ?_
  refine AllReadyH.cons rfl (fun K hK => ?_) ?_
  · refine step_callS (by rfl) _ _ (.agg (idA y)) (HC.out w hv) (by kernel_rfl) (fun w6 hb6 => ?_)
    simp only [Act.put, List.setIfInBounds_toArray, List.set_cons_zero, List.set_cons_succ]
    refine hK.out _ _ ⟨hB.1.trans (hb6.mono (Nat.le_trans (Nat.le_of_lt K6.out.lt) hv.size)), hB.2.keep hb6⟩ (fun _ => ?_)
    exact region7_7 g6 g8 l i n c s V x y Z t3 t4 t5 t7 t9 t10 t11 t12 t13 t14 t15 t16 t17 t18 t19 t20 t21 t22 t23 t24 t25 t26 t27 t28 t29 t30 t31 t32 t33 t34 t35 t36 t37 t38 t39 t40 t41 t42 Q HI HJ K6 K8 HG HC HP HQ _ ⟨hB.1.trans (hb6.mono (Nat.le_trans (Nat.le_of_lt K6.out.lt) hv.size)), hB.2.keep hb6⟩ (hv.trans (hb6.mono hv.size))
  exact AllReadyH.nil

set_option maxRecDepth 100000 in
set_option maxHeartbeats 4000000 in
theorem region7 (g6 g8 l i n c : Nat) (s : Option Addr) (V : World) (x y Z : List Nat) (t3 t4 t5 t7 t9 t10 t11 t12 t13 t14 t15 t16 t17 t18 t19 t20 t21 t22 t23 t24 t25 t26 t27 t28 t29 t30 t31 t32 t33 t34 t35 t36 t37 t38 t39 t40 t41 t42 : Value) (Q : Exit → Act → World → Prop) (HI : Hid (IsId x ∧ IsId Z)) (HJ : Hid (l ≤ 100 ∧ i ≤ 100)) (K6 : Hid (Bk V g6 28 (idA (zeros 32)))) (K8 : Hid (Bk V g8 28 (idA x))) (HG : Hid (g6 < g8))
    (HC : Hid (∀ W, Below V.heap.size V W → Calls Tryd.prog 88 #[.slice s n c, .int .i64 (l : Int), .int .i64 (2 * (i : Int) + 1)] W fun e w' => e = .returned (.agg (idA y)) ∧ Below W.heap.size W w'))
    (HP : Hid (∀ W, Calls Tryd.prog 101 #[.agg (idA x), .agg (idA y)] W fun e w' => e = .returned (.agg (idA Z)) ∧ Below W.heap.size W w'))
    (HQ : Hid (∀ x34 x35 x36 x37 x38 x39 x40 x41 x42 w', Below g6 V w' → Bk w' g6 28 (idA Z) → Q .normal { tmps := List.toArray (Value.slice s n c :: Value.int IntKind.i64 ((l : Int) + 1) :: Value.int IntKind.i64 (i : Int) :: t3 :: t4 :: t5 :: Value.pointer (some { block := g6, off := 0 }) :: t7 :: Value.pointer (some { block := g8, off := 0 }) :: t9 :: t10 :: t11 :: t12 :: t13 :: t14 :: t15 :: t16 :: t17 :: t18 :: t19 :: t20 :: t21 :: t22 :: t23 :: t24 :: t25 :: t26 :: t27 :: t28 :: t29 :: t30 :: t31 :: t32 :: t33 :: x34 :: x35 :: x36 :: x37 :: x38 :: x39 :: x40 :: x41 :: x42 :: []), defers := [] } w')) :
    Code.wp Tryd.prog (Code.region 7 (#[{ dst := some 34, op := Op.load 28 (Operand.tmp 8), type := 28, pos := "ref.go:19", after := #[], guard := none },
{ dst := some 35, op := Op.move (Operand.tmp 0), type := 121, pos := "ref.go:19", after := #[], guard := none },
{ dst := some 36, op := Op.move (Operand.tmp 1), type := 3, pos := "ref.go:19", after := #[], guard := none },
{ dst := some 37, op := Op.binOp BinOp.sub 3 (Operand.tmp 36) (Operand.const (Value.int IntKind.i64 1)) 3, type := 3, pos := "ref.go:19", after := #[{ on := 2, ground := Ground.data }], guard := none },
{ dst := some 38, op := Op.move (Operand.tmp 2), type := 3, pos := "ref.go:19", after := #[], guard := none },
{ dst := some 39, op := Op.binOp BinOp.mul 3 (Operand.const (Value.int IntKind.i64 2)) (Operand.tmp 38) 3, type := 3, pos := "ref.go:19", after := #[{ on := 4, ground := Ground.data }], guard := none },
{ dst := some 40, op := Op.binOp BinOp.add 3 (Operand.tmp 39) (Operand.const (Value.int IntKind.i64 1)) 3, type := 3, pos := "ref.go:19", after := #[{ on := 5, ground := Ground.data }], guard := none },
{ dst := some 41, op := Op.call { callee := Callee.value (Operand.func 88), args := #[Operand.tmp 35, Operand.tmp 37, Operand.tmp 40], argTypes := #[121, 3, 3] }, type := 28, pos := "ref.go:19", after := #[{ on := 1, ground := Ground.data }, { on := 3, ground := Ground.data }, { on := 6, ground := Ground.data }], guard := none },
{ dst := some 42, op := Op.call { callee := Callee.value (Operand.func 101), args := #[Operand.tmp 34, Operand.tmp 41], argTypes := #[28, 28] }, type := 28, pos := "ref.go:19", after := #[{ on := 0, ground := Ground.data }, { on := 7, ground := Ground.data }, { on := 7, ground := Ground.chain }], guard := none },
{ dst := none, op := Op.store 28 (Operand.tmp 6) (Operand.tmp 42), type := 0, pos := "ref.go:19", after := #[{ on := 8, ground := Ground.data }, { on := 8, ground := Ground.chain }, { on := 0, ground := Ground.phase }, { on := 1, ground := Ground.phase }, { on := 2, ground := Ground.phase }, { on := 3, ground := Ground.phase }, { on := 4, ground := Ground.phase }, { on := 5, ground := Ground.phase }, { on := 6, ground := Ground.phase }, { on := 7, ground := Ground.phase }, { on := 8, ground := Ground.phase }], guard := none }]) true) Q { tmps := List.toArray (Value.slice s n c :: Value.int IntKind.i64 ((l : Int) + 1) :: Value.int IntKind.i64 (i : Int) :: t3 :: t4 :: t5 :: Value.pointer (some { block := g6, off := 0 }) :: t7 :: Value.pointer (some { block := g8, off := 0 }) :: t9 :: t10 :: t11 :: t12 :: t13 :: t14 :: t15 :: t16 :: t17 :: t18 :: t19 :: t20 :: t21 :: t22 :: t23 :: t24 :: t25 :: t26 :: t27 :: t28 :: t29 :: t30 :: t31 :: t32 :: t33 :: t34 :: t35 :: t36 :: t37 :: t38 :: t39 :: t40 :: t41 :: t42 :: []), defers := [] } V := by
  refine wp_region_noPanic ?_
  refine wp_region_held_drew (S := (fun w' => Below g6 V w' ∧ Bk w' g8 28 (idA x))) (by kernel_rfl) ⟨(Below.refl _ _).drew, K8.out.drew⟩ (fun hHeld => ?_)
  have hB : Below g6 V V.drew ∧ Bk V.drew g8 28 (idA x) := ⟨(Below.refl _ _).drew, K8.out.drew⟩
  show wpAnyH _ _ _ _ _ 10 _ _ _
  refine wpAnyH_take (i := 0) (oi := { dst := some 34, op := Op.load 28 (Operand.tmp 8), type := 28, pos := "ref.go:19", after := #[], guard := none }) (v := Value.agg (idA x)) rfl (by kernel_rfl) (by kernel_rfl) (by kernel_rfl) (fun _ _ _ h => h) ?_ hHeld ?_
  · (exact yieldsIf_load_mid (by rfl) 28 (.tmp 8) rfl g8 0 rfl (x.map byteV) _ (fun w h => h.2.range0) Tryd.underlying28 rfl (by rw [List.length_map, HI.out.1.1]; exact r_info))
  simp only [Act.put, List.setIfInBounds_toArray, List.set_cons_zero, List.set_cons_succ]
  refine wpAnyH_take (i := 1) (oi := { dst := some 35, op := Op.move (Operand.tmp 0), type := 121, pos := "ref.go:19", after := #[], guard := none }) (v := Value.slice s n c) rfl (by kernel_rfl) (by kernel_rfl) (by kernel_rfl) (fun _ _ _ h => h) ?_ hHeld ?_
  · (refine Or.inl ⟨by rfl, ?_⟩; intro w hSw; have j0 := HJ.out.1; have j1 := HJ.out.2; go_simp)
  simp only [Act.put, List.setIfInBounds_toArray, List.set_cons_zero, List.set_cons_succ]
  refine wpAnyH_take (i := 2) (oi := { dst := some 36, op := Op.move (Operand.tmp 1), type := 3, pos := "ref.go:19", after := #[], guard := none }) (v := Value.int IntKind.i64 ((l : Int) + 1)) rfl (by kernel_rfl) (by kernel_rfl) (by kernel_rfl) (fun _ _ _ h => h) ?_ hHeld ?_
  · (refine Or.inl ⟨by rfl, ?_⟩; intro w hSw; have j0 := HJ.out.1; have j1 := HJ.out.2; go_simp)
  simp only [Act.put, List.setIfInBounds_toArray, List.set_cons_zero, List.set_cons_succ]
  refine wpAnyH_take (i := 3) (oi := { dst := some 37, op := Op.binOp BinOp.sub 3 (Operand.tmp 36) (Operand.const (Value.int IntKind.i64 1)) 3, type := 3, pos := "ref.go:19", after := #[{ on := 2, ground := Ground.data }], guard := none }) (v := Value.int IntKind.i64 (l : Int)) rfl (by kernel_rfl) (by kernel_rfl) (by kernel_rfl) (fun _ _ _ h => h) ?_ hHeld ?_
  · (refine Or.inl ⟨by rfl, ?_⟩; intro w hSw; have j0 := HJ.out.1; have j1 := HJ.out.2; go_simp; exact IntWalk.i64_in _ (by omega))
  simp only [Act.put, List.setIfInBounds_toArray, List.set_cons_zero, List.set_cons_succ]
  refine wpAnyH_take (i := 4) (oi := { dst := some 38, op := Op.move (Operand.tmp 2), type := 3, pos := "ref.go:19", after := #[], guard := none }) (v := Value.int IntKind.i64 (i : Int)) rfl (by kernel_rfl) (by kernel_rfl) (by kernel_rfl) (fun _ _ _ h => h) ?_ hHeld ?_
  · (refine Or.inl ⟨by rfl, ?_⟩; intro w hSw; have j0 := HJ.out.1; have j1 := HJ.out.2; go_simp)
  simp only [Act.put, List.setIfInBounds_toArray, List.set_cons_zero, List.set_cons_succ]
  refine wpAnyH_take (i := 5) (oi := { dst := some 39, op := Op.binOp BinOp.mul 3 (Operand.const (Value.int IntKind.i64 2)) (Operand.tmp 38) 3, type := 3, pos := "ref.go:19", after := #[{ on := 4, ground := Ground.data }], guard := none }) (v := Value.int IntKind.i64 (2 * (i : Int))) rfl (by kernel_rfl) (by kernel_rfl) (by kernel_rfl) (fun _ _ _ h => h) ?_ hHeld ?_
  · (refine Or.inl ⟨by rfl, ?_⟩; intro w hSw; have j0 := HJ.out.1; have j1 := HJ.out.2; go_simp; exact IntWalk.i64_in _ (by omega))
  simp only [Act.put, List.setIfInBounds_toArray, List.set_cons_zero, List.set_cons_succ]
  refine wpAnyH_take (i := 6) (oi := { dst := some 40, op := Op.binOp BinOp.add 3 (Operand.tmp 39) (Operand.const (Value.int IntKind.i64 1)) 3, type := 3, pos := "ref.go:19", after := #[{ on := 5, ground := Ground.data }], guard := none }) (v := Value.int IntKind.i64 (2 * (i : Int) + 1)) rfl (by kernel_rfl) (by kernel_rfl) (by kernel_rfl) (fun _ _ _ h => h) ?_ hHeld ?_
  · (refine Or.inl ⟨by rfl, ?_⟩; intro w hSw; have j0 := HJ.out.1; have j1 := HJ.out.2; go_simp; exact IntWalk.i64_in _ (by omega))
  simp only [Act.put, List.setIfInBounds_toArray, List.set_cons_zero, List.set_cons_succ]
  exact region7_o g6 g8 l i n c s V x y Z t3 t4 t5 t7 t9 t10 t11 t12 t13 t14 t15 t16 t17 t18 t19 t20 t21 t22 t23 t24 t25 t26 t27 t28 t29 t30 t31 t32 t33 t34 t35 t36 t37 t38 t39 t40 t41 t42 Q HI HJ K6 K8 HG HC HP HQ _ hB ((Below.refl _ _).drew)

theorem at_step (L : List (List Nat)) (l i : Nat) (x y : List Nat) (hx : x = nthI (levV L l) (2 * i)) (hy : y = nthI (levV L l) (2 * i + 1)) (h : i < cntN L.length (l + 1)) : nthI (levV L (l + 1)) i = if 2 * i + 1 = cntN L.length l then H2 x x else H2 x y := by
  rw [levV_at L l i h, ← hx]
  have h2 : i < (cntN L.length l + 1) / 2 := h
  by_cases e : 2 * i + 1 = cntN L.length l
  · rw [if_pos e]
    have : besideN (2 * i) (cntN L.length l) = 2 * i := by unfold besideN; rw [if_neg (by omega)]; omega
    rw [this, ← hx]
  · rw [if_neg e, bes_even _ _ (by omega), ← hy]
set_option maxRecDepth 100000 in
set_option maxHeartbeats 4000000 in
theorem at_any (L : List (List Nat)) (hn : L.length ≤ 100) : ∀ (l i : Nat) (v : Value) (w : World), l ≤ 50 → IdsV w w.heap.size v L → i < cntN L.length l →
    Calls Tryd.prog 88 #[v, .int .i64 (l : Int), .int .i64 (i : Int)] w fun e w' => e = .returned (.agg (idA (nthI (levV L l) i))) ∧ Below w.heap.size w w' := by
  intro l
  induction l with
  | zero =>
    intro i v w _ hv hi
    have hi : i < L.length := hi
    obtain ⟨s, c, rfl⟩ := hv.slice
    obtain ⟨b, o, rfl, hb, _, hr⟩ := hv.at_ (fun h => by rw [h] at hi; simp at hi)
    have hrx := hr i _ (nthI_get hi)
    have HX := Lib.hid (nthI_id hv.ids hi)
    have HE : Hid (nthI (levV L 0) i = nthI L i) := rfl
    rw [HE.out]
    obtain ⟨n, hnn⟩ : ∃ n, n = L.length := ⟨_, rfl⟩
    rw [← hnn] at hi ⊢
    have hin : (i : Int) < (n : Int) := by omega
    generalize nthI L i = x at *
    have hxl := HX.out.1
    have hrx2 := World.rangeAt_alloc hrx (.cells (idA (zeros 32)) 28)
    have N0 := Bk.new w 28 (idA (zeros 32))
    clear hv hr hrx HE
    go_enter Tryd.func88, Tryd.ntmps88
    go_wp2_with (first
      | (refine wpList_load_mid rfl 28 (.tmp 13) rfl b (o + i * 32) rfl (idA x).toList _ hrx2 Tryd.underlying28 rfl (by rw [Array.length_toList, idA_size, hxl]; exact r_info) ?_)
      | (refine wpList_store_mid rfl 28 (.tmp 6) (.tmp 14) rfl w.heap.size 0 (idA x) rfl rfl (by rw [idA_size, hxl]; exact N0.there 32 (by rw [idA_size]; decide)) (by rw [idA_size, hxl]; exact r_info) (id_ones _) ?_))
    exact r_ret hxl rfl rfl rfl (N0.setAll (by rw [idA_size, idA_size, hxl]; rfl)) (Below.setCells (Nat.le_refl _) _ _ _ ((Below.refl _ _).alloc (Nat.le_refl _) _))
  | succ l ih =>
    intro i v w hl hv hi
    have h2 : i < (cntN L.length l + 1) / 2 := hi
    have hnp : 0 < L.length := by
      rcases Nat.eq_zero_or_pos L.length with h | h
      · have h0 : ∀ j, cntN 0 j = 0 := fun j => by
          induction j with
          | zero => rfl
          | succ j ih => show (cntN 0 j + 1) / 2 = 0; omega
        rw [h, h0 l] at h2
        omega
      · exact h
    have hcl := (cntN_le L.length l hnp).1
    have HIX := Lib.hid (ih (2 * i) v w (by omega) hv (by omega))
    have HIY : Hid (2 * i + 1 ≠ cntN L.length l → ∀ W, Below w.heap.size w W → Calls Tryd.prog 88 #[v, .int .i64 (l : Int), .int .i64 (2 * (i : Int) + 1)] W fun e w' => e = .returned (.agg (idA (nthI (levV L l) (2 * i + 1)))) ∧ Below W.heap.size W w') := fun hne W hW => by
      have h := ih (2 * i + 1) v W (by omega) ((hv.keep hW (Nat.le_refl _)).mono hW.size) (by omega)
      have e : ((2 * i + 1 : Nat) : Int) = 2 * (i : Int) + 1 := by omega
      rw [e] at h
      exact h
    have HIX2 : Hid (∀ W, Below w.heap.size w W → Calls Tryd.prog 88 #[v, .int .i64 (l : Int), .int .i64 (2 * (i : Int))] W fun e w' => e = .returned (.agg (idA (nthI (levV L l) (2 * i)))) ∧ Below W.heap.size W w') := fun W hW => by
      have h := ih (2 * i) v W (by omega) ((hv.keep hW (Nat.le_refl _)).mono hW.size) (by omega)
      have e : ((2 * i : Nat) : Int) = 2 * (i : Int) := by omega
      rw [e] at h
      exact h
    have HST := Lib.hid (at_step L l i _ _ rfl rfl hi)
    have HXI : Hid (IsId (nthI (levV L l) (2 * i))) := nthI_id (levV_ids L hv.ids l) (by rw [levV_length]; omega)
    have HYI : Hid (2 * i + 1 ≠ cntN L.length l → IsId (nthI (levV L l) (2 * i + 1))) := fun hne => nthI_id (levV_ids L hv.ids l) (by rw [levV_length]; omega)
    have HCN := Lib.hid (fun W => count_any L.length l W hn (by omega))
    rw [HST.out]
    generalize nthI (levV L l) (2 * i) = x at *
    generalize nthI (levV L l) (2 * i + 1) = y at *
    obtain ⟨s, c, rfl⟩ := hv.slice
    obtain ⟨n, hnn⟩ : ∃ n, n = L.length := ⟨_, rfl⟩
    rw [← hnn] at hcl h2 hn HIX2 HIY HCN HYI ⊢
    obtain ⟨cn, hcn⟩ : ∃ cn, cn = cntN n l := ⟨_, rfl⟩
    rw [← hcn] at hcl h2 HIY HCN HYI ⊢
    obtain ⟨z, hz⟩ : ∃ z, z = if 2 * i + 1 = cn then H2 x x else H2 x y := ⟨_, rfl⟩
    rw [← hz]
    have HZE := Lib.hid hz
    clear hz
    have hxl := HXI.out.1
    have ecast : ((l + 1 : Nat) : Int) = (l : Int) + 1 := by omega
    rw [ecast]
    have hl0 : decide ((l : Int) + 1 = 0) = false := decide_eq_false (by omega)
    clear ecast hcn hnn hv HIX HST ih hi
    go_enter Tryd.func88, Tryd.ntmps88
    go_wp2_with fail
    have hA : Below w.heap.size w (w.alloc (.cells (idA (zeros 32)) 28)) := (Below.refl _ _).alloc (Nat.le_refl _) _
    have K6 : Bk (w.alloc (.cells (idA (zeros 32)) 28)) w.heap.size 28 (idA (zeros 32)) := Bk.new _ _ _
    refine (HCN.out _).mono ?_
    rintro e w1 ⟨rfl, e1⟩
    subst e1
    have HIX3 := Lib.hid (HIX2.out _ hA)
    go_wp2_with fail
    refine HIX3.out.mono ?_
    rintro e w2 ⟨rfl, hb⟩
    have K6 := K6.keep hb
    have hW2 := hA.trans (hb.mono hA.size)
    have N0 := Bk.new w2 28 (idA (zeros 32))
    have z6 := K6.lt
    clear hb HIX3 hA HIX2
    go_upto_region 5 with (refine wpList_store_mid rfl 28 (.tmp 8) (.tmp 25) rfl w2.heap.size 0 (idA x) rfl rfl (by rw [idA_size, hxl]; exact N0.there 32 (by rw [idA_size]; decide)) (by rw [idA_size, hxl]; exact r_info) (id_ones _) ?_)
    have hA3 : Below w2.heap.size w2 ((w2.alloc (.cells (idA (zeros 32)) 28)).setCells w2.heap.size 0 (idA x).toList) := Below.setCells (Nat.le_refl _) _ _ _ ((Below.refl _ _).alloc (Nat.le_refl _) _)
    refine wp_any (fun V => Below w.heap.size w V ∧ Bk V w.heap.size 28 (idA (zeros 32)) ∧ Bk V w2.heap.size 28 (idA x)) ⟨hW2.trans (hA3.mono hW2.size), K6.keep hA3, N0.setAll (by rw [idA_size, idA_size, hxl]; rfl)⟩ ?_
    generalize w2.heap.size = g8 at *
    clear N0 hA3 hW2 K6
    rintro V ⟨hW, K6, K8⟩
    have HW := Lib.hid hW
    generalize hg6 : w.heap.size = g6 at *
    have hsz : g6 ≤ V.heap.size := by rw [← hg6]; exact hW.size
    clear hW
    by_cases hc : 2 * i + 1 = cn
    · have hzz : z = H2 x x := by rw [HZE.out, if_pos hc]
      have hd : decide (2 * (i : Int) + 1 = (cn : Int)) = true := decide_eq_true (by omega)
      have hd' : decide (2 * i + 1 = cn) = true := decide_eq_true hc
      have hbe : (2 * (i : Int) + 1 == (cn : Int)) = true := by simp; omega
      have HPX := Lib.hid (rpair_any x x V HXI.out HXI.out)
      have HZ := Lib.hid (H2_id x x)
      rw [← hzz] at HPX HZ
      clear hzz HZE
      have hzl := HZ.out.1
      clear hc HIY HYI
      go_wp2_with (refine wpList_load_mid rfl 28 (.tmp 8) rfl g8 0 rfl (idA x).toList _ K8.range0 Tryd.underlying28 rfl (by rw [Array.length_toList, idA_size, hxl]; exact r_info) ?_)
      refine HPX.out.mono ?_
      rintro e w5 ⟨rfl, hb5⟩
      have K6b := K6.keep hb5
      have hW5 := HW.out.trans (hb5.mono hsz)
      clear hb5 HPX K6 K8
      go_wp2_with (refine wpList_store_mid rfl 28 (.tmp 6) (.tmp 33) rfl g6 0 (idA z) rfl rfl (by rw [idA_size, hzl]; exact K6b.there 32 (by rw [idA_size]; decide)) (by rw [idA_size, hzl]; exact r_info) (id_ones _) ?_)
      exact r_ret hzl rfl rfl rfl (K6b.setAll (by rw [idA_size, idA_size, hzl]; rfl)) (by rw [hg6]; exact Below.setCells (Nat.le_refl _) _ _ _ hW5)
    · have hzz : z = H2 x y := by rw [HZE.out, if_neg hc]
      have hd : decide (2 * (i : Int) + 1 = (cn : Int)) = false := decide_eq_false (by omega)
      have hd' : decide (2 * i + 1 = cn) = false := decide_eq_false hc
      have hbe : (2 * (i : Int) + 1 == (cn : Int)) = false := by simp; omega
      have HY := Lib.hid (HYI.out hc)
      have HCY := HIY.out hc
      have HC7 : Hid (∀ W, Below V.heap.size V W → Calls Tryd.prog 88 #[.slice s n c, .int .i64 (l : Int), .int .i64 (2 * (i : Int) + 1)] W fun e w' => e = .returned (.agg (idA y)) ∧ Below W.heap.size W w') := fun W h => HCY W (HW.out.trans (h.mono hsz))
      have HP7 : Hid (∀ W, Calls Tryd.prog 101 #[.agg (idA x), .agg (idA y)] W fun e w' => e = .returned (.agg (idA (H2 x y))) ∧ Below W.heap.size W w') := fun W => rpair_any x y W HXI.out HY.out
      have HZ : Hid (IsId x ∧ IsId (H2 x y)) := ⟨HXI.out, H2_id x y⟩
      rw [← hzz] at HP7 HZ
      clear hzz HZE
      clear hc HIY HYI HCY
      go_upto_region 7 with fail
      refine region7 g6 g8 l i n c s V x y z _ _ _ _ _ _ _ _ _ _ _ _ _ _ _ _ _ _ _ _ _ _ _ _ _ _ _ _ _ _ _ _ _ _ _ _ _ _ _ HZ ⟨by omega, by omega⟩ K6 K8 z6 HC7 HP7 (fun x34 x35 x36 x37 x38 x39 x40 x41 x42 w' hb hZ => ?_)
      go_wp2_with fail
      exact r_ret HZ.out.2.1 rfl rfl rfl hZ (by rw [hg6]; exact HW.out.trans hb)
end Go.Proofs.YtokiinpegclffaaDoor.merkleRoots
