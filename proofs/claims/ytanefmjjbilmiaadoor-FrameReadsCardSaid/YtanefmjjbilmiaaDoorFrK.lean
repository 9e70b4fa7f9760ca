/-
  The contract of the document's Encode.
-/
import Derived.Test.YtanefmjjbilmiaaDoorFrJ
import Derived.Test.YtanefmjjbilmiaaDoorFrT
import Derived.Test.YtanefmjjbilmiaaDoorWfZ
namespace Go.Proofs.YtanefmjjbilmiaaDoor
open Go.RowKit
set_option linter.unusedVariables false
set_option linter.unusedSimpArgs false
set_option maxRecDepth 100000
def r8R5_ops : Array Oper := #[{ dst := some 13, op := Op.call { callee := Callee.value (Operand.func 59), args := #[Operand.const (Value.int IntKind.i64 4), Operand.const (Value.int IntKind.u64 1413565529)], argTypes := #[3, 60] }, type := 9, pos := "ref.go:50", after := #[], guard := none },
{ dst := some 14, op := Op.fieldAddr 32 (Operand.tmp 1) 0, type := 0, pos := "ref.go:50", after := #[], guard := none },
{ dst := some 15, op := Op.load 9 (Operand.tmp 14), type := 9, pos := "ref.go:50", after := #[{ on := 1, ground := Ground.data }], guard := none },
{ dst := some 16, op := Op.binOp BinOp.add 9 (Operand.tmp 13) (Operand.tmp 15) 9, type := 9, pos := "ref.go:50", after := #[{ on := 0, ground := Ground.data }, { on := 2, ground := Ground.data }], guard := none },
{ dst := some 4, op := Op.assign (Operand.tmp 16), type := 9, pos := "ref.go:50", after := #[{ on := 3, ground := Ground.data }, { on := 0, ground := Ground.chain }, { on := 0, ground := Ground.phase }, { on := 1, ground := Ground.phase }, { on := 2, ground := Ground.phase }, { on := 3, ground := Ground.phase }], guard := none }]
set_option maxRecDepth 100000 in
set_option maxHeartbeats 4000000 in
theorem r8R5_0 (g1 : Nat) (u d sM : ByteArray) (V : World) (t0 t2 t3 t4 t5 t6 t7 t8 t9 t10 t11 t12 t13 t14 t15 t16 t17 t18 t19 t20 t21 t22 t23 t24 t25 t26 t27 t28 t29 t30 t31 t32 t33 t34 t35 : Value) (Q : Exit → Act → World → Prop) (HP : Hid (Bk V g1 32 #[.string u, .string d])) (hz : sM.size ≤ 4 ∧ u.size ≤ 12) (HNM : Hid (∀ W, Below V.heap.size V W → Calls Tryd.prog 59 #[.int .i64 4, .int .u64 1413565529] W fun r w' => r = .returned (.string sM) ∧ Below W.heap.size W w')) (HQ : Hid (∀ (x13 x14 x15 x16 : Value)  (w' : World), Below V.heap.size V w' → Q .normal { tmps := List.toArray (t0 :: .pointer (some ⟨g1, 0, none⟩) :: t2 :: t3 :: .string (sM ++ u) :: t5 :: t6 :: t7 :: t8 :: t9 :: t10 :: t11 :: t12 :: x13 :: x14 :: x15 :: x16 :: t17 :: t18 :: t19 :: t20 :: t21 :: t22 :: t23 :: t24 :: t25 :: t26 :: t27 :: t28 :: t29 :: t30 :: t31 :: t32 :: t33 :: t34 :: t35 :: []), defers := [] } w')) (w : World) (hB : Below V.heap.size V w) :
    wpAnyH Tryd.prog .any r8R5_ops (NoPanic Q) (fun w' => Below V.heap.size V w') 0 #[true, true, true, true, true] { tmps := List.toArray (t0 :: .pointer (some ⟨g1, 0, none⟩) :: t2 :: t3 :: .string (sM ++ u) :: t5 :: t6 :: t7 :: t8 :: t9 :: t10 :: t11 :: t12 :: .string sM :: .pointer (some ⟨g1, 0, none⟩) :: .string u :: .string (sM ++ u) :: t17 :: t18 :: t19 :: t20 :: t21 :: t22 :: t23 :: t24 :: t25 :: t26 :: t27 :: t28 :: t29 :: t30 :: t31 :: t32 :: t33 :: t34 :: t35 :: []), defers := [] } w := by
  refine wpAnyH_done (by kernel_rfl) ?_ _
  refine NoPanic.normal ?_
  have hEnd := HQ.out (.string sM) (.pointer (some ⟨g1, 0, none⟩)) (.string u) (.string (sM ++ u)) w hB
  exact hEnd

set_option maxRecDepth 100000 in
set_option maxHeartbeats 4000000 in
theorem r8R5_o (g1 : Nat) (u d sM : ByteArray) (V : World) (t0 t2 t3 t4 t5 t6 t7 t8 t9 t10 t11 t12 t13 t14 t15 t16 t17 t18 t19 t20 t21 t22 t23 t24 t25 t26 t27 t28 t29 t30 t31 t32 t33 t34 t35 : Value) (Q : Exit → Act → World → Prop) (HP : Hid (Bk V g1 32 #[.string u, .string d])) (hz : sM.size ≤ 4 ∧ u.size ≤ 12) (HNM : Hid (∀ W, Below V.heap.size V W → Calls Tryd.prog 59 #[.int .i64 4, .int .u64 1413565529] W fun r w' => r = .returned (.string sM) ∧ Below W.heap.size W w')) (HQ : Hid (∀ (x13 x14 x15 x16 : Value)  (w' : World), Below V.heap.size V w' → Q .normal { tmps := List.toArray (t0 :: .pointer (some ⟨g1, 0, none⟩) :: t2 :: t3 :: .string (sM ++ u) :: t5 :: t6 :: t7 :: t8 :: t9 :: t10 :: t11 :: t12 :: x13 :: x14 :: x15 :: x16 :: t17 :: t18 :: t19 :: t20 :: t21 :: t22 :: t23 :: t24 :: t25 :: t26 :: t27 :: t28 :: t29 :: t30 :: t31 :: t32 :: t33 :: t34 :: t35 :: []), defers := [] } w')) (w : World) (hB : Below V.heap.size V w) :
    wpAnyH Tryd.prog .any r8R5_ops (NoPanic Q) (fun w' => Below V.heap.size V w') 3 #[false, true, true, false, false] { tmps := List.toArray (t0 :: .pointer (some ⟨g1, 0, none⟩) :: t2 :: t3 :: t4 :: t5 :: t6 :: t7 :: t8 :: t9 :: t10 :: t11 :: t12 :: t13 :: .pointer (some ⟨g1, 0, none⟩) :: .string u :: t16 :: t17 :: t18 :: t19 :: t20 :: t21 :: t22 :: t23 :: t24 :: t25 :: t26 :: t27 :: t28 :: t29 :: t30 :: t31 :: t32 :: t33 :: t34 :: t35 :: []), defers := [] } w := by
  refine wpAnyH_ready (rs := [0]) (by kernel_rfl) (by simp) ?_
  refine AllReadyH.cons rfl (fun K hK => ?_) ?_
  · refine step_callG (by kernel_rfl) _ _ (.string sM) (HNM.out _ hB) (by kernel_rfl) (fun w6 hb6 => ?_)
    simp only [Act.put, List.setIfInBounds_toArray, List.set_cons_zero, List.set_cons_succ]
    have hB2 := (below_step hB hB.size hb6)
    refine hK.out _ _ hB2 (fun _ => ?_)
    show wpAnyH _ _ _ _ _ 2 #[true, true, true, false, false] { tmps := List.toArray (t0 :: .pointer (some ⟨g1, 0, none⟩) :: t2 :: t3 :: t4 :: t5 :: t6 :: t7 :: t8 :: t9 :: t10 :: t11 :: t12 :: .string sM :: .pointer (some ⟨g1, 0, none⟩) :: .string u :: t16 :: t17 :: t18 :: t19 :: t20 :: t21 :: t22 :: t23 :: t24 :: t25 :: t26 :: t27 :: t28 :: t29 :: t30 :: t31 :: t32 :: t33 :: t34 :: t35 :: []), defers := [] } _
    refine wpAnyH_take (i := 3) (oi := { dst := some 16, op := Op.binOp BinOp.add 9 (Operand.tmp 13) (Operand.tmp 15) 9, type := 9, pos := "ref.go:50", after := #[{ on := 0, ground := Ground.data }, { on := 2, ground := Ground.data }], guard := none }) (v := .string (sM ++ u)) rfl (by kernel_rfl) (by kernel_rfl) (by kernel_rfl) (fun _ _ _ h => h) ?_ hB2 ?_
    · (refine Or.inl ⟨by kernel_rfl, ?_⟩; intro w hSw; have h0 := hz.1; have h9 := hz.2; go_simp; omega)
    simp only [Act.put, List.setIfInBounds_toArray, List.set_cons_zero, List.set_cons_succ]
    refine wpAnyH_take (i := 4) (oi := { dst := some 4, op := Op.assign (Operand.tmp 16), type := 9, pos := "ref.go:50", after := #[{ on := 3, ground := Ground.data }, { on := 0, ground := Ground.chain }, { on := 0, ground := Ground.phase }, { on := 1, ground := Ground.phase }, { on := 2, ground := Ground.phase }, { on := 3, ground := Ground.phase }], guard := none }) (v := .string (sM ++ u)) rfl (by kernel_rfl) (by kernel_rfl) (by kernel_rfl) (fun _ _ _ h => h) ?_ hB2 ?_
    · (refine Or.inl ⟨by kernel_rfl, ?_⟩; intro w hSw; go_simp)
    simp only [Act.put, List.setIfInBounds_toArray, List.set_cons_zero, List.set_cons_succ]
    exact r8R5_0 g1 u d sM V t0 t2 t3 t4 t5 t6 t7 t8 t9 t10 t11 t12 t13 t14 t15 t16 t17 t18 t19 t20 t21 t22 t23 t24 t25 t26 t27 t28 t29 t30 t31 t32 t33 t34 t35 Q HP hz HNM HQ _ hB2
  exact AllReadyH.nil

set_option maxRecDepth 100000 in
set_option maxHeartbeats 4000000 in
theorem r8R5 (g1 : Nat) (u d sM : ByteArray) (V : World) (t0 t2 t3 t4 t5 t6 t7 t8 t9 t10 t11 t12 t13 t14 t15 t16 t17 t18 t19 t20 t21 t22 t23 t24 t25 t26 t27 t28 t29 t30 t31 t32 t33 t34 t35 : Value) (Q : Exit → Act → World → Prop) (HP : Hid (Bk V g1 32 #[.string u, .string d])) (hz : sM.size ≤ 4 ∧ u.size ≤ 12) (HNM : Hid (∀ W, Below V.heap.size V W → Calls Tryd.prog 59 #[.int .i64 4, .int .u64 1413565529] W fun r w' => r = .returned (.string sM) ∧ Below W.heap.size W w')) (HQ : Hid (∀ (x13 x14 x15 x16 : Value)  (w' : World), Below V.heap.size V w' → Q .normal { tmps := List.toArray (t0 :: .pointer (some ⟨g1, 0, none⟩) :: t2 :: t3 :: .string (sM ++ u) :: t5 :: t6 :: t7 :: t8 :: t9 :: t10 :: t11 :: t12 :: x13 :: x14 :: x15 :: x16 :: t17 :: t18 :: t19 :: t20 :: t21 :: t22 :: t23 :: t24 :: t25 :: t26 :: t27 :: t28 :: t29 :: t30 :: t31 :: t32 :: t33 :: t34 :: t35 :: []), defers := [] } w')) :
    Code.wp Tryd.prog (Code.region 5 #[{ dst := some 13, op := Op.call { callee := Callee.value (Operand.func 59), args := #[Operand.const (Value.int IntKind.i64 4), Operand.const (Value.int IntKind.u64 1413565529)], argTypes := #[3, 60] }, type := 9, pos := "ref.go:50", after := #[], guard := none },
{ dst := some 14, op := Op.fieldAddr 32 (Operand.tmp 1) 0, type := 0, pos := "ref.go:50", after := #[], guard := none },
{ dst := some 15, op := Op.load 9 (Operand.tmp 14), type := 9, pos := "ref.go:50", after := #[{ on := 1, ground := Ground.data }], guard := none },
{ dst := some 16, op := Op.binOp BinOp.add 9 (Operand.tmp 13) (Operand.tmp 15) 9, type := 9, pos := "ref.go:50", after := #[{ on := 0, ground := Ground.data }, { on := 2, ground := Ground.data }], guard := none },
{ dst := some 4, op := Op.assign (Operand.tmp 16), type := 9, pos := "ref.go:50", after := #[{ on := 3, ground := Ground.data }, { on := 0, ground := Ground.chain }, { on := 0, ground := Ground.phase }, { on := 1, ground := Ground.phase }, { on := 2, ground := Ground.phase }, { on := 3, ground := Ground.phase }], guard := none }] true) Q { tmps := List.toArray (t0 :: .pointer (some ⟨g1, 0, none⟩) :: t2 :: t3 :: t4 :: t5 :: t6 :: t7 :: t8 :: t9 :: t10 :: t11 :: t12 :: t13 :: t14 :: t15 :: t16 :: t17 :: t18 :: t19 :: t20 :: t21 :: t22 :: t23 :: t24 :: t25 :: t26 :: t27 :: t28 :: t29 :: t30 :: t31 :: t32 :: t33 :: t34 :: t35 :: []), defers := [] } V := by
  refine wp_region_noPanic ?_
  refine wp_region_held_drew (S := (fun w' => Below V.heap.size V w')) (by kernel_rfl) ((Below.refl _ _).drew) (fun hHeld => ?_)
  have hB : Below V.heap.size V V.drew := ((Below.refl _ _).drew)
  show wpAnyH _ _ r8R5_ops _ _ 5 _ _ _
  refine wpAnyH_take (i := 1) (oi := { dst := some 14, op := Op.fieldAddr 32 (Operand.tmp 1) 0, type := 0, pos := "ref.go:50", after := #[], guard := none }) (v := .pointer (some ⟨g1, 0, none⟩)) rfl (by kernel_rfl) (by kernel_rfl) (by kernel_rfl) (fun _ _ _ h => h) ?_ hB ?_
  · (refine Or.inl ⟨by kernel_rfl, ?_⟩; intro w hSw; go_simp)
  simp only [Act.put, List.setIfInBounds_toArray, List.set_cons_zero, List.set_cons_succ]
  refine wpAnyH_take (i := 2) (oi := { dst := some 15, op := Op.load 9 (Operand.tmp 14), type := 9, pos := "ref.go:50", after := #[{ on := 1, ground := Ground.data }], guard := none }) (v := .string u) rfl (by kernel_rfl) (by kernel_rfl) (by kernel_rfl) (fun _ _ _ h => h) ?_ hB ?_
  · (refine Or.inl ⟨by kernel_rfl, ?_⟩; intro w hSw; have h1 := (Bk.below HP.out hSw HP.out.lt).cell 0; have h3 := (Bk.below HP.out hSw HP.out.lt).cell 1; have h2 := (Bk.below HP.out hSw HP.out.lt).lt; go_simp)
  simp only [Act.put, List.setIfInBounds_toArray, List.set_cons_zero, List.set_cons_succ]
  exact r8R5_o g1 u d sM V t0 t2 t3 t4 t5 t6 t7 t8 t9 t10 t11 t12 t13 t14 t15 t16 t17 t18 t19 t20 t21 t22 t23 t24 t25 t26 t27 t28 t29 t30 t31 t32 t33 t34 t35 Q HP hz HNM HQ _ hB
def r8R8_ops : Array Oper := #[{ dst := some 22, op := Op.move (Operand.tmp 4), type := 9, pos := "ref.go:54", after := #[], guard := none },
{ dst := some 23, op := Op.fieldAddr 32 (Operand.tmp 1) 1, type := 0, pos := "ref.go:54", after := #[], guard := none },
{ dst := some 24, op := Op.load 9 (Operand.tmp 23), type := 9, pos := "ref.go:54", after := #[{ on := 1, ground := Ground.data }], guard := none },
{ dst := some 25, op := Op.call { callee := Callee.builtin Builtin.len, args := #[Operand.tmp 24], argTypes := #[9] }, type := 3, pos := "ref.go:54", after := #[{ on := 2, ground := Ground.data }], guard := none },
{ dst := some 26, op := Op.convert 3 60 (Operand.tmp 25), type := 60, pos := "ref.go:54", after := #[{ on := 3, ground := Ground.data }], guard := none },
{ dst := some 27, op := Op.call { callee := Callee.value (Operand.func 59), args := #[Operand.const (Value.int IntKind.i64 4), Operand.tmp 26], argTypes := #[3, 60] }, type := 9, pos := "ref.go:54", after := #[{ on := 4, ground := Ground.data }], guard := none },
{ dst := some 28, op := Op.binOp BinOp.add 9 (Operand.tmp 22) (Operand.tmp 27) 9, type := 9, pos := "ref.go:54", after := #[{ on := 0, ground := Ground.data }, { on := 5, ground := Ground.data }], guard := none },
{ dst := some 29, op := Op.fieldAddr 32 (Operand.tmp 1) 1, type := 0, pos := "ref.go:54", after := #[], guard := none },
{ dst := some 30, op := Op.load 9 (Operand.tmp 29), type := 9, pos := "ref.go:54", after := #[{ on := 7, ground := Ground.data }], guard := none },
{ dst := some 31, op := Op.call { callee := Callee.value (Operand.func 60), args := #[Operand.tmp 30], argTypes := #[9] }, type := 9, pos := "ref.go:54", after := #[{ on := 8, ground := Ground.data }, { on := 5, ground := Ground.chain }], guard := none },
{ dst := some 32, op := Op.binOp BinOp.add 9 (Operand.tmp 28) (Operand.tmp 31) 9, type := 9, pos := "ref.go:54", after := #[{ on := 6, ground := Ground.data }, { on := 9, ground := Ground.data }], guard := none },
{ dst := some 33, op := Op.fieldAddr 32 (Operand.tmp 1) 1, type := 0, pos := "ref.go:54", after := #[], guard := none },
{ dst := some 34, op := Op.load 9 (Operand.tmp 33), type := 9, pos := "ref.go:54", after := #[{ on := 11, ground := Ground.data }], guard := none },
{ dst := some 35, op := Op.binOp BinOp.add 9 (Operand.tmp 32) (Operand.tmp 34) 9, type := 9, pos := "ref.go:54", after := #[{ on := 10, ground := Ground.data }, { on := 12, ground := Ground.data }], guard := none },
{ dst := some 2, op := Op.assign (Operand.tmp 35), type := 9, pos := "ref.go:54", after := #[{ on := 13, ground := Ground.data }, { on := 9, ground := Ground.chain }, { on := 0, ground := Ground.phase }, { on := 1, ground := Ground.phase }, { on := 2, ground := Ground.phase }, { on := 3, ground := Ground.phase }, { on := 4, ground := Ground.phase }, { on := 5, ground := Ground.phase }, { on := 6, ground := Ground.phase }, { on := 7, ground := Ground.phase }, { on := 8, ground := Ground.phase }, { on := 9, ground := Ground.phase }, { on := 10, ground := Ground.phase }, { on := 11, ground := Ground.phase }, { on := 12, ground := Ground.phase }, { on := 13, ground := Ground.phase }], guard := none },
{ dst := some 3, op := Op.assign (Operand.const (Value.int IntKind.i64 0)), type := 3, pos := "ref.go:54", after := #[{ on := 14, ground := Ground.chain }, { on := 0, ground := Ground.phase }, { on := 1, ground := Ground.phase }, { on := 2, ground := Ground.phase }, { on := 3, ground := Ground.phase }, { on := 4, ground := Ground.phase }, { on := 5, ground := Ground.phase }, { on := 6, ground := Ground.phase }, { on := 7, ground := Ground.phase }, { on := 8, ground := Ground.phase }, { on := 9, ground := Ground.phase }, { on := 10, ground := Ground.phase }, { on := 11, ground := Ground.phase }, { on := 12, ground := Ground.phase }, { on := 13, ground := Ground.phase }, { on := 14, ground := Ground.phase }], guard := none }]
set_option maxRecDepth 100000 in
set_option maxHeartbeats 4000000 in
theorem r8R8_5_9 (g1 n : Nat) (u d sH sN sS : ByteArray) (V : World) (t0 t2 t3 t5 t6 t7 t8 t9 t10 t11 t12 t13 t14 t15 t16 t17 t18 t19 t20 t21 t22 t23 t24 t25 t26 t27 t28 t29 t30 t31 t32 t33 t34 t35 : Value) (Q : Exit → Act → World → Prop) (HP : Hid (Bk V g1 32 #[.string u, .string d])) (hz1 : sH.size ≤ 16) (hz2 : sN.size ≤ 4) (hz3 : sS.size ≤ 4) (hz4 : d.size ≤ 100000) (hdn : d.size = n) (hnw : IntKind.u64.wrap (n : Int) = (n : Int)) (HNM : Hid (∀ W, Below V.heap.size V W → Calls Tryd.prog 59 #[.int .i64 4, .int .u64 (n : Int)] W fun r w' => r = .returned (.string sN) ∧ Below W.heap.size W w')) (HSM : Hid (∀ W, Below V.heap.size V W → Calls Tryd.prog 60 #[.string d] W fun r w' => r = .returned (.string sS) ∧ Below W.heap.size W w')) (HQ : Hid (∀ (x22 x23 x24 x25 x26 x27 x28 x29 x30 x31 x32 x33 x34 x35 : Value)  (w' : World), Below V.heap.size V w' → Q .normal { tmps := List.toArray (t0 :: .pointer (some ⟨g1, 0, none⟩) :: .string (((sH ++ sN) ++ sS) ++ d) :: .int .i64 0 :: .string sH :: t5 :: t6 :: t7 :: t8 :: t9 :: t10 :: t11 :: t12 :: t13 :: t14 :: t15 :: t16 :: t17 :: t18 :: t19 :: t20 :: t21 :: x22 :: x23 :: x24 :: x25 :: x26 :: x27 :: x28 :: x29 :: x30 :: x31 :: x32 :: x33 :: x34 :: x35 :: []), defers := [] } w')) (w : World) (hB : Below V.heap.size V w) :
    wpAnyH Tryd.prog .any r8R8_ops (NoPanic Q) (fun w' => Below V.heap.size V w') 0 #[true, true, true, true, true, true, true, true, true, true, true, true, true, true, true, true] { tmps := List.toArray (t0 :: .pointer (some ⟨g1, 0, none⟩) :: .string (((sH ++ sN) ++ sS) ++ d) :: .int .i64 0 :: .string sH :: t5 :: t6 :: t7 :: t8 :: t9 :: t10 :: t11 :: t12 :: t13 :: t14 :: t15 :: t16 :: t17 :: t18 :: t19 :: t20 :: t21 :: .string sH :: .pointer (some ⟨g1, 1, none⟩) :: .string d :: .int .i64 (n : Int) :: .int .u64 (n : Int) :: .string sN :: .string (sH ++ sN) :: .pointer (some ⟨g1, 1, none⟩) :: .string d :: .string sS :: .string ((sH ++ sN) ++ sS) :: .pointer (some ⟨g1, 1, none⟩) :: .string d :: .string (((sH ++ sN) ++ sS) ++ d) :: []), defers := [] } w := by
  refine wpAnyH_done (by kernel_rfl) ?_ _
  refine NoPanic.normal ?_
  have hEnd := HQ.out (.string sH) (.pointer (some ⟨g1, 1, none⟩)) (.string d) (.int .i64 (n : Int)) (.int .u64 (n : Int)) (.string sN) (.string (sH ++ sN)) (.pointer (some ⟨g1, 1, none⟩)) (.string d) (.string sS) (.string ((sH ++ sN) ++ sS)) (.pointer (some ⟨g1, 1, none⟩)) (.string d) (.string (((sH ++ sN) ++ sS) ++ d)) w hB
  exact hEnd

set_option maxRecDepth 100000 in
set_option maxHeartbeats 4000000 in
theorem r8R8_5 (g1 n : Nat) (u d sH sN sS : ByteArray) (V : World) (t0 t2 t3 t5 t6 t7 t8 t9 t10 t11 t12 t13 t14 t15 t16 t17 t18 t19 t20 t21 t22 t23 t24 t25 t26 t27 t28 t29 t30 t31 t32 t33 t34 t35 : Value) (Q : Exit → Act → World → Prop) (HP : Hid (Bk V g1 32 #[.string u, .string d])) (hz1 : sH.size ≤ 16) (hz2 : sN.size ≤ 4) (hz3 : sS.size ≤ 4) (hz4 : d.size ≤ 100000) (hdn : d.size = n) (hnw : IntKind.u64.wrap (n : Int) = (n : Int)) (HNM : Hid (∀ W, Below V.heap.size V W → Calls Tryd.prog 59 #[.int .i64 4, .int .u64 (n : Int)] W fun r w' => r = .returned (.string sN) ∧ Below W.heap.size W w')) (HSM : Hid (∀ W, Below V.heap.size V W → Calls Tryd.prog 60 #[.string d] W fun r w' => r = .returned (.string sS) ∧ Below W.heap.size W w')) (HQ : Hid (∀ (x22 x23 x24 x25 x26 x27 x28 x29 x30 x31 x32 x33 x34 x35 : Value)  (w' : World), Below V.heap.size V w' → Q .normal { tmps := List.toArray (t0 :: .pointer (some ⟨g1, 0, none⟩) :: .string (((sH ++ sN) ++ sS) ++ d) :: .int .i64 0 :: .string sH :: t5 :: t6 :: t7 :: t8 :: t9 :: t10 :: t11 :: t12 :: t13 :: t14 :: t15 :: t16 :: t17 :: t18 :: t19 :: t20 :: t21 :: x22 :: x23 :: x24 :: x25 :: x26 :: x27 :: x28 :: x29 :: x30 :: x31 :: x32 :: x33 :: x34 :: x35 :: []), defers := [] } w')) (w : World) (hB : Below V.heap.size V w) :
    wpAnyH Tryd.prog .any r8R8_ops (NoPanic Q) (fun w' => Below V.heap.size V w') 5 #[true, true, true, true, true, true, true, true, true, false, false, true, true, false, false, false] { tmps := List.toArray (t0 :: .pointer (some ⟨g1, 0, none⟩) :: t2 :: t3 :: .string sH :: t5 :: t6 :: t7 :: t8 :: t9 :: t10 :: t11 :: t12 :: t13 :: t14 :: t15 :: t16 :: t17 :: t18 :: t19 :: t20 :: t21 :: .string sH :: .pointer (some ⟨g1, 1, none⟩) :: .string d :: .int .i64 (n : Int) :: .int .u64 (n : Int) :: .string sN :: .string (sH ++ sN) :: .pointer (some ⟨g1, 1, none⟩) :: .string d :: t31 :: t32 :: .pointer (some ⟨g1, 1, none⟩) :: .string d :: t35 :: []), defers := [] } w := by
  refine wpAnyH_ready (rs := [9]) (by kernel_rfl) (by simp) ?_
  refine AllReadyH.cons rfl (fun K hK => ?_) ?_
  · refine step_callG (by kernel_rfl) _ _ (.string sS) (HSM.out _ hB) (by kernel_rfl) (fun w6 hb6 => ?_)
    simp only [Act.put, List.setIfInBounds_toArray, List.set_cons_zero, List.set_cons_succ]
    have hB2 := (below_step hB hB.size hb6)
    refine hK.out _ _ hB2 (fun _ => ?_)
    show wpAnyH _ _ _ _ _ 4 #[true, true, true, true, true, true, true, true, true, true, false, true, true, false, false, false] { tmps := List.toArray (t0 :: .pointer (some ⟨g1, 0, none⟩) :: t2 :: t3 :: .string sH :: t5 :: t6 :: t7 :: t8 :: t9 :: t10 :: t11 :: t12 :: t13 :: t14 :: t15 :: t16 :: t17 :: t18 :: t19 :: t20 :: t21 :: .string sH :: .pointer (some ⟨g1, 1, none⟩) :: .string d :: .int .i64 (n : Int) :: .int .u64 (n : Int) :: .string sN :: .string (sH ++ sN) :: .pointer (some ⟨g1, 1, none⟩) :: .string d :: .string sS :: t32 :: .pointer (some ⟨g1, 1, none⟩) :: .string d :: t35 :: []), defers := [] } _
    refine wpAnyH_take (i := 10) (oi := { dst := some 32, op := Op.binOp BinOp.add 9 (Operand.tmp 28) (Operand.tmp 31) 9, type := 9, pos := "ref.go:54", after := #[{ on := 6, ground := Ground.data }, { on := 9, ground := Ground.data }], guard := none }) (v := .string ((sH ++ sN) ++ sS)) rfl (by kernel_rfl) (by kernel_rfl) (by kernel_rfl) (fun _ _ _ h => h) ?_ hB2 ?_
    · (refine Or.inl ⟨by kernel_rfl, ?_⟩; intro w hSw; have h0 := hz1; have h9 := hz2; have h8 := hz3; have h7 := hz4; go_simp; omega)
    simp only [Act.put, List.setIfInBounds_toArray, List.set_cons_zero, List.set_cons_succ]
    refine wpAnyH_take (i := 13) (oi := { dst := some 35, op := Op.binOp BinOp.add 9 (Operand.tmp 32) (Operand.tmp 34) 9, type := 9, pos := "ref.go:54", after := #[{ on := 10, ground := Ground.data }, { on := 12, ground := Ground.data }], guard := none }) (v := .string (((sH ++ sN) ++ sS) ++ d)) rfl (by kernel_rfl) (by kernel_rfl) (by kernel_rfl) (fun _ _ _ h => h) ?_ hB2 ?_
    · (refine Or.inl ⟨by kernel_rfl, ?_⟩; intro w hSw; have h0 := hz1; have h9 := hz2; have h8 := hz3; have h7 := hz4; go_simp; omega)
    simp only [Act.put, List.setIfInBounds_toArray, List.set_cons_zero, List.set_cons_succ]
    refine wpAnyH_take (i := 14) (oi := { dst := some 2, op := Op.assign (Operand.tmp 35), type := 9, pos := "ref.go:54", after := #[{ on := 13, ground := Ground.data }, { on := 9, ground := Ground.chain }, { on := 0, ground := Ground.phase }, { on := 1, ground := Ground.phase }, { on := 2, ground := Ground.phase }, { on := 3, ground := Ground.phase }, { on := 4, ground := Ground.phase }, { on := 5, ground := Ground.phase }, { on := 6, ground := Ground.phase }, { on := 7, ground := Ground.phase }, { on := 8, ground := Ground.phase }, { on := 9, ground := Ground.phase }, { on := 10, ground := Ground.phase }, { on := 11, ground := Ground.phase }, { on := 12, ground := Ground.phase }, { on := 13, ground := Ground.phase }], guard := none }) (v := .string (((sH ++ sN) ++ sS) ++ d)) rfl (by kernel_rfl) (by kernel_rfl) (by kernel_rfl) (fun _ _ _ h => h) ?_ hB2 ?_
    · (refine Or.inl ⟨by kernel_rfl, ?_⟩; intro w hSw; go_simp)
    simp only [Act.put, List.setIfInBounds_toArray, List.set_cons_zero, List.set_cons_succ]
    refine wpAnyH_take (i := 15) (oi := { dst := some 3, op := Op.assign (Operand.const (Value.int IntKind.i64 0)), type := 3, pos := "ref.go:54", after := #[{ on := 14, ground := Ground.chain }, { on := 0, ground := Ground.phase }, { on := 1, ground := Ground.phase }, { on := 2, ground := Ground.phase }, { on := 3, ground := Ground.phase }, { on := 4, ground := Ground.phase }, { on := 5, ground := Ground.phase }, { on := 6, ground := Ground.phase }, { on := 7, ground := Ground.phase }, { on := 8, ground := Ground.phase }, { on := 9, ground := Ground.phase }, { on := 10, ground := Ground.phase }, { on := 11, ground := Ground.phase }, { on := 12, ground := Ground.phase }, { on := 13, ground := Ground.phase }, { on := 14, ground := Ground.phase }], guard := none }) (v := .int .i64 0) rfl (by kernel_rfl) (by kernel_rfl) (by kernel_rfl) (fun _ _ _ h => h) ?_ hB2 ?_
    · (refine Or.inl ⟨by kernel_rfl, ?_⟩; intro w hSw; go_simp)
    simp only [Act.put, List.setIfInBounds_toArray, List.set_cons_zero, List.set_cons_succ]
    exact r8R8_5_9 g1 n u d sH sN sS V t0 t2 t3 t5 t6 t7 t8 t9 t10 t11 t12 t13 t14 t15 t16 t17 t18 t19 t20 t21 t22 t23 t24 t25 t26 t27 t28 t29 t30 t31 t32 t33 t34 t35 Q HP hz1 hz2 hz3 hz4 hdn hnw HNM HSM HQ _ hB2
  exact AllReadyH.nil

set_option maxRecDepth 100000 in
set_option maxHeartbeats 4000000 in
theorem r8R8_o (g1 n : Nat) (u d sH sN sS : ByteArray) (V : World) (t0 t2 t3 t5 t6 t7 t8 t9 t10 t11 t12 t13 t14 t15 t16 t17 t18 t19 t20 t21 t22 t23 t24 t25 t26 t27 t28 t29 t30 t31 t32 t33 t34 t35 : Value) (Q : Exit → Act → World → Prop) (HP : Hid (Bk V g1 32 #[.string u, .string d])) (hz1 : sH.size ≤ 16) (hz2 : sN.size ≤ 4) (hz3 : sS.size ≤ 4) (hz4 : d.size ≤ 100000) (hdn : d.size = n) (hnw : IntKind.u64.wrap (n : Int) = (n : Int)) (HNM : Hid (∀ W, Below V.heap.size V W → Calls Tryd.prog 59 #[.int .i64 4, .int .u64 (n : Int)] W fun r w' => r = .returned (.string sN) ∧ Below W.heap.size W w')) (HSM : Hid (∀ W, Below V.heap.size V W → Calls Tryd.prog 60 #[.string d] W fun r w' => r = .returned (.string sS) ∧ Below W.heap.size W w')) (HQ : Hid (∀ (x22 x23 x24 x25 x26 x27 x28 x29 x30 x31 x32 x33 x34 x35 : Value)  (w' : World), Below V.heap.size V w' → Q .normal { tmps := List.toArray (t0 :: .pointer (some ⟨g1, 0, none⟩) :: .string (((sH ++ sN) ++ sS) ++ d) :: .int .i64 0 :: .string sH :: t5 :: t6 :: t7 :: t8 :: t9 :: t10 :: t11 :: t12 :: t13 :: t14 :: t15 :: t16 :: t17 :: t18 :: t19 :: t20 :: t21 :: x22 :: x23 :: x24 :: x25 :: x26 :: x27 :: x28 :: x29 :: x30 :: x31 :: x32 :: x33 :: x34 :: x35 :: []), defers := [] } w')) (w : World) (hB : Below V.heap.size V w) :
    wpAnyH Tryd.prog .any r8R8_ops (NoPanic Q) (fun w' => Below V.heap.size V w') 7 #[true, true, true, true, true, false, false, true, true, false, false, true, true, false, false, false] { tmps := List.toArray (t0 :: .pointer (some ⟨g1, 0, none⟩) :: t2 :: t3 :: .string sH :: t5 :: t6 :: t7 :: t8 :: t9 :: t10 :: t11 :: t12 :: t13 :: t14 :: t15 :: t16 :: t17 :: t18 :: t19 :: t20 :: t21 :: .string sH :: .pointer (some ⟨g1, 1, none⟩) :: .string d :: .int .i64 (n : Int) :: .int .u64 (n : Int) :: t27 :: t28 :: .pointer (some ⟨g1, 1, none⟩) :: .string d :: t31 :: t32 :: .pointer (some ⟨g1, 1, none⟩) :: .string d :: t35 :: []), defers := [] } w := by
  refine wpAnyH_ready (rs := [5]) (by kernel_rfl) (by simp) ?_
  refine AllReadyH.cons rfl (fun K hK => ?_) ?_
  · refine step_callG (by kernel_rfl) _ _ (.string sN) (HNM.out _ hB) (by kernel_rfl) (fun w6 hb6 => ?_)
    simp only [Act.put, List.setIfInBounds_toArray, List.set_cons_zero, List.set_cons_succ]
    have hB2 := (below_step hB hB.size hb6)
    refine hK.out _ _ hB2 (fun _ => ?_)
    show wpAnyH _ _ _ _ _ 6 #[true, true, true, true, true, true, false, true, true, false, false, true, true, false, false, false] { tmps := List.toArray (t0 :: .pointer (some ⟨g1, 0, none⟩) :: t2 :: t3 :: .string sH :: t5 :: t6 :: t7 :: t8 :: t9 :: t10 :: t11 :: t12 :: t13 :: t14 :: t15 :: t16 :: t17 :: t18 :: t19 :: t20 :: t21 :: .string sH :: .pointer (some ⟨g1, 1, none⟩) :: .string d :: .int .i64 (n : Int) :: .int .u64 (n : Int) :: .string sN :: t28 :: .pointer (some ⟨g1, 1, none⟩) :: .string d :: t31 :: t32 :: .pointer (some ⟨g1, 1, none⟩) :: .string d :: t35 :: []), defers := [] } _
    refine wpAnyH_take (i := 6) (oi := { dst := some 28, op := Op.binOp BinOp.add 9 (Operand.tmp 22) (Operand.tmp 27) 9, type := 9, pos := "ref.go:54", after := #[{ on := 0, ground := Ground.data }, { on := 5, ground := Ground.data }], guard := none }) (v := .string (sH ++ sN)) rfl (by kernel_rfl) (by kernel_rfl) (by kernel_rfl) (fun _ _ _ h => h) ?_ hB2 ?_
    · (refine Or.inl ⟨by kernel_rfl, ?_⟩; intro w hSw; have h0 := hz1; have h9 := hz2; have h8 := hz3; have h7 := hz4; go_simp; omega)
    simp only [Act.put, List.setIfInBounds_toArray, List.set_cons_zero, List.set_cons_succ]
    exact r8R8_5 g1 n u d sH sN sS V t0 t2 t3 t5 t6 t7 t8 t9 t10 t11 t12 t13 t14 t15 t16 t17 t18 t19 t20 t21 t22 t23 t24 t25 t26 t27 t28 t29 t30 t31 t32 t33 t34 t35 Q HP hz1 hz2 hz3 hz4 hdn hnw HNM HSM HQ _ hB2
  exact AllReadyH.nil

set_option maxRecDepth 100000 in
set_option maxHeartbeats 4000000 in
theorem r8R8 (g1 n : Nat) (u d sH sN sS : ByteArray) (V : World) (t0 t2 t3 t5 t6 t7 t8 t9 t10 t11 t12 t13 t14 t15 t16 t17 t18 t19 t20 t21 t22 t23 t24 t25 t26 t27 t28 t29 t30 t31 t32 t33 t34 t35 : Value) (Q : Exit → Act → World → Prop) (HP : Hid (Bk V g1 32 #[.string u, .string d])) (hz1 : sH.size ≤ 16) (hz2 : sN.size ≤ 4) (hz3 : sS.size ≤ 4) (hz4 : d.size ≤ 100000) (hdn : d.size = n) (hnw : IntKind.u64.wrap (n : Int) = (n : Int)) (HNM : Hid (∀ W, Below V.heap.size V W → Calls Tryd.prog 59 #[.int .i64 4, .int .u64 (n : Int)] W fun r w' => r = .returned (.string sN) ∧ Below W.heap.size W w')) (HSM : Hid (∀ W, Below V.heap.size V W → Calls Tryd.prog 60 #[.string d] W fun r w' => r = .returned (.string sS) ∧ Below W.heap.size W w')) (HQ : Hid (∀ (x22 x23 x24 x25 x26 x27 x28 x29 x30 x31 x32 x33 x34 x35 : Value)  (w' : World), Below V.heap.size V w' → Q .normal { tmps := List.toArray (t0 :: .pointer (some ⟨g1, 0, none⟩) :: .string (((sH ++ sN) ++ sS) ++ d) :: .int .i64 0 :: .string sH :: t5 :: t6 :: t7 :: t8 :: t9 :: t10 :: t11 :: t12 :: t13 :: t14 :: t15 :: t16 :: t17 :: t18 :: t19 :: t20 :: t21 :: x22 :: x23 :: x24 :: x25 :: x26 :: x27 :: x28 :: x29 :: x30 :: x31 :: x32 :: x33 :: x34 :: x35 :: []), defers := [] } w')) :
    Code.wp Tryd.prog (Code.region 8 #[{ dst := some 22, op := Op.move (Operand.tmp 4), type := 9, pos := "ref.go:54", after := #[], guard := none },
{ dst := some 23, op := Op.fieldAddr 32 (Operand.tmp 1) 1, type := 0, pos := "ref.go:54", after := #[], guard := none },
{ dst := some 24, op := Op.load 9 (Operand.tmp 23), type := 9, pos := "ref.go:54", after := #[{ on := 1, ground := Ground.data }], guard := none },
{ dst := some 25, op := Op.call { callee := Callee.builtin Builtin.len, args := #[Operand.tmp 24], argTypes := #[9] }, type := 3, pos := "ref.go:54", after := #[{ on := 2, ground := Ground.data }], guard := none },
{ dst := some 26, op := Op.convert 3 60 (Operand.tmp 25), type := 60, pos := "ref.go:54", after := #[{ on := 3, ground := Ground.data }], guard := none },
{ dst := some 27, op := Op.call { callee := Callee.value (Operand.func 59), args := #[Operand.const (Value.int IntKind.i64 4), Operand.tmp 26], argTypes := #[3, 60] }, type := 9, pos := "ref.go:54", after := #[{ on := 4, ground := Ground.data }], guard := none },
{ dst := some 28, op := Op.binOp BinOp.add 9 (Operand.tmp 22) (Operand.tmp 27) 9, type := 9, pos := "ref.go:54", after := #[{ on := 0, ground := Ground.data }, { on := 5, ground := Ground.data }], guard := none },
{ dst := some 29, op := Op.fieldAddr 32 (Operand.tmp 1) 1, type := 0, pos := "ref.go:54", after := #[], guard := none },
{ dst := some 30, op := Op.load 9 (Operand.tmp 29), type := 9, pos := "ref.go:54", after := #[{ on := 7, ground := Ground.data }], guard := none },
{ dst := some 31, op := Op.call { callee := Callee.value (Operand.func 60), args := #[Operand.tmp 30], argTypes := #[9] }, type := 9, pos := "ref.go:54", after := #[{ on := 8, ground := Ground.data }, { on := 5, ground := Ground.chain }], guard := none },
{ dst := some 32, op := Op.binOp BinOp.add 9 (Operand.tmp 28) (Operand.tmp 31) 9, type := 9, pos := "ref.go:54", after := #[{ on := 6, ground := Ground.data }, { on := 9, ground := Ground.data }], guard := none },
{ dst := some 33, op := Op.fieldAddr 32 (Operand.tmp 1) 1, type := 0, pos := "ref.go:54", after := #[], guard := none },
{ dst := some 34, op := Op.load 9 (Operand.tmp 33), type := 9, pos := "ref.go:54", after := #[{ on := 11, ground := Ground.data }], guard := none },
{ dst := some 35, op := Op.binOp BinOp.add 9 (Operand.tmp 32) (Operand.tmp 34) 9, type := 9, pos := "ref.go:54", after := #[{ on := 10, ground := Ground.data }, { on := 12, ground := Ground.data }], guard := none },
{ dst := some 2, op := Op.assign (Operand.tmp 35), type := 9, pos := "ref.go:54", after := #[{ on := 13, ground := Ground.data }, { on := 9, ground := Ground.chain }, { on := 0, ground := Ground.phase }, { on := 1, ground := Ground.phase }, { on := 2, ground := Ground.phase }, { on := 3, ground := Ground.phase }, { on := 4, ground := Ground.phase }, { on := 5, ground := Ground.phase }, { on := 6, ground := Ground.phase }, { on := 7, ground := Ground.phase }, { on := 8, ground := Ground.phase }, { on := 9, ground := Ground.phase }, { on := 10, ground := Ground.phase }, { on := 11, ground := Ground.phase }, { on := 12, ground := Ground.phase }, { on := 13, ground := Ground.phase }], guard := none },
{ dst := some 3, op := Op.assign (Operand.const (Value.int IntKind.i64 0)), type := 3, pos := "ref.go:54", after := #[{ on := 14, ground := Ground.chain }, { on := 0, ground := Ground.phase }, { on := 1, ground := Ground.phase }, { on := 2, ground := Ground.phase }, { on := 3, ground := Ground.phase }, { on := 4, ground := Ground.phase }, { on := 5, ground := Ground.phase }, { on := 6, ground := Ground.phase }, { on := 7, ground := Ground.phase }, { on := 8, ground := Ground.phase }, { on := 9, ground := Ground.phase }, { on := 10, ground := Ground.phase }, { on := 11, ground := Ground.phase }, { on := 12, ground := Ground.phase }, { on := 13, ground := Ground.phase }, { on := 14, ground := Ground.phase }], guard := none }] true) Q { tmps := List.toArray (t0 :: .pointer (some ⟨g1, 0, none⟩) :: t2 :: t3 :: .string sH :: t5 :: t6 :: t7 :: t8 :: t9 :: t10 :: t11 :: t12 :: t13 :: t14 :: t15 :: t16 :: t17 :: t18 :: t19 :: t20 :: t21 :: t22 :: t23 :: t24 :: t25 :: t26 :: t27 :: t28 :: t29 :: t30 :: t31 :: t32 :: t33 :: t34 :: t35 :: []), defers := [] } V := by
  refine wp_region_noPanic ?_
  refine wp_region_held_drew (S := (fun w' => Below V.heap.size V w')) (by kernel_rfl) ((Below.refl _ _).drew) (fun hHeld => ?_)
  have hB : Below V.heap.size V V.drew := ((Below.refl _ _).drew)
  show wpAnyH _ _ r8R8_ops _ _ 16 _ _ _
  refine wpAnyH_take (i := 0) (oi := { dst := some 22, op := Op.move (Operand.tmp 4), type := 9, pos := "ref.go:54", after := #[], guard := none }) (v := .string sH) rfl (by kernel_rfl) (by kernel_rfl) (by kernel_rfl) (fun _ _ _ h => h) ?_ hB ?_
  · (refine Or.inl ⟨by kernel_rfl, ?_⟩; intro w hSw; go_simp)
  simp only [Act.put, List.setIfInBounds_toArray, List.set_cons_zero, List.set_cons_succ]
  refine wpAnyH_take (i := 1) (oi := { dst := some 23, op := Op.fieldAddr 32 (Operand.tmp 1) 1, type := 0, pos := "ref.go:54", after := #[], guard := none }) (v := .pointer (some ⟨g1, 1, none⟩)) rfl (by kernel_rfl) (by kernel_rfl) (by kernel_rfl) (fun _ _ _ h => h) ?_ hB ?_
  · (refine Or.inl ⟨by kernel_rfl, ?_⟩; intro w hSw; go_simp)
  simp only [Act.put, List.setIfInBounds_toArray, List.set_cons_zero, List.set_cons_succ]
  refine wpAnyH_take (i := 2) (oi := { dst := some 24, op := Op.load 9 (Operand.tmp 23), type := 9, pos := "ref.go:54", after := #[{ on := 1, ground := Ground.data }], guard := none }) (v := .string d) rfl (by kernel_rfl) (by kernel_rfl) (by kernel_rfl) (fun _ _ _ h => h) ?_ hB ?_
  · (refine Or.inl ⟨by kernel_rfl, ?_⟩; intro w hSw; have h1 := (Bk.below HP.out hSw HP.out.lt).cell 0; have h3 := (Bk.below HP.out hSw HP.out.lt).cell 1; have h2 := (Bk.below HP.out hSw HP.out.lt).lt; go_simp)
  simp only [Act.put, List.setIfInBounds_toArray, List.set_cons_zero, List.set_cons_succ]
  refine wpAnyH_take (i := 3) (oi := { dst := some 25, op := Op.call { callee := Callee.builtin Builtin.len, args := #[Operand.tmp 24], argTypes := #[9] }, type := 3, pos := "ref.go:54", after := #[{ on := 2, ground := Ground.data }], guard := none }) (v := .int .i64 (n : Int)) rfl (by kernel_rfl) (by kernel_rfl) (by kernel_rfl) (fun _ _ _ h => h) ?_ hB ?_
  · (refine Or.inl ⟨by kernel_rfl, ?_⟩; intro w hSw; have h0 := hdn; go_simp)
  simp only [Act.put, List.setIfInBounds_toArray, List.set_cons_zero, List.set_cons_succ]
  refine wpAnyH_take (i := 4) (oi := { dst := some 26, op := Op.convert 3 60 (Operand.tmp 25), type := 60, pos := "ref.go:54", after := #[{ on := 3, ground := Ground.data }], guard := none }) (v := .int .u64 (n : Int)) rfl (by kernel_rfl) (by kernel_rfl) (by kernel_rfl) (fun _ _ _ h => h) ?_ hB ?_
  · (refine Or.inl ⟨by kernel_rfl, ?_⟩; intro w hSw; have h0 := hnw; go_simp)
  simp only [Act.put, List.setIfInBounds_toArray, List.set_cons_zero, List.set_cons_succ]
  refine wpAnyH_take (i := 7) (oi := { dst := some 29, op := Op.fieldAddr 32 (Operand.tmp 1) 1, type := 0, pos := "ref.go:54", after := #[], guard := none }) (v := .pointer (some ⟨g1, 1, none⟩)) rfl (by kernel_rfl) (by kernel_rfl) (by kernel_rfl) (fun _ _ _ h => h) ?_ hB ?_
  · (refine Or.inl ⟨by kernel_rfl, ?_⟩; intro w hSw; go_simp)
  simp only [Act.put, List.setIfInBounds_toArray, List.set_cons_zero, List.set_cons_succ]
  refine wpAnyH_take (i := 8) (oi := { dst := some 30, op := Op.load 9 (Operand.tmp 29), type := 9, pos := "ref.go:54", after := #[{ on := 7, ground := Ground.data }], guard := none }) (v := .string d) rfl (by kernel_rfl) (by kernel_rfl) (by kernel_rfl) (fun _ _ _ h => h) ?_ hB ?_
  · (refine Or.inl ⟨by kernel_rfl, ?_⟩; intro w hSw; have h1 := (Bk.below HP.out hSw HP.out.lt).cell 0; have h3 := (Bk.below HP.out hSw HP.out.lt).cell 1; have h2 := (Bk.below HP.out hSw HP.out.lt).lt; go_simp)
  simp only [Act.put, List.setIfInBounds_toArray, List.set_cons_zero, List.set_cons_succ]
  refine wpAnyH_take (i := 11) (oi := { dst := some 33, op := Op.fieldAddr 32 (Operand.tmp 1) 1, type := 0, pos := "ref.go:54", after := #[], guard := none }) (v := .pointer (some ⟨g1, 1, none⟩)) rfl (by kernel_rfl) (by kernel_rfl) (by kernel_rfl) (fun _ _ _ h => h) ?_ hB ?_
  · (refine Or.inl ⟨by kernel_rfl, ?_⟩; intro w hSw; go_simp)
  simp only [Act.put, List.setIfInBounds_toArray, List.set_cons_zero, List.set_cons_succ]
  refine wpAnyH_take (i := 12) (oi := { dst := some 34, op := Op.load 9 (Operand.tmp 33), type := 9, pos := "ref.go:54", after := #[{ on := 11, ground := Ground.data }], guard := none }) (v := .string d) rfl (by kernel_rfl) (by kernel_rfl) (by kernel_rfl) (fun _ _ _ h => h) ?_ hB ?_
  · (refine Or.inl ⟨by kernel_rfl, ?_⟩; intro w hSw; have h1 := (Bk.below HP.out hSw HP.out.lt).cell 0; have h3 := (Bk.below HP.out hSw HP.out.lt).cell 1; have h2 := (Bk.below HP.out hSw HP.out.lt).lt; go_simp)
  simp only [Act.put, List.setIfInBounds_toArray, List.set_cons_zero, List.set_cons_succ]
  exact r8R8_o g1 n u d sH sN sS V t0 t2 t3 t5 t6 t7 t8 t9 t10 t11 t12 t13 t14 t15 t16 t17 t18 t19 t20 t21 t22 t23 t24 t25 t26 t27 t28 t29 t30 t31 t32 t33 t34 t35 Q HP hz1 hz2 hz3 hz4 hdn hnw HNM HSM HQ _ hB

def encS (wd da : List Nat) : List Nat := if encE wd da = 0 then encL wd da else []
theorem strN_nil : strN [] = ⟨#[]⟩ := by decide +kernel
theorem strN_zero : strN [0] = ⟨#[0]⟩ := by decide +kernel
set_option maxHeartbeats 8000000 in
theorem r8encode_any (wd da : List Nat) (w : World) (hx : ∀ x ∈ wd, x < 256) (hdx : ∀ x ∈ da, x < 256) (hl : da.length ≤ 100000) :
    Calls Tryd.prog 18 #[.agg #[.string (strN wd), .string (strN da)]] w fun r w' => r = .returned (.tuple #[.string (strN (encS wd da)), .int .i64 ((encE wd da : Nat) : Int)]) ∧ Below w.heap.size w w' := by
  have HCK : Hid (∀ W, Calls Tryd.prog 20 #[.string (strN wd)] W fun r w' => r = .returned (.int .i64 ((wordE wd : Nat) : Int)) ∧ Below W.heap.size W w') := fun W => r8check_any wd W hx
  have HNM : Hid (∀ (n : Nat), n < 18446744073709551616 → ∀ W, Calls Tryd.prog 59 #[.int .i64 4, .int .u64 (n : Int)] W fun r w' => r = .returned (.string (strN (toL n 4))) ∧ Below W.heap.size W w') := fun n hn W => rfnum_any 4 n W (by omega) hn
  have HSM : Hid (∀ W, Calls Tryd.prog 60 #[.string (strN da)] W fun r w' => r = .returned (.string (strN (sum4 da))) ∧ Below W.heap.size W w') := fun W => r8sum_any da W hdx hl
  have hz := strN_size da
  have hzu := strN_size wd
  have HST : Hid (strN (encL wd da) = (((strN (magL ++ wd ++ zeros (12 - wd.length))) ++ strN (toL da.length 4)) ++ strN (sum4 da)) ++ strN da) := by
    show _ = _
    rw [strN_append, strN_append, strN_append]
    unfold encL
    simp only [List.append_assoc]
  obtain ⟨u, hu⟩ : ∃ u, u = strN wd := ⟨_, rfl⟩
  rw [← hu] at HCK hzu ⊢
  obtain ⟨d, hd⟩ : ∃ d, d = strN da := ⟨_, rfl⟩
  rw [← hd] at HSM hz HST ⊢
  obtain ⟨n, hn⟩ : ∃ n, n = da.length := ⟨_, rfl⟩
  rw [← hn] at hz hl HST
  obtain ⟨we, hwe⟩ : ∃ we, we = wordE wd := ⟨_, rfl⟩
  rw [← hwe] at HCK
  have HWE := Lib.hid hwe
  have HN := Lib.hid hn
  have HL := Lib.hid hl
  have HU := Lib.hid hu
  have HZU := Lib.hid hzu
  clear hu hd hn hwe hx hdx hl hzu
  have HZ := Lib.hid hz
  go_enter Tryd.func18, Tryd.ntmps18
  go_upto_region 1 with fail
  refine wp_any (fun W => Below w.heap.size w W ∧ Bk W w.heap.size 32 #[.string u, .string d]) ⟨(Below.refl _ _).alloc (Nat.le_refl _) _, Bk.new _ _ _⟩ ?_
  obtain ⟨g1, hg1⟩ : ∃ g1, g1 = w.heap.size := ⟨_, rfl⟩
  have HG := Lib.hid hg1
  rw [← hg1]
  clear hg1
  rintro W ⟨hW, K1⟩
  have HW : Hid (Below w.heap.size w W) := by rw [← HG.out]; exact hW
  have c0 := K1.cell 0
  have c1 := K1.cell 1
  have z1 := K1.lt
  clear hW
  go_wp2_with fail
  refine (HCK.out W).mono ?_
  rintro r w1 ⟨rfl, hb1⟩
  have K1 := K1.keep hb1
  have HW1 := Lib.hid (below_step HW.out HW.out.size hb1)
  have c0 := K1.cell 0
  have c1 := K1.cell 1
  have z1 := K1.lt
  clear hb1 HW HCK
  by_cases h0 : we ≠ 0
  · have q1 : ((we : Int) != 0) = true := by rw [bne_iff_ne]; omega
    have E0 : Hid (encE wd da = 70) := by show _ = _; unfold encE; rw [if_pos (by rw [← HWE.out]; exact h0)]
    clear h0
    go_wp2_with fail
    go_ret2
    refine ⟨?_, HW1.out⟩
    unfold encS
    rw [E0.out, if_neg (by decide), strN_nil]
    rfl
  have h0 : we = 0 := by omega
  have q1 : ((we : Int) != 0) = false := by rw [h0]; rfl
  have HOK := Lib.hid (wordE_zero (HWE.out.symm.trans h0))
  clear h0
  by_cases hbig : 16384 < n
  · have q2 : decide ((16384 : Int) < (n : Int)) = true := decide_eq_true (by omega)
    have E0 : Hid (encE wd da = 2) := by
      show _ = _
      unfold encE
      rw [if_neg (by rw [wordE_ok HOK.out]; simp), if_pos (by have := HN.out; omega)]
    clear hbig
    go_wp2_with fail
    go_ret2
    refine ⟨?_, HW1.out⟩
    unfold encS
    rw [E0.out, if_neg (by decide), strN_nil]
    rfl
  have q2 : decide ((16384 : Int) < (n : Int)) = false := decide_eq_false (by omega)
  have H16 := Lib.hid (show n ≤ 16384 by omega)
  have E0 : Hid (encE wd da = 0) := encE_of HOK.out (show da.length ≤ 16384 by have := H16.out; have := HN.out; omega)
  clear hbig
  go_upto_region 5 with fail
  have hmz : (strN magL).size = 4 := strN_size magL
  refine r8R5 g1 u d (strN magL) w1 _ _ _ _ _ _ _ _ _ _ _ _ _ _ _ _ _ _ _ _ _ _ _ _ _ _ _ _ _ _ _ _ _ _ _ _ (Lib.hid K1) ⟨by rw [hmz]; exact Nat.le_refl _, by rw [HZU.out]; exact HOK.out.2.1⟩ (Lib.hid (fun W hW => HNM.out 1413565529 (by decide) W)) (Lib.hid (fun _ _ _ _ w2 hb2 => ?_))
  have K1 := K1.keep hb2
  have HW2 := Lib.hid (below_step HW1.out HW1.out.size hb2)
  clear hb2 HW1 c0 c1 z1 hmz
  have HSA : Hid (strN magL ++ u = strN (magL ++ wd ++ zeros 0)) := by
    show _ = _
    rw [HU.out, strN_append]
    simp [zeros]
  rw [HSA.out]
  have HCT : Hid (∀ j, strN (magL ++ wd ++ zeros j) ++ ⟨#[0]⟩ = strN (magL ++ wd ++ zeros (j + 1))) := fun j => by
    rw [← strN_zero, strN_append]
    congr 1
    simp only [List.append_assoc, zeros]
    rw [← List.replicate_succ']
  have HSZ : Hid (∀ j, (strN (magL ++ wd ++ zeros j)).size = 4 + wd.length + j) := fun j => by
    rw [strN_size, List.length_append, List.length_append, zeros_length, magL_len]
  clear HSA
  obtain ⟨F, hF⟩ : ∃ F : Nat → ByteArray, F = fun j => strN (magL ++ wd ++ zeros j) := ⟨_, rfl⟩
  have e0 : strN (magL ++ wd ++ zeros 0) = F 0 := by rw [hF]
  have HCF : Hid (∀ j, F j ++ ⟨#[0]⟩ = F (j + 1)) := by rw [hF]; exact HCT.out
  have HSF : Hid (∀ j, (F j).size = 4 + wd.length + j) := by rw [hF]; exact HSZ.out
  have HFF : Hid (F (12 - wd.length) = strN (magL ++ wd ++ zeros (12 - wd.length))) := by rw [hF]; rfl
  rw [e0]
  clear hF e0 HCT HSZ
  obtain ⟨m, hm⟩ : ∃ m, m = wd.length := ⟨_, rfl⟩
  have HMM := Lib.hid hm
  have HM12 : Hid (m ≤ 12) := by show _ ≤ _; rw [hm]; exact HOK.out.2.1
  rw [← hm] at HSF HFF
  clear hm
  go_wp2_with fail
  go_loopw [4] (fun sv wr => ∃ j : Nat, j ≤ 12 - m ∧ sv = .string (F j) ∧ wr = w2) (fun sv _ => match sv with | .string s => 16 - s.size | _ => 0)
  case atStart => exact ⟨0, Nat.zero_le _, rfl, by first | rfl | trivial⟩
  case round =>
    obtain ⟨j, hj, rfl, rfl⟩ := hrel
    have hz1 := HSF.out j
    by_cases hlt : j < 12 - m
    · have j1 : decide (((4 + m + j : Nat) : Int) < 16) = true := decide_eq_true (by omega)
      have j2 : decide ((4 + m + j : Nat) < 16) = true := decide_eq_true (by omega)
      have hcf := HCF.out j
      have HJ := Lib.hid (show j + 1 ≤ 12 - m by omega)
      obtain ⟨q, hq⟩ : ∃ q, q = 4 + m + j := ⟨_, rfl⟩
      rw [← hq] at hz1 j1 j2
      have HQ := Lib.hid (show q < 16 by omega)
      have hq16 : q ≤ 16 := by omega
      have HQQ := Lib.hid hq
      clear hq hlt
      go_wp2_with fail
      go_roundw
      case rel => exact ⟨j + 1, HJ.out, by first | rfl | rw [hcf], by first | rfl | trivial⟩
      case measure =>
        have h1 := HSF.out (j + 1)
        try rw [hcf]
        show 16 - (F (j + 1)).size < 16 - (F j).size
        rw [h1, HSF.out j]
        have := HQ.out
        have := HQQ.out
        omega
    · have hjj : j = 12 - m := by omega
      have j1 : decide (((4 + m + j : Nat) : Int) < 16) = false := decide_eq_false (by have := HM12.out; omega)
      have j2 : decide ((4 + m + j : Nat) < 16) = false := decide_eq_false (by have := HM12.out; omega)
      have hq0 : 4 + m + j = 16 := by have := HM12.out; omega
      rw [hq0] at hz1 j1 j2
      have hff : F j = strN (magL ++ wd ++ zeros (12 - wd.length)) := by rw [hjj, HFF.out, HMM.out]
      have HFF2 := Lib.hid hff
      clear hlt hj hq0 hff
      obtain ⟨G, hG⟩ : ∃ G, G = F j := ⟨_, rfl⟩
      rw [← hG] at hz1 HFF2 ⊢
      clear hG hjj
      have hnw : IntKind.u64.wrap (n : Int) = (n : Int) := by
        simp [IntKind.wrap, IntKind.signed, IntKind.bits]
        have := H16.out
        omega
      have hsN : (strN (toL n 4)).size = 4 := by rw [strN_size, toL_length]
      have hsS : (strN (sum4 da)).size = 4 := by rw [strN_size, sum4_length]
      go_upto_region 8 with fail
      refine r8R8 g1 n u d G (strN (toL n 4)) (strN (sum4 da)) _ _ _ _ _ _ _ _ _ _ _ _ _ _ _ _ _ _ _ _ _ _ _ _ _ _ _ _ _ _ _ _ _ _ _ _ (Lib.hid K1) (by rw [hz1]; exact Nat.le_refl _) (by rw [hsN]; exact Nat.le_refl _) (by rw [hsS]; exact Nat.le_refl _) (by rw [HZ.out]; exact HL.out) HZ.out hnw (Lib.hid (fun W hW => HNM.out n (by have := H16.out; omega) W)) (Lib.hid (fun W hW => HSM.out W)) (Lib.hid (fun _ _ _ _ _ _ _ _ _ _ _ _ _ _ w3 hb3 => ?_))
      have HW3 := Lib.hid (below_step HW2.out HW2.out.size hb3)
      have HEND : Hid (((G ++ strN (toL n 4)) ++ strN (sum4 da)) ++ d = strN (encL wd da)) := by
        show _ = _
        rw [HST.out, HFF2.out]
      rw [HEND.out]
      clear hb3 hnw hsN hsS
      go_wp2_with fail
      go_ret2
      refine ⟨?_, HW3.out⟩
      unfold encS
      rw [E0.out, if_pos rfl]
      rfl
end Go.Proofs.YtanefmjjbilmiaaDoor
