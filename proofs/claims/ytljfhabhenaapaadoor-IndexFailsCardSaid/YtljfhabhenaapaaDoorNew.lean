/-
  Package index's New.
-/
import Derived.Test.YtljfhabhenaapaaDoorTad
import Derived.Deep.RegionHeld3
namespace Go.Proofs.YtljfhabhenaapaaDoor
open Go.RowKit
set_option linter.unusedVariables false
set_option linter.unusedSimpArgs false
set_option maxRecDepth 100000
set_option maxRecDepth 100000 in
set_option maxHeartbeats 16000000 in
theorem new6 (p k6 wk N : Nat) (h : Hd) (FS : Nat → Prop) (G : World → Prop) (V : World) (t0 t1 t2 t3 t4 t7 t8 t9 t10 t11 t12 t13 t14 t15 t16 t17 t18 t19 t20 t21 t22 t23 t24 t25 t26 t27 t28 : Value) (Q : Exit → Act → World → Prop) (hx : IsHd h) (z6 : k6 < V.heap.size) (n6 : ¬ FS k6) (hr6 : V.rangeAt k6 0 (hdL h)) (HID : Hid (∀ W, Below V.heap.size V W → Calls Tryd.prog 29 #[.agg (hdL h).toArray] W fun e w' => e = .returned (.agg (idL (nameI h)).toArray) ∧ Below W.heap.size W w')) (HWK : Hid (∀ W, Below V.heap.size V W → Calls Tryd.prog 30 #[.agg (hdL h).toArray] W fun e w' => e = .returned (nv wk) ∧ Below W.heap.size W w')) (HPUT : Hid (∀ W, Below V.heap.size V W → Calls Tryd.prog 28 #[.pointer (some ⟨p, 0, none⟩), .agg (ndL ⟨h, -1, 0, 0, wk, false⟩).toArray] W fun e w' => e = .returned (.int .i64 (N : Int)) ∧ But FS V w' ∧ G w')) (HQ : Hid (∀ (x20 x21 x22 x23 x24 x25 x26 x27 : Value)  (w' : World), G w' → Q .normal { tmps := List.toArray (t0 :: t1 :: t2 :: t3 :: t4 :: .pointer (some ⟨p, 0, none⟩) :: .pointer (some ⟨k6, 0, none⟩) :: t7 :: t8 :: t9 :: t10 :: t11 :: t12 :: t13 :: t14 :: t15 :: t16 :: t17 :: t18 :: t19 :: x20 :: x21 :: x22 :: x23 :: x24 :: x25 :: x26 :: x27 :: t28 :: []), defers := [] } w')) :
    Code.wp Tryd.prog (Code.region 6 #[{ dst := some 20, op := Op.move (Operand.tmp 5), type := 24, pos := "index.go:67", after := #[], guard := none },
{ dst := some 21, op := Op.load 32 (Operand.tmp 6), type := 32, pos := "index.go:67", after := #[], guard := none },
{ dst := some 22, op := Op.load 32 (Operand.tmp 6), type := 32, pos := "index.go:67", after := #[], guard := none },
{ dst := some 23, op := Op.call { callee := Callee.value (Operand.func 29), args := #[Operand.tmp 22], argTypes := #[32] }, type := 30, pos := "index.go:67", after := #[{ on := 2, ground := Ground.data }], guard := none },
{ dst := some 24, op := Op.load 32 (Operand.tmp 6), type := 32, pos := "index.go:67", after := #[], guard := none },
{ dst := some 25, op := Op.call { callee := Callee.value (Operand.func 30), args := #[Operand.tmp 24], argTypes := #[32] }, type := 43, pos := "index.go:67", after := #[{ on := 4, ground := Ground.data }, { on := 3, ground := Ground.chain }], guard := none },
{ dst := some 26, op := Op.build 45 #[(0, Operand.tmp 21), (1, Operand.tmp 23), (2, Operand.const (Value.int IntKind.i64 (-1))), (5, Operand.tmp 25)], type := 45, pos := "index.go:67", after := #[{ on := 1, ground := Ground.data }, { on := 3, ground := Ground.data }, { on := 5, ground := Ground.data }], guard := none },
{ dst := some 27, op := Op.call { callee := Callee.value (Operand.func 28), args := #[Operand.tmp 20, Operand.tmp 26], argTypes := #[24, 45] }, type := 3, pos := "index.go:67", after := #[{ on := 0, ground := Ground.data }, { on := 6, ground := Ground.data }, { on := 5, ground := Ground.chain }], guard := none }] true) Q { tmps := List.toArray (t0 :: t1 :: t2 :: t3 :: t4 :: .pointer (some ⟨p, 0, none⟩) :: .pointer (some ⟨k6, 0, none⟩) :: t7 :: t8 :: t9 :: t10 :: t11 :: t12 :: t13 :: t14 :: t15 :: t16 :: t17 :: t18 :: t19 :: t20 :: t21 :: t22 :: t23 :: t24 :: t25 :: t26 :: t27 :: t28 :: []), defers := [] } V := by
  refine wp_region_noPanic ?_
  refine wp_region_held_drew (S := (fun w' => But FS V w')) (by kernel_rfl) ((But.refl _ V).drew) (fun hHeld => ?_)
  have hB : But FS V V.drew := ((But.refl _ V).drew)
  show wpAnyH _ _ _ _ _ 8 _ _ _
  refine wpAnyH_take (i := 0) (oi := { dst := some 20, op := Op.move (Operand.tmp 5), type := 24, pos := "index.go:67", after := #[], guard := none }) (v := .pointer (some ⟨p, 0, none⟩)) rfl (by kernel_rfl) (by kernel_rfl) (by kernel_rfl) (fun _ _ _ h => h) ?_ hB ?_
  · (refine Or.inl ⟨by kernel_rfl, ?_⟩; intro w hSw; go_simp)
  simp only [Act.put, List.setIfInBounds_toArray, List.set_cons_zero, List.set_cons_succ]
  refine wpAnyH_take (i := 1) (oi := { dst := some 21, op := Op.load 32 (Operand.tmp 6), type := 32, pos := "index.go:67", after := #[], guard := none }) (v := .agg (hdL h).toArray) rfl (by kernel_rfl) (by kernel_rfl) (by kernel_rfl) (fun _ _ _ h => h) ?_ hB ?_
  · (exact yieldsIf_load_mid (by kernel_rfl) 32 (.tmp 6) rfl k6 0 rfl (hdL h) _ (fun w hSw => fun a u hu => (hSw.cell (p := ⟨k6, _, none⟩) z6 n6).trans (hr6 a u hu)) Tryd.underlying32 rfl (hd_sizeL hx))
  simp only [Act.put, List.setIfInBounds_toArray, List.set_cons_zero, List.set_cons_succ]
  refine wpAnyH_take (i := 2) (oi := { dst := some 22, op := Op.load 32 (Operand.tmp 6), type := 32, pos := "index.go:67", after := #[], guard := none }) (v := .agg (hdL h).toArray) rfl (by kernel_rfl) (by kernel_rfl) (by kernel_rfl) (fun _ _ _ h => h) ?_ hB ?_
  · (exact yieldsIf_load_mid (by kernel_rfl) 32 (.tmp 6) rfl k6 0 rfl (hdL h) _ (fun w hSw => fun a u hu => (hSw.cell (p := ⟨k6, _, none⟩) z6 n6).trans (hr6 a u hu)) Tryd.underlying32 rfl (hd_sizeL hx))
  simp only [Act.put, List.setIfInBounds_toArray, List.set_cons_zero, List.set_cons_succ]
  refine wpAnyH_take (i := 4) (oi := { dst := some 24, op := Op.load 32 (Operand.tmp 6), type := 32, pos := "index.go:67", after := #[], guard := none }) (v := .agg (hdL h).toArray) rfl (by kernel_rfl) (by kernel_rfl) (by kernel_rfl) (fun _ _ _ h => h) ?_ hB ?_
  · (exact yieldsIf_load_mid (by kernel_rfl) 32 (.tmp 6) rfl k6 0 rfl (hdL h) _ (fun w hSw => fun a u hu => (hSw.cell (p := ⟨k6, _, none⟩) z6 n6).trans (hr6 a u hu)) Tryd.underlying32 rfl (hd_sizeL hx))
  simp only [Act.put, List.setIfInBounds_toArray, List.set_cons_zero, List.set_cons_succ]
  refine wpAnyH_ready (rs := [3]) (by kernel_rfl) (by simp) ?_
  refine AllReadyH.cons rfl (fun K hK => ?_) AllReadyH.nil
  refine sx_call (by kernel_rfl) _ _ (HID.out _ (Below.refl _ _).drew) (by kernel_rfl) (fun e6 w6 h6 => ⟨_, h6.1, ?_⟩)
  have hb6 : Below V.heap.size V w6 := ((Below.refl _ V).drew).trans h6.2
  simp only [Act.put, List.setIfInBounds_toArray, List.set_cons_zero, List.set_cons_succ]
  have hB2 := (hB.trans (But.of (S := FS) h6.2) (fun _ _ h => h))
  refine hK.out _ _ hB2 (fun _ => ?_)
  have hbl := hb6
  show wpAnyH _ _ _ _ _ 3 #[true, true, true, true, true, false, false, false] { tmps := List.toArray (t0 :: t1 :: t2 :: t3 :: t4 :: .pointer (some ⟨p, 0, none⟩) :: .pointer (some ⟨k6, 0, none⟩) :: t7 :: t8 :: t9 :: t10 :: t11 :: t12 :: t13 :: t14 :: t15 :: t16 :: t17 :: t18 :: t19 :: .pointer (some ⟨p, 0, none⟩) :: .agg (hdL h).toArray :: .agg (hdL h).toArray :: .agg (idL (nameI h)).toArray :: .agg (hdL h).toArray :: t25 :: t26 :: t27 :: t28 :: []), defers := [] } _
  clear hB hK K
  have hB := hB2
  clear hB2
  refine wpAnyH_ready (rs := [5]) (by kernel_rfl) (by simp) ?_
  refine AllReadyH.cons rfl (fun K hK => ?_) AllReadyH.nil
  refine sx_call (by kernel_rfl) _ _ (HWK.out _ hbl) (by kernel_rfl) (fun e8 w8 h8 => ⟨_, h8.1, ?_⟩)
  have hb8 : Below V.heap.size V w8 := hbl.trans (h8.2.mono hbl.size)
  simp only [Act.put, List.setIfInBounds_toArray, List.set_cons_zero, List.set_cons_succ]
  have hB2 := (hB.trans (But.of (S := FS) h8.2) (fun _ _ h => h))
  refine hK.out _ _ hB2 (fun _ => ?_)
  have hbl2 := hb8
  show wpAnyH _ _ _ _ _ 2 #[true, true, true, true, true, true, false, false] { tmps := List.toArray (t0 :: t1 :: t2 :: t3 :: t4 :: .pointer (some ⟨p, 0, none⟩) :: .pointer (some ⟨k6, 0, none⟩) :: t7 :: t8 :: t9 :: t10 :: t11 :: t12 :: t13 :: t14 :: t15 :: t16 :: t17 :: t18 :: t19 :: .pointer (some ⟨p, 0, none⟩) :: .agg (hdL h).toArray :: .agg (hdL h).toArray :: .agg (idL (nameI h)).toArray :: .agg (hdL h).toArray :: nv wk :: t26 :: t27 :: t28 :: []), defers := [] } _
  refine wpAnyH_take (i := 6) (oi := { dst := some 26, op := Op.build 45 #[(0, Operand.tmp 21), (1, Operand.tmp 23), (2, Operand.const (Value.int IntKind.i64 (-1))), (5, Operand.tmp 25)], type := 45, pos := "index.go:67", after := #[{ on := 1, ground := Ground.data }, { on := 3, ground := Ground.data }, { on := 5, ground := Ground.data }], guard := none }) (v := .agg (ndL ⟨h, -1, 0, 0, wk, false⟩).toArray) rfl (by kernel_rfl) (by kernel_rfl) (by kernel_rfl) (fun _ _ _ h => h) ?_ hB2 ?_
  · (refine Or.inl ⟨by kernel_rfl, ?_⟩; intro w hSw; have e1 := bld_1 hx; have e2 := bld_2 hx; have e3 := bldA_size hx; have e4 := bldB_size hx; have e5 := bld_4 hx (-1) wk; have e6 := nz_zero; have e7 := nz_ne; have e8 := nz_size; have e9 := hdL_length hx; have e10 := idL_len (nameI h); go_simp)
  simp only [Act.put, List.setIfInBounds_toArray, List.set_cons_zero, List.set_cons_succ]
  clear hB hK K
  have hB := hB2
  clear hB2
  refine wpAnyH_ready (rs := [7]) (by kernel_rfl) (by simp) ?_
  refine AllReadyH.cons rfl (fun K hK => ?_) AllReadyH.nil
  refine sx_call (by kernel_rfl) _ _ (HPUT.out _ hbl2) (by kernel_rfl) (fun e7 w7 h7 => ⟨_, h7.1, ?_⟩)
  simp only [Act.put, List.setIfInBounds_toArray, List.set_cons_zero, List.set_cons_succ]
  have hB2 := h7.2.1
  refine hK.out _ _ hB2 (fun _ => ?_)
  have hend := h7.2.2
  show wpAnyH _ _ _ _ _ 0 #[true, true, true, true, true, true, true, true] { tmps := List.toArray (t0 :: t1 :: t2 :: t3 :: t4 :: .pointer (some ⟨p, 0, none⟩) :: .pointer (some ⟨k6, 0, none⟩) :: t7 :: t8 :: t9 :: t10 :: t11 :: t12 :: t13 :: t14 :: t15 :: t16 :: t17 :: t18 :: t19 :: .pointer (some ⟨p, 0, none⟩) :: .agg (hdL h).toArray :: .agg (hdL h).toArray :: .agg (idL (nameI h)).toArray :: .agg (hdL h).toArray :: nv wk :: .agg (ndL ⟨h, -1, 0, 0, wk, false⟩).toArray :: .int .i64 (N : Int) :: t28 :: []), defers := [] } _
  clear hB hK K
  have hB := hB2
  clear hB2
  refine wpAnyH_done (by kernel_rfl) ?_ _
  refine NoPanic.normal ?_
  have hEnd := HQ.out (.pointer (some ⟨p, 0, none⟩)) (.agg (hdL h).toArray) (.agg (hdL h).toArray) (.agg (idL (nameI h)).toArray) (.agg (hdL h).toArray) (nv wk) (.agg (ndL ⟨h, -1, 0, 0, wk, false⟩).toArray) (.int .i64 (N : Int)) _ hend
  exact hEnd

set_option maxHeartbeats 4000000 in
theorem within_any (n a b : Int) (h1 : a ≤ n) (h2 : n ≤ b) (w : World) : Calls Tryd.prog 45 #[.int .i64 n, .int .i64 a, .int .i64 b] w fun e w' => e = .returned (.bool true) ∧ w' = w := by
  have d1 : decide (a ≤ n) = true := decide_eq_true h1
  have d2 : decide (n ≤ b) = true := decide_eq_true h2
  go_enter Tryd.func45, Tryd.ntmps45
  go_wp2_with fail
  go_ret
  exact ⟨rfl, rfl⟩
set_option maxHeartbeats 4000000 in
theorem within6_any (n a b : Int) (h1 : a ≤ n) (h2 : n ≤ b) (w : World) : Calls Tryd.prog 46 #[.int .i64 n, .int .i64 a, .int .i64 b] w fun e w' => e = .returned (.bool true) ∧ w' = w := by
  have d1 : decide (a ≤ n) = true := decide_eq_true h1
  have d2 : decide (n ≤ b) = true := decide_eq_true h2
  go_enter Tryd.func46, Tryd.ntmps46
  go_wp2_with fail
  go_ret
  exact ⟨rfl, rfl⟩
set_option maxHeartbeats 4000000 in
theorem txnil_any (w : World) : Calls Tryd.prog 47 #[.slice none 0 0] w fun e w' => e = .returned (.slice none 0 0) ∧ w' = w := by
  have q22 : ∀ (w : World) (a : Option Addr) (n c n' c' : Nat), (binOp .eql 33 (.slice a n c) (.slice none n' c')).run Tryd.prog w = .ok (.bool a.isNone) w := fun w a n c n' c' => Lib.run_eql_slice_nil w _ _ a n c n' c' Tryd.underlying33
  have HC : Calls Tryd.prog 61 #[.slice none 0 0] w fun e w' => e = .returned (.slice none 0 0) ∧ w' = w := by
    go_enter Tryd.func61, Tryd.ntmps61
    go_wp2_with fail
    go_ret
    exact ⟨rfl, rfl⟩
  go_enter Tryd.func47, Tryd.ntmps47
  go_wp2_with fail
  refine HC.mono ?_
  rintro e w1 ⟨rfl, rfl⟩
  go_wp2_with fail
  refine wp_loop_rounds 1 ?_
  rw [rounds_succ]
  go_wp2_with fail
  go_ret
  exact ⟨rfl, rfl⟩
/-- The rules of which every second header is proved. -/
def H0 : Hd := ⟨0, zeros 32, zeros 32, 0, 545259519, 0⟩
theorem H0_is : IsHd H0 := by
  constructor <;> first | decide | rfl | (intro b hb; have := List.eq_of_mem_replicate hb; omega)
def r0 : Ru := ⟨545259519, 0, 10, 50, 0, H0, .slice none 0 0⟩
theorem r0_is : IsRu r0 := ⟨by decide, H0_is, ⟨_, _, _, rfl⟩⟩
def g0 : Nd := ⟨H0, -1, 0, 0, workN H0, false⟩
end Go.Proofs.YtljfhabhenaapaaDoor
