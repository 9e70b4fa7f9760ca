/-
  Texts in one: MroP, MroA, MroO, MroW.
-/
import Derived.Test.YtmjiadfdmchhaaaDoorMroM
import Derived.Deep.RegionHeld3
namespace Go.Proofs.YtmjiadfdmchhaaaDoor.merkleRoots
open Go.ChangeShapes Go.WideShapes Go.ChangeAt Go.RowKit
set_option linter.unusedVariables false
set_option linter.unusedSimpArgs false
set_option maxRecDepth 100000 in
set_option maxHeartbeats 4000000 in
theorem region1_5 (g2 g3 g4 : Nat) (V : World) (x y Z : List Nat) (t0 t1 t5 t6 t7 t8 t9 t10 : Value) (Q : Exit → Act → World → Prop) (HI : Hid (IsId x ∧ IsId y ∧ IsId Z)) (K2 : Hid (Bk V g2 22 (idA x))) (K3 : Hid (Bk V g3 22 (idA y))) (K4 : Hid (Bk V g4 22 (idA (zeros 32)))) (HG : Hid (g2 < g4 ∧ g3 < g4))
    (HC : Hid (∀ W, Calls Tryd.prog 45 #[.string (strN x ++ strN y)] W fun e w' => e = .returned (.agg (idA Z)) ∧ Below W.heap.size W w'))
    (HCX : Hid (∀ w', Bk w' g2 22 (idA x) → (convert 32 9 (.slice (some ⟨g2, 0, none⟩) 32 32)).run Tryd.prog w' = .ok (.string (strN x)) w'))
    (HCY : Hid (∀ w', Bk w' g3 22 (idA y) → (convert 32 9 (.slice (some ⟨g3, 0, none⟩) 32 32)).run Tryd.prog w' = .ok (.string (strN y)) w'))
    (HQ : Hid (∀ x5 x6 x7 x8 x9 x10 w', Below g4 V w' → Bk w' g4 22 (idA Z) → Q .normal { tmps := List.toArray (t0 :: t1 :: Value.pointer (some { block := g2, off := 0 }) :: Value.pointer (some { block := g3, off := 0 }) :: Value.pointer (some { block := g4, off := 0 }) :: x5 :: x6 :: x7 :: x8 :: x9 :: x10 :: []), defers := [] } w')) (w : World) (hB : Below g4 V w) (k4 : Bk w g4 22 (idA (zeros 32))) :
    wpAnyH Tryd.prog .any (#[{ dst := some 5, op := Op.slice 22 (Operand.tmp 2) none none none, type := 32, pos := "ref.go:7", after := #[], guard := none },
{ dst := some 6, op := Op.convert 32 9 (Operand.tmp 5), type := 9, pos := "ref.go:7", after := #[{ on := 0, ground := Ground.data }], guard := none },
{ dst := some 7, op := Op.slice 22 (Operand.tmp 3) none none none, type := 32, pos := "ref.go:7", after := #[], guard := none },
{ dst := some 8, op := Op.convert 32 9 (Operand.tmp 7), type := 9, pos := "ref.go:7", after := #[{ on := 2, ground := Ground.data }], guard := none },
{ dst := some 9, op := Op.binOp BinOp.add 9 (Operand.tmp 6) (Operand.tmp 8) 9, type := 9, pos := "ref.go:7", after := #[{ on := 1, ground := Ground.data }, { on := 3, ground := Ground.data }], guard := none },
{ dst := some 10, op := Op.call { callee := Callee.value (Operand.func 45), args := #[Operand.tmp 9], argTypes := #[9] }, type := 22, pos := "ref.go:7", after := #[{ on := 4, ground := Ground.data }], guard := none },
{ dst := none, op := Op.store 22 (Operand.tmp 4) (Operand.tmp 10), type := 0, pos := "ref.go:7", after := #[{ on := 5, ground := Ground.data }, { on := 5, ground := Ground.chain }, { on := 0, ground := Ground.phase }, { on := 1, ground := Ground.phase }, { on := 2, ground := Ground.phase }, { on := 3, ground := Ground.phase }, { on := 4, ground := Ground.phase }, { on := 5, ground := Ground.phase }], guard := none }]) (NoPanic Q) (fun w' => Below g4 V w') 1 #[true, true, true, true, true, true, false] { tmps := List.toArray (t0 :: t1 :: Value.pointer (some { block := g2, off := 0 }) :: Value.pointer (some { block := g3, off := 0 }) :: Value.pointer (some { block := g4, off := 0 }) :: Value.slice (some { block := g2, off := 0 }) 32 32 :: Value.string (strN x) :: Value.slice (some { block := g3, off := 0 }) 32 32 :: Value.string (strN y) :: Value.string (strN x ++ strN y) :: Value.agg (idA Z) :: []), defers := [] } w := by
  refine wpAnyH_ready (rs := [6]) (by kernel_rfl) (by simp) ?_
  refine AllReadyH.cons rfl (fun K hK => ?_) ?_
  · have K4b := k4
    have hz0 : (idA Z).size = (idA (zeros 32)).size := by rw [idA_size, idA_size, HI.out.2.2.1]; rfl
    refine step_storeD rfl 22 (.tmp 4) (.tmp 10) rfl g4 0 (idA Z) rfl rfl (by rw [hz0]; exact K4b.there _ (Nat.le_refl _)) (by rw [idA_size, HI.out.2.2.1]; exact r_info) (id_ones Z) ?_
    refine hK.out _ _ (Below.setCells (Nat.le_refl _) _ _ _ hB) (fun _ => ?_)
    refine wpAnyH_done (by kernel_rfl) ?_ _
    exact NoPanic.normal (HQ.out _ _ _ _ _ _ _ (Below.setCells (Nat.le_refl _) _ _ _ hB) (K4b.setAll hz0))
  exact AllReadyH.nil

set_option maxRecDepth 100000 in
set_option maxHeartbeats 4000000 in
theorem region1_o (g2 g3 g4 : Nat) (V : World) (x y Z : List Nat) (t0 t1 t5 t6 t7 t8 t9 t10 : Value) (Q : Exit → Act → World → Prop) (HI : Hid (IsId x ∧ IsId y ∧ IsId Z)) (K2 : Hid (Bk V g2 22 (idA x))) (K3 : Hid (Bk V g3 22 (idA y))) (K4 : Hid (Bk V g4 22 (idA (zeros 32)))) (HG : Hid (g2 < g4 ∧ g3 < g4))
    (HC : Hid (∀ W, Calls Tryd.prog 45 #[.string (strN x ++ strN y)] W fun e w' => e = .returned (.agg (idA Z)) ∧ Below W.heap.size W w'))
    (HCX : Hid (∀ w', Bk w' g2 22 (idA x) → (convert 32 9 (.slice (some ⟨g2, 0, none⟩) 32 32)).run Tryd.prog w' = .ok (.string (strN x)) w'))
    (HCY : Hid (∀ w', Bk w' g3 22 (idA y) → (convert 32 9 (.slice (some ⟨g3, 0, none⟩) 32 32)).run Tryd.prog w' = .ok (.string (strN y)) w'))
    (HQ : Hid (∀ x5 x6 x7 x8 x9 x10 w', Below g4 V w' → Bk w' g4 22 (idA Z) → Q .normal { tmps := List.toArray (t0 :: t1 :: Value.pointer (some { block := g2, off := 0 }) :: Value.pointer (some { block := g3, off := 0 }) :: Value.pointer (some { block := g4, off := 0 }) :: x5 :: x6 :: x7 :: x8 :: x9 :: x10 :: []), defers := [] } w')) (w : World) (hB : Below g4 V w) (k4 : Bk w g4 22 (idA (zeros 32))) :
    wpAnyH Tryd.prog .any (#[{ dst := some 5, op := Op.slice 22 (Operand.tmp 2) none none none, type := 32, pos := "ref.go:7", after := #[], guard := none },
{ dst := some 6, op := Op.convert 32 9 (Operand.tmp 5), type := 9, pos := "ref.go:7", after := #[{ on := 0, ground := Ground.data }], guard := none },
{ dst := some 7, op := Op.slice 22 (Operand.tmp 3) none none none, type := 32, pos := "ref.go:7", after := #[], guard := none },
{ dst := some 8, op := Op.convert 32 9 (Operand.tmp 7), type := 9, pos := "ref.go:7", after := #[{ on := 2, ground := Ground.data }], guard := none },
{ dst := some 9, op := Op.binOp BinOp.add 9 (Operand.tmp 6) (Operand.tmp 8) 9, type := 9, pos := "ref.go:7", after := #[{ on := 1, ground := Ground.data }, { on := 3, ground := Ground.data }], guard := none },
{ dst := some 10, op := Op.call { callee := Callee.value (Operand.func 45), args := #[Operand.tmp 9], argTypes := #[9] }, type := 22, pos := "ref.go:7", after := #[{ on := 4, ground := Ground.data }], guard := none },
{ dst := none, op := Op.store 22 (Operand.tmp 4) (Operand.tmp 10), type := 0, pos := "ref.go:7", after := #[{ on := 5, ground := Ground.data }, { on := 5, ground := Ground.chain }, { on := 0, ground := Ground.phase }, { on := 1, ground := Ground.phase }, { on := 2, ground := Ground.phase }, { on := 3, ground := Ground.phase }, { on := 4, ground := Ground.phase }, { on := 5, ground := Ground.phase }], guard := none }]) (NoPanic Q) (fun w' => Below g4 V w') 2 #[true, true, true, true, true, false, false] { tmps := List.toArray (t0 :: t1 :: Value.pointer (some { block := g2, off := 0 }) :: Value.pointer (some { block := g3, off := 0 }) :: Value.pointer (some { block := g4, off := 0 }) :: Value.slice (some { block := g2, off := 0 }) 32 32 :: Value.string (strN x) :: Value.slice (some { block := g3, off := 0 }) 32 32 :: Value.string (strN y) :: Value.string (strN x ++ strN y) :: t10 :: []), defers := [] } w := by
  refine wpAnyH_ready (rs := [5]) (by kernel_rfl) (by simp) ?_
  refine AllReadyH.cons rfl (fun K hK => ?_) ?_
  · refine step_callS (by rfl) _ _ (.agg (idA Z)) (HC.out w) (by kernel_rfl) (fun w6 hb6 => ?_)
    simp only [Act.put, List.setIfInBounds_toArray, List.set_cons_zero, List.set_cons_succ]
    refine hK.out _ _ (hB.trans (hb6.mono (Nat.le_of_lt k4.lt))) (fun _ => ?_)
    exact region1_5 g2 g3 g4 V x y Z t0 t1 t5 t6 t7 t8 t9 t10 Q HI K2 K3 K4 HG HC HCX HCY HQ _ (hB.trans (hb6.mono (Nat.le_of_lt k4.lt))) (k4.keep hb6)
  exact AllReadyH.nil

set_option maxRecDepth 100000 in
set_option maxHeartbeats 4000000 in
theorem region1 (g2 g3 g4 : Nat) (V : World) (x y Z : List Nat) (t0 t1 t5 t6 t7 t8 t9 t10 : Value) (Q : Exit → Act → World → Prop) (HI : Hid (IsId x ∧ IsId y ∧ IsId Z)) (K2 : Hid (Bk V g2 22 (idA x))) (K3 : Hid (Bk V g3 22 (idA y))) (K4 : Hid (Bk V g4 22 (idA (zeros 32)))) (HG : Hid (g2 < g4 ∧ g3 < g4))
    (HC : Hid (∀ W, Calls Tryd.prog 45 #[.string (strN x ++ strN y)] W fun e w' => e = .returned (.agg (idA Z)) ∧ Below W.heap.size W w'))
    (HCX : Hid (∀ w', Bk w' g2 22 (idA x) → (convert 32 9 (.slice (some ⟨g2, 0, none⟩) 32 32)).run Tryd.prog w' = .ok (.string (strN x)) w'))
    (HCY : Hid (∀ w', Bk w' g3 22 (idA y) → (convert 32 9 (.slice (some ⟨g3, 0, none⟩) 32 32)).run Tryd.prog w' = .ok (.string (strN y)) w'))
    (HQ : Hid (∀ x5 x6 x7 x8 x9 x10 w', Below g4 V w' → Bk w' g4 22 (idA Z) → Q .normal { tmps := List.toArray (t0 :: t1 :: Value.pointer (some { block := g2, off := 0 }) :: Value.pointer (some { block := g3, off := 0 }) :: Value.pointer (some { block := g4, off := 0 }) :: x5 :: x6 :: x7 :: x8 :: x9 :: x10 :: []), defers := [] } w')) :
    Code.wp Tryd.prog (Code.region 1 (#[{ dst := some 5, op := Op.slice 22 (Operand.tmp 2) none none none, type := 32, pos := "ref.go:7", after := #[], guard := none },
{ dst := some 6, op := Op.convert 32 9 (Operand.tmp 5), type := 9, pos := "ref.go:7", after := #[{ on := 0, ground := Ground.data }], guard := none },
{ dst := some 7, op := Op.slice 22 (Operand.tmp 3) none none none, type := 32, pos := "ref.go:7", after := #[], guard := none },
{ dst := some 8, op := Op.convert 32 9 (Operand.tmp 7), type := 9, pos := "ref.go:7", after := #[{ on := 2, ground := Ground.data }], guard := none },
{ dst := some 9, op := Op.binOp BinOp.add 9 (Operand.tmp 6) (Operand.tmp 8) 9, type := 9, pos := "ref.go:7", after := #[{ on := 1, ground := Ground.data }, { on := 3, ground := Ground.data }], guard := none },
{ dst := some 10, op := Op.call { callee := Callee.value (Operand.func 45), args := #[Operand.tmp 9], argTypes := #[9] }, type := 22, pos := "ref.go:7", after := #[{ on := 4, ground := Ground.data }], guard := none },
{ dst := none, op := Op.store 22 (Operand.tmp 4) (Operand.tmp 10), type := 0, pos := "ref.go:7", after := #[{ on := 5, ground := Ground.data }, { on := 5, ground := Ground.chain }, { on := 0, ground := Ground.phase }, { on := 1, ground := Ground.phase }, { on := 2, ground := Ground.phase }, { on := 3, ground := Ground.phase }, { on := 4, ground := Ground.phase }, { on := 5, ground := Ground.phase }], guard := none }]) true) Q { tmps := List.toArray (t0 :: t1 :: Value.pointer (some { block := g2, off := 0 }) :: Value.pointer (some { block := g3, off := 0 }) :: Value.pointer (some { block := g4, off := 0 }) :: t5 :: t6 :: t7 :: t8 :: t9 :: t10 :: []), defers := [] } V := by
  refine wp_region_noPanic ?_
  refine wp_region_held_drew (S := (fun w' => Below g4 V w')) (by kernel_rfl) ((Below.refl _ _).drew) (fun hHeld => ?_)
  have hB : Below g4 V V.drew := ((Below.refl _ _).drew)
  show wpAnyH _ _ _ _ _ 7 _ _ _
  refine wpAnyH_take (i := 0) (oi := { dst := some 5, op := Op.slice 22 (Operand.tmp 2) none none none, type := 32, pos := "ref.go:7", after := #[], guard := none }) (v := Value.slice (some { block := g2, off := 0 }) 32 32) rfl (by kernel_rfl) (by kernel_rfl) (by kernel_rfl) (fun _ _ _ h => h) ?_ hHeld ?_
  · (refine Or.inl ⟨by rfl, ?_⟩; intro w hSw; go_simp)
  simp only [Act.put, List.setIfInBounds_toArray, List.set_cons_zero, List.set_cons_succ]
  refine wpAnyH_take (i := 1) (oi := { dst := some 6, op := Op.convert 32 9 (Operand.tmp 5), type := 9, pos := "ref.go:7", after := #[{ on := 0, ground := Ground.data }], guard := none }) (v := Value.string (strN x)) rfl (by kernel_rfl) (by kernel_rfl) (by kernel_rfl) (fun _ _ _ h => h) ?_ hHeld ?_
  · (refine Or.inl ⟨by rfl, ?_⟩; intro w hSw; have h1 := HCX.out w (Bk.below K2.out hSw HG.out.1); go_simp)
  simp only [Act.put, List.setIfInBounds_toArray, List.set_cons_zero, List.set_cons_succ]
  refine wpAnyH_take (i := 2) (oi := { dst := some 7, op := Op.slice 22 (Operand.tmp 3) none none none, type := 32, pos := "ref.go:7", after := #[], guard := none }) (v := Value.slice (some { block := g3, off := 0 }) 32 32) rfl (by kernel_rfl) (by kernel_rfl) (by kernel_rfl) (fun _ _ _ h => h) ?_ hHeld ?_
  · (refine Or.inl ⟨by rfl, ?_⟩; intro w hSw; go_simp)
  simp only [Act.put, List.setIfInBounds_toArray, List.set_cons_zero, List.set_cons_succ]
  refine wpAnyH_take (i := 3) (oi := { dst := some 8, op := Op.convert 32 9 (Operand.tmp 7), type := 9, pos := "ref.go:7", after := #[{ on := 2, ground := Ground.data }], guard := none }) (v := Value.string (strN y)) rfl (by kernel_rfl) (by kernel_rfl) (by kernel_rfl) (fun _ _ _ h => h) ?_ hHeld ?_
  · (refine Or.inl ⟨by rfl, ?_⟩; intro w hSw; have h1 := HCY.out w (Bk.below K3.out hSw HG.out.2); go_simp)
  simp only [Act.put, List.setIfInBounds_toArray, List.set_cons_zero, List.set_cons_succ]
  refine wpAnyH_take (i := 4) (oi := { dst := some 9, op := Op.binOp BinOp.add 9 (Operand.tmp 6) (Operand.tmp 8) 9, type := 9, pos := "ref.go:7", after := #[{ on := 1, ground := Ground.data }, { on := 3, ground := Ground.data }], guard := none }) (v := Value.string (strN x ++ strN y)) rfl (by kernel_rfl) (by kernel_rfl) (by kernel_rfl) (fun _ _ _ h => h) ?_ hHeld ?_
  · (refine Or.inl ⟨by rfl, ?_⟩; intro w hSw; have s1 : (strN x).size = 32 := by rw [strN_size, HI.out.1.1]
     have s2 : (strN y).size = 32 := by rw [strN_size, HI.out.2.1.1]
     go_simp)
  simp only [Act.put, List.setIfInBounds_toArray, List.set_cons_zero, List.set_cons_succ]
  exact region1_o g2 g3 g4 V x y Z t0 t1 t5 t6 t7 t8 t9 t10 Q HI K2 K3 K4 HG HC HCX HCY HQ _ hB K4.out.drew

set_option maxRecDepth 100000 in
set_option maxHeartbeats 2000000 in
theorem rpair_any (x y : List Nat) (w : World) (hx : IsId x) (hy : IsId y) :
    Calls Tryd.prog 65 #[.agg (idA x), .agg (idA y)] w fun e w' => e = .returned (.agg (idA (H2 x y))) ∧ Below w.heap.size w w' := by
  have HC : Hid (∀ W, Calls Tryd.prog 45 #[.string (strN x ++ strN y)] W fun e w' => e = .returned (.agg (idA (H2 x y))) ∧ Below W.heap.size W w') := fun W => by
    rw [strN_append]
    exact rtwice_any (x ++ y) W (fun b hb => (List.mem_append.1 hb).elim (hx.2 b) (hy.2 b)) (by rw [List.length_append, hx.1, hy.1]; omega)
  have HI : Hid (IsId x ∧ IsId y ∧ IsId (H2 x y)) := ⟨hx, hy, H2_id _ _⟩
  have HB : Hid (∀ (z : List Nat) (g : Nat) (W : World), IsId z → Bk W g 22 (idA z) → (convert 32 9 (.slice (some ⟨g, 0, none⟩) 32 32)).run Tryd.prog W = .ok (.string (strN z)) W) := fun z g W hz K => by
    have h := bs_row (n := 32) (cap := 32) K (by rw [hz.1]; exact Nat.le_refl _) (Nat.le_refl _) (by omega) hz.2
    rw [List.take_of_length_le (by rw [hz.1]; exact Nat.le_refl _)] at h
    exact conv_bs h
  go_enter Tryd.func65, Tryd.ntmps65
  go_upto_region 1 with fail
  refine wp_any (fun W => Below w.heap.size w W ∧ Bk W w.heap.size 22 (idA x) ∧ Bk W (w.heap.size + 1) 22 (idA y) ∧ Bk W (w.heap.size + 2) 22 (idA (zeros 32))) ⟨?_, ?_, ?_, ?_⟩ ?_
  · exact (((Below.refl _ _).alloc (Nat.le_refl _) _).alloc (by simp) _).alloc (by simp; omega) _
  · exact ((Bk.new _ _ _).alloc _).alloc _
  · exact (Bk.new' _ _ _ (by simp)).alloc _
  · exact Bk.new' _ _ _ (by simp)
  generalize hg : w.heap.size = g at *
  rintro W ⟨hW, X, Y, Z⟩
  refine region1 g (g + 1) (g + 1 + 1) W x y (H2 x y) _ _ _ _ _ _ _ _ _ HI X Y Z ⟨by omega, by omega⟩ HC (fun w' h => HB.out x g w' hx h) (fun w' h => HB.out y (g + 1) w' hy h) (fun x5 x6 x7 x8 x9 x10 w' hb hZ => ?_)
  go_wp2_with fail
  exact r_ret (H2_id _ _).1 rfl rfl rfl hZ (by rw [hg]; exact hW.trans (hb.mono (by omega)))
end Go.Proofs.YtmjiadfdmchhaaaDoor.merkleRoots
namespace Go.Proofs.YtmjiadfdmchhaaaDoor.merkleRoots
open Go.ChangeShapes Go.WideShapes Go.ChangeAt Go.RowKit
set_option linter.unusedVariables false
set_option linter.unusedSimpArgs false
set_option maxRecDepth 100000 in
set_option maxHeartbeats 4000000 in
theorem region7_7_8 (g6 g8 l i n c : Nat) (s : Option Addr) (V : World) (x y Z : List Nat) (t3 t4 t5 t7 t9 t10 t11 t12 t13 t14 t15 t16 t17 t18 t19 t20 t21 t22 t23 t24 t25 t26 t27 t28 t29 t30 t31 t32 t33 t34 t35 t36 t37 t38 t39 t40 t41 t42 : Value) (Q : Exit → Act → World → Prop) (HI : Hid (IsId x ∧ IsId Z)) (HJ : Hid (l ≤ 100 ∧ i ≤ 100)) (K6 : Hid (Bk V g6 22 (idA (zeros 32)))) (K8 : Hid (Bk V g8 22 (idA x))) (HG : Hid (g6 < g8))
    (HC : Hid (∀ W, Below V.heap.size V W → Calls Tryd.prog 48 #[.slice s n c, .int .i64 (l : Int), .int .i64 (2 * (i : Int) + 1)] W fun e w' => e = .returned (.agg (idA y)) ∧ Below W.heap.size W w'))
    (HP : Hid (∀ W, Calls Tryd.prog 65 #[.agg (idA x), .agg (idA y)] W fun e w' => e = .returned (.agg (idA Z)) ∧ Below W.heap.size W w'))
    (HQ : Hid (∀ x34 x35 x36 x37 x38 x39 x40 x41 x42 w', Below g6 V w' → Bk w' g6 22 (idA Z) → Q .normal { tmps := List.toArray (Value.slice s n c :: Value.int IntKind.i64 ((l : Int) + 1) :: Value.int IntKind.i64 (i : Int) :: t3 :: t4 :: t5 :: Value.pointer (some { block := g6, off := 0 }) :: t7 :: Value.pointer (some { block := g8, off := 0 }) :: t9 :: t10 :: t11 :: t12 :: t13 :: t14 :: t15 :: t16 :: t17 :: t18 :: t19 :: t20 :: t21 :: t22 :: t23 :: t24 :: t25 :: t26 :: t27 :: t28 :: t29 :: t30 :: t31 :: t32 :: t33 :: x34 :: x35 :: x36 :: x37 :: x38 :: x39 :: x40 :: x41 :: x42 :: []), defers := [] } w')) (w : World) (hB : Below g6 V w ∧ Bk w g8 22 (idA x)) (hv : Below V.heap.size V w) :
    wpAnyH Tryd.prog .any (#[{ dst := some 34, op := Op.load 22 (Operand.tmp 8), type := 22, pos := "ref.go:19", after := #[], guard := none },
{ dst := some 35, op := Op.move (Operand.tmp 0), type := 69, pos := "ref.go:19", after := #[], guard := none },
{ dst := some 36, op := Op.move (Operand.tmp 1), type := 3, pos := "ref.go:19", after := #[], guard := none },
{ dst := some 37, op := Op.binOp BinOp.sub 3 (Operand.tmp 36) (Operand.const (Value.int IntKind.i64 1)) 3, type := 3, pos := "ref.go:19", after := #[{ on := 2, ground := Ground.data }], guard := none },
{ dst := some 38, op := Op.move (Operand.tmp 2), type := 3, pos := "ref.go:19", after := #[], guard := none },
{ dst := some 39, op := Op.binOp BinOp.mul 3 (Operand.const (Value.int IntKind.i64 2)) (Operand.tmp 38) 3, type := 3, pos := "ref.go:19", after := #[{ on := 4, ground := Ground.data }], guard := none },
{ dst := some 40, op := Op.binOp BinOp.add 3 (Operand.tmp 39) (Operand.const (Value.int IntKind.i64 1)) 3, type := 3, pos := "ref.go:19", after := #[{ on := 5, ground := Ground.data }], guard := none },
{ dst := some 41, op := Op.call { callee := Callee.value (Operand.func 48), args := #[Operand.tmp 35, Operand.tmp 37, Operand.tmp 40], argTypes := #[69, 3, 3] }, type := 22, pos := "ref.go:19", after := #[{ on := 1, ground := Ground.data }, { on := 3, ground := Ground.data }, { on := 6, ground := Ground.data }], guard := none },
{ dst := some 42, op := Op.call { callee := Callee.value (Operand.func 65), args := #[Operand.tmp 34, Operand.tmp 41], argTypes := #[22, 22] }, type := 22, pos := "ref.go:19", after := #[{ on := 0, ground := Ground.data }, { on := 7, ground := Ground.data }, { on := 7, ground := Ground.chain }], guard := none },
{ dst := none, op := Op.store 22 (Operand.tmp 6) (Operand.tmp 42), type := 0, pos := "ref.go:19", after := #[{ on := 8, ground := Ground.data }, { on := 8, ground := Ground.chain }, { on := 0, ground := Ground.phase }, { on := 1, ground := Ground.phase }, { on := 2, ground := Ground.phase }, { on := 3, ground := Ground.phase }, { on := 4, ground := Ground.phase }, { on := 5, ground := Ground.phase }, { on := 6, ground := Ground.phase }, { on := 7, ground := Ground.phase }, { on := 8, ground := Ground.phase }], guard := none }]) (NoPanic Q) (fun w' => Below g6 V w' ∧ Bk w' g8 22 (idA x)) 1 #[true, true, true, true, true, true, true, true, true, false] { tmps := List.toArray (Value.slice s n c :: Value.int IntKind.i64 ((l : Int) + 1) :: Value.int IntKind.i64 (i : Int) :: t3 :: t4 :: t5 :: Value.pointer (some { block := g6, off := 0 }) :: t7 :: Value.pointer (some { block := g8, off := 0 }) :: t9 :: t10 :: t11 :: t12 :: t13 :: t14 :: t15 :: t16 :: t17 :: t18 :: t19 :: t20 :: t21 :: t22 :: t23 :: t24 :: t25 :: t26 :: t27 :: t28 :: t29 :: t30 :: t31 :: t32 :: t33 :: Value.agg (idA x) :: Value.slice s n c :: Value.int IntKind.i64 ((l : Int) + 1) :: Value.int IntKind.i64 (l : Int) :: Value.int IntKind.i64 (i : Int) :: Value.int IntKind.i64 (2 * (i : Int)) :: Value.int IntKind.i64 (2 * (i : Int) + 1) :: Value.agg (idA y) :: Value.agg (idA Z) :: []), defers := [] } w := by
  refine wpAnyH_ready (rs := [9]) (by kernel_rfl) (by simp) ?_
  refine AllReadyH.cons rfl (fun K hK => ?_) ?_
  · have hz0 : (idA Z).size = (idA (zeros 32)).size := by rw [idA_size, idA_size, HI.out.2.1]; rfl
    have hB6 : Below g6 V w := hv.mono (Nat.le_of_lt K6.out.lt)
    have k6 : Bk w g6 22 (idA (zeros 32)) := Bk.below K6.out hv K6.out.lt
    refine step_storeD rfl 22 (.tmp 6) (.tmp 42) rfl g6 0 (idA Z) rfl rfl (by rw [hz0]; exact k6.there _ (Nat.le_refl _)) (by rw [idA_size, HI.out.2.1]; exact r_info) (id_ones Z) ?_
    refine hK.out _ _ ⟨Below.setCells (Nat.le_refl _) _ _ _ hB.1, Bk.farCells hB.2 (Ne.symm (Nat.ne_of_lt HG.out)) _ 0⟩ (fun _ => ?_)
    refine wpAnyH_done (by kernel_rfl) ?_ _
    exact NoPanic.normal (HQ.out _ _ _ _ _ _ _ _ _ _ (Below.setCells (Nat.le_refl _) _ _ _ hB6) (k6.setAll hz0))
  exact AllReadyH.nil

set_option maxRecDepth 100000 in
set_option maxHeartbeats 4000000 in
theorem region7_7 (g6 g8 l i n c : Nat) (s : Option Addr) (V : World) (x y Z : List Nat) (t3 t4 t5 t7 t9 t10 t11 t12 t13 t14 t15 t16 t17 t18 t19 t20 t21 t22 t23 t24 t25 t26 t27 t28 t29 t30 t31 t32 t33 t34 t35 t36 t37 t38 t39 t40 t41 t42 : Value) (Q : Exit → Act → World → Prop) (HI : Hid (IsId x ∧ IsId Z)) (HJ : Hid (l ≤ 100 ∧ i ≤ 100)) (K6 : Hid (Bk V g6 22 (idA (zeros 32)))) (K8 : Hid (Bk V g8 22 (idA x))) (HG : Hid (g6 < g8))
    (HC : Hid (∀ W, Below V.heap.size V W → Calls Tryd.prog 48 #[.slice s n c, .int .i64 (l : Int), .int .i64 (2 * (i : Int) + 1)] W fun e w' => e = .returned (.agg (idA y)) ∧ Below W.heap.size W w'))
    (HP : Hid (∀ W, Calls Tryd.prog 65 #[.agg (idA x), .agg (idA y)] W fun e w' => e = .returned (.agg (idA Z)) ∧ Below W.heap.size W w'))
    (HQ : Hid (∀ x34 x35 x36 x37 x38 x39 x40 x41 x42 w', Below g6 V w' → Bk w' g6 22 (idA Z) → Q .normal { tmps := List.toArray (Value.slice s n c :: Value.int IntKind.i64 ((l : Int) + 1) :: Value.int IntKind.i64 (i : Int) :: t3 :: t4 :: t5 :: Value.pointer (some { block := g6, off := 0 }) :: t7 :: Value.pointer (some { block := g8, off := 0 }) :: t9 :: t10 :: t11 :: t12 :: t13 :: t14 :: t15 :: t16 :: t17 :: t18 :: t19 :: t20 :: t21 :: t22 :: t23 :: t24 :: t25 :: t26 :: t27 :: t28 :: t29 :: t30 :: t31 :: t32 :: t33 :: x34 :: x35 :: x36 :: x37 :: x38 :: x39 :: x40 :: x41 :: x42 :: []), defers := [] } w')) (w : World) (hB : Below g6 V w ∧ Bk w g8 22 (idA x)) (hv : Below V.heap.size V w) :
    wpAnyH Tryd.prog .any (#[{ dst := some 34, op := Op.load 22 (Operand.tmp 8), type := 22, pos := "ref.go:19", after := #[], guard := none },
{ dst := some 35, op := Op.move (Operand.tmp 0), type := 69, pos := "ref.go:19", after := #[], guard := none },
{ dst := some 36, op := Op.move (Operand.tmp 1), type := 3, pos := "ref.go:19", after := #[], guard := none },
{ dst := some 37, op := Op.binOp BinOp.sub 3 (Operand.tmp 36) (Operand.const (Value.int IntKind.i64 1)) 3, type := 3, pos := "ref.go:19", after := #[{ on := 2, ground := Ground.data }], guard := none },
{ dst := some 38, op := Op.move (Operand.tmp 2), type := 3, pos := "ref.go:19", after := #[], guard := none },
{ dst := some 39, op := Op.binOp BinOp.mul 3 (Operand.const (Value.int IntKind.i64 2)) (Operand.tmp 38) 3, type := 3, pos := "ref.go:19", after := #[{ on := 4, ground := Ground.data }], guard := none },
{ dst := some 40, op := Op.binOp BinOp.add 3 (Operand.tmp 39) (Operand.const (Value.int IntKind.i64 1)) 3, type := 3, pos := "ref.go:19", after := #[{ on := 5, ground := Ground.data }], guard := none },
{ dst := some 41, op := Op.call { callee := Callee.value (Operand.func 48), args := #[Operand.tmp 35, Operand.tmp 37, Operand.tmp 40], argTypes := #[69, 3, 3] }, type := 22, pos := "ref.go:19", after := #[{ on := 1, ground := Ground.data }, { on := 3, ground := Ground.data }, { on := 6, ground := Ground.data }], guard := none },
{ dst := some 42, op := Op.call { callee := Callee.value (Operand.func 65), args := #[Operand.tmp 34, Operand.tmp 41], argTypes := #[22, 22] }, type := 22, pos := "ref.go:19", after := #[{ on := 0, ground := Ground.data }, { on := 7, ground := Ground.data }, { on := 7, ground := Ground.chain }], guard := none },
{ dst := none, op := Op.store 22 (Operand.tmp 6) (Operand.tmp 42), type := 0, pos := "ref.go:19", after := #[{ on := 8, ground := Ground.data }, { on := 8, ground := Ground.chain }, { on := 0, ground := Ground.phase }, { on := 1, ground := Ground.phase }, { on := 2, ground := Ground.phase }, { on := 3, ground := Ground.phase }, { on := 4, ground := Ground.phase }, { on := 5, ground := Ground.phase }, { on := 6, ground := Ground.phase }, { on := 7, ground := Ground.phase }, { on := 8, ground := Ground.phase }], guard := none }]) (NoPanic Q) (fun w' => Below g6 V w' ∧ Bk w' g8 22 (idA x)) 2 #[true, true, true, true, true, true, true, true, false, false] { tmps := List.toArray (Value.slice s n c :: Value.int IntKind.i64 ((l : Int) + 1) :: Value.int IntKind.i64 (i : Int) :: t3 :: t4 :: t5 :: Value.pointer (some { block := g6, off := 0 }) :: t7 :: Value.pointer (some { block := g8, off := 0 }) :: t9 :: t10 :: t11 :: t12 :: t13 :: t14 :: t15 :: t16 :: t17 :: t18 :: t19 :: t20 :: t21 :: t22 :: t23 :: t24 :: t25 :: t26 :: t27 :: t28 :: t29 :: t30 :: t31 :: t32 :: t33 :: Value.agg (idA x) :: Value.slice s n c :: Value.int IntKind.i64 ((l : Int) + 1) :: Value.int IntKind.i64 (l : Int) :: Value.int IntKind.i64 (i : Int) :: Value.int IntKind.i64 (2 * (i : Int)) :: Value.int IntKind.i64 (2 * (i : Int) + 1) :: Value.agg (idA y) :: t42 :: []), defers := [] } w := by
  refine wpAnyH_ready (rs := [8]) (by kernel_rfl) (by simp) ?_
  refine AllReadyH.cons rfl (fun K hK => ?_) ?_
  · refine step_callS (by rfl) _ _ (.agg (idA Z)) (HP.out w) (by kernel_rfl) (fun w6 hb6 => ?_)
    simp only [Act.put, List.setIfInBounds_toArray, List.set_cons_zero, List.set_cons_succ]
    refine hK.out _ _ ⟨hB.1.trans (hb6.mono (Nat.le_trans (Nat.le_of_lt K6.out.lt) hv.size)), hB.2.keep hb6⟩ (fun _ => ?_)
    exact region7_7_8 g6 g8 l i n c s V x y Z t3 t4 t5 t7 t9 t10 t11 t12 t13 t14 t15 t16 t17 t18 t19 t20 t21 t22 t23 t24 t25 t26 t27 t28 t29 t30 t31 t32 t33 t34 t35 t36 t37 t38 t39 t40 t41 t42 Q HI HJ K6 K8 HG HC HP HQ _ ⟨hB.1.trans (hb6.mono (Nat.le_trans (Nat.le_of_lt K6.out.lt) hv.size)), hB.2.keep hb6⟩ (hv.trans (hb6.mono hv.size))
  exact AllReadyH.nil

set_option maxRecDepth 100000 in
set_option maxHeartbeats 4000000 in
theorem region7_o (g6 g8 l i n c : Nat) (s : Option Addr) (V : World) (x y Z : List Nat) (t3 t4 t5 t7 t9 t10 t11 t12 t13 t14 t15 t16 t17 t18 t19 t20 t21 t22 t23 t24 t25 t26 t27 t28 t29 t30 t31 t32 t33 t34 t35 t36 t37 t38 t39 t40 t41 t42 : Value) (Q : Exit → Act → World → Prop) (HI : Hid (IsId x ∧ IsId Z)) (HJ : Hid (l ≤ 100 ∧ i ≤ 100)) (K6 : Hid (Bk V g6 22 (idA (zeros 32)))) (K8 : Hid (Bk V g8 22 (idA x))) (HG : Hid (g6 < g8))
    (HC : Hid (∀ W, Below V.heap.size V W → Calls Tryd.prog 48 #[.slice s n c, .int .i64 (l : Int), .int .i64 (2 * (i : Int) + 1)] W fun e w' => e = .returned (.agg (idA y)) ∧ Below W.heap.size W w'))
    (HP : Hid (∀ W, Calls Tryd.prog 65 #[.agg (idA x), .agg (idA y)] W fun e w' => e = .returned (.agg (idA Z)) ∧ Below W.heap.size W w'))
    (HQ : Hid (∀ x34 x35 x36 x37 x38 x39 x40 x41 x42 w', Below g6 V w' → Bk w' g6 22 (idA Z) → Q .normal { tmps := List.toArray (Value.slice s n c :: Value.int IntKind.i64 ((l : Int) + 1) :: Value.int IntKind.i64 (i : Int) :: t3 :: t4 :: t5 :: Value.pointer (some { block := g6, off := 0 }) :: t7 :: Value.pointer (some { block := g8, off := 0 }) :: t9 :: t10 :: t11 :: t12 :: t13 :: t14 :: t15 :: t16 :: t17 :: t18 :: t19 :: t20 :: t21 :: t22 :: t23 :: t24 :: t25 :: t26 :: t27 :: t28 :: t29 :: t30 :: t31 :: t32 :: t33 :: x34 :: x35 :: x36 :: x37 :: x38 :: x39 :: x40 :: x41 :: x42 :: []), defers := [] } w')) (w : World) (hB : Below g6 V w ∧ Bk w g8 22 (idA x)) (hv : Below V.heap.size V w) :
    wpAnyH Tryd.prog .any (#[{ dst := some 34, op := Op.load 22 (Operand.tmp 8), type := 22, pos := "ref.go:19", after := #[], guard := none },
{ dst := some 35, op := Op.move (Operand.tmp 0), type := 69, pos := "ref.go:19", after := #[], guard := none },
{ dst := some 36, op := Op.move (Operand.tmp 1), type := 3, pos := "ref.go:19", after := #[], guard := none },
{ dst := some 37, op := Op.binOp BinOp.sub 3 (Operand.tmp 36) (Operand.const (Value.int IntKind.i64 1)) 3, type := 3, pos := "ref.go:19", after := #[{ on := 2, ground := Ground.data }], guard := none },
{ dst := some 38, op := Op.move (Operand.tmp 2), type := 3, pos := "ref.go:19", after := #[], guard := none },
{ dst := some 39, op := Op.binOp BinOp.mul 3 (Operand.const (Value.int IntKind.i64 2)) (Operand.tmp 38) 3, type := 3, pos := "ref.go:19", after := #[{ on := 4, ground := Ground.data }], guard := none },
{ dst := some 40, op := Op.binOp BinOp.add 3 (Operand.tmp 39) (Operand.const (Value.int IntKind.i64 1)) 3, type := 3, pos := "ref.go:19", after := #[{ on := 5, ground := Ground.data }], guard := none },
{ dst := some 41, op := Op.call { callee := Callee.value (Operand.func 48), args := #[Operand.tmp 35, Operand.tmp 37, Operand.tmp 40], argTypes := #[69, 3, 3] }, type := 22, pos := "ref.go:19", after := #[{ on := 1, ground := Ground.data }, { on := 3, ground := Ground.data }, { on := 6, ground := Ground.data }], guard := none },
{ dst := some 42, op := Op.call { callee := Callee.value (Operand.func 65), args := #[Operand.tmp 34, Operand.tmp 41], argTypes := #[22, 22] }, type := 22, pos := "ref.go:19", after := #[{ on := 0, ground := Ground.data }, { on := 7, ground := Ground.data }, { on := 7, ground := Ground.chain }], guard := none },
{ dst := none, op := Op.store 22 (Operand.tmp 6) (Operand.tmp 42), type := 0, pos := "ref.go:19", after := #[{ on := 8, ground := Ground.data }, { on := 8, ground := Ground.chain }, { on := 0, ground := Ground.phase }, { on := 1, ground := Ground.phase }, { on := 2, ground := Ground.phase }, { on := 3, ground := Ground.phase }, { on := 4, ground := Ground.phase }, { on := 5, ground := Ground.phase }, { on := 6, ground := Ground.phase }, { on := 7, ground := Ground.phase }, { on := 8, ground := Ground.phase }], guard := none }]) (NoPanic Q) (fun w' => Below g6 V w' ∧ Bk w' g8 22 (idA x)) 3 #[true, true, true, true, true, true, true, false, false, false] { tmps := List.toArray (Value.slice s n c :: Value.int IntKind.i64 ((l : Int) + 1) :: Value.int IntKind.i64 (i : Int) :: t3 :: t4 :: t5 :: Value.pointer (some { block := g6, off := 0 }) :: t7 :: Value.pointer (some { block := g8, off := 0 }) :: t9 :: t10 :: t11 :: t12 :: t13 :: t14 :: t15 :: t16 :: t17 :: t18 :: t19 :: t20 :: t21 :: t22 :: t23 :: t24 :: t25 :: t26 :: t27 :: t28 :: t29 :: t30 :: t31 :: t32 :: t33 :: Value.agg (idA x) :: Value.slice s n c :: Value.int IntKind.i64 ((l : Int) + 1) :: Value.int IntKind.i64 (l : Int) :: Value.int IntKind.i64 (i : Int) :: Value.int IntKind.i64 (2 * (i : Int)) :: Value.int IntKind.i64 (2 * (i : Int) + 1) :: t41 :: t42 :: []), defers := [] } w := by
  refine wpAnyH_ready (rs := [7]) (by kernel_rfl) (by simp) ?_
  refine AllReadyH.cons rfl (fun K hK => ?_) ?_
  · refine step_callS (by rfl) _ _ (.agg (idA y)) (HC.out w hv) (by kernel_rfl) (fun w6 hb6 => ?_)
    simp only [Act.put, List.setIfInBounds_toArray, List.set_cons_zero, List.set_cons_succ]
    refine hK.out _ _ ⟨hB.1.trans (hb6.mono (Nat.le_trans (Nat.le_of_lt K6.out.lt) hv.size)), hB.2.keep hb6⟩ (fun _ => ?_)
    exact region7_7 g6 g8 l i n c s V x y Z t3 t4 t5 t7 t9 t10 t11 t12 t13 t14 t15 t16 t17 t18 t19 t20 t21 t22 t23 t24 t25 t26 t27 t28 t29 t30 t31 t32 t33 t34 t35 t36 t37 t38 t39 t40 t41 t42 Q HI HJ K6 K8 HG HC HP HQ _ ⟨hB.1.trans (hb6.mono (Nat.le_trans (Nat.le_of_lt K6.out.lt) hv.size)), hB.2.keep hb6⟩ (hv.trans (hb6.mono hv.size))
  exact AllReadyH.nil

set_option maxRecDepth 100000 in
set_option maxHeartbeats 4000000 in
theorem region7 (g6 g8 l i n c : Nat) (s : Option Addr) (V : World) (x y Z : List Nat) (t3 t4 t5 t7 t9 t10 t11 t12 t13 t14 t15 t16 t17 t18 t19 t20 t21 t22 t23 t24 t25 t26 t27 t28 t29 t30 t31 t32 t33 t34 t35 t36 t37 t38 t39 t40 t41 t42 : Value) (Q : Exit → Act → World → Prop) (HI : Hid (IsId x ∧ IsId Z)) (HJ : Hid (l ≤ 100 ∧ i ≤ 100)) (K6 : Hid (Bk V g6 22 (idA (zeros 32)))) (K8 : Hid (Bk V g8 22 (idA x))) (HG : Hid (g6 < g8))
    (HC : Hid (∀ W, Below V.heap.size V W → Calls Tryd.prog 48 #[.slice s n c, .int .i64 (l : Int), .int .i64 (2 * (i : Int) + 1)] W fun e w' => e = .returned (.agg (idA y)) ∧ Below W.heap.size W w'))
    (HP : Hid (∀ W, Calls Tryd.prog 65 #[.agg (idA x), .agg (idA y)] W fun e w' => e = .returned (.agg (idA Z)) ∧ Below W.heap.size W w'))
    (HQ : Hid (∀ x34 x35 x36 x37 x38 x39 x40 x41 x42 w', Below g6 V w' → Bk w' g6 22 (idA Z) → Q .normal { tmps := List.toArray (Value.slice s n c :: Value.int IntKind.i64 ((l : Int) + 1) :: Value.int IntKind.i64 (i : Int) :: t3 :: t4 :: t5 :: Value.pointer (some { block := g6, off := 0 }) :: t7 :: Value.pointer (some { block := g8, off := 0 }) :: t9 :: t10 :: t11 :: t12 :: t13 :: t14 :: t15 :: t16 :: t17 :: t18 :: t19 :: t20 :: t21 :: t22 :: t23 :: t24 :: t25 :: t26 :: t27 :: t28 :: t29 :: t30 :: t31 :: t32 :: t33 :: x34 :: x35 :: x36 :: x37 :: x38 :: x39 :: x40 :: x41 :: x42 :: []), defers := [] } w')) :
    Code.wp Tryd.prog (Code.region 7 (#[{ dst := some 34, op := Op.load 22 (Operand.tmp 8), type := 22, pos := "ref.go:19", after := #[], guard := none },
{ dst := some 35, op := Op.move (Operand.tmp 0), type := 69, pos := "ref.go:19", after := #[], guard := none },
{ dst := some 36, op := Op.move (Operand.tmp 1), type := 3, pos := "ref.go:19", after := #[], guard := none },
{ dst := some 37, op := Op.binOp BinOp.sub 3 (Operand.tmp 36) (Operand.const (Value.int IntKind.i64 1)) 3, type := 3, pos := "ref.go:19", after := #[{ on := 2, ground := Ground.data }], guard := none },
{ dst := some 38, op := Op.move (Operand.tmp 2), type := 3, pos := "ref.go:19", after := #[], guard := none },
{ dst := some 39, op := Op.binOp BinOp.mul 3 (Operand.const (Value.int IntKind.i64 2)) (Operand.tmp 38) 3, type := 3, pos := "ref.go:19", after := #[{ on := 4, ground := Ground.data }], guard := none },
{ dst := some 40, op := Op.binOp BinOp.add 3 (Operand.tmp 39) (Operand.const (Value.int IntKind.i64 1)) 3, type := 3, pos := "ref.go:19", after := #[{ on := 5, ground := Ground.data }], guard := none },
{ dst := some 41, op := Op.call { callee := Callee.value (Operand.func 48), args := #[Operand.tmp 35, Operand.tmp 37, Operand.tmp 40], argTypes := #[69, 3, 3] }, type := 22, pos := "ref.go:19", after := #[{ on := 1, ground := Ground.data }, { on := 3, ground := Ground.data }, { on := 6, ground := Ground.data }], guard := none },
{ dst := some 42, op := Op.call { callee := Callee.value (Operand.func 65), args := #[Operand.tmp 34, Operand.tmp 41], argTypes := #[22, 22] }, type := 22, pos := "ref.go:19", after := #[{ on := 0, ground := Ground.data }, { on := 7, ground := Ground.data }, { on := 7, ground := Ground.chain }], guard := none },
{ dst := none, op := Op.store 22 (Operand.tmp 6) (Operand.tmp 42), type := 0, pos := "ref.go:19", after := #[{ on := 8, ground := Ground.data }, { on := 8, ground := Ground.chain }, { on := 0, ground := Ground.phase }, { on := 1, ground := Ground.phase }, { on := 2, ground := Ground.phase }, { on := 3, ground := Ground.phase }, { on := 4, ground := Ground.phase }, { on := 5, ground := Ground.phase }, { on := 6, ground := Ground.phase }, { on := 7, ground := Ground.phase }, { on := 8, ground := Ground.phase }], guard := none }]) true) Q { tmps := List.toArray (Value.slice s n c :: Value.int IntKind.i64 ((l : Int) + 1) :: Value.int IntKind.i64 (i : Int) :: t3 :: t4 :: t5 :: Value.pointer (some { block := g6, off := 0 }) :: t7 :: Value.pointer (some { block := g8, off := 0 }) :: t9 :: t10 :: t11 :: t12 :: t13 :: t14 :: t15 :: t16 :: t17 :: t18 :: t19 :: t20 :: t21 :: t22 :: t23 :: t24 :: t25 :: t26 :: t27 :: t28 :: t29 :: t30 :: t31 :: t32 :: t33 :: t34 :: t35 :: t36 :: t37 :: t38 :: t39 :: t40 :: t41 :: t42 :: []), defers := [] } V := by
  refine wp_region_noPanic ?_
  refine wp_region_held_drew (S := (fun w' => Below g6 V w' ∧ Bk w' g8 22 (idA x))) (by kernel_rfl) ⟨(Below.refl _ _).drew, K8.out.drew⟩ (fun hHeld => ?_)
  have hB : Below g6 V V.drew ∧ Bk V.drew g8 22 (idA x) := ⟨(Below.refl _ _).drew, K8.out.drew⟩
  show wpAnyH _ _ _ _ _ 10 _ _ _
  refine wpAnyH_take (i := 0) (oi := { dst := some 34, op := Op.load 22 (Operand.tmp 8), type := 22, pos := "ref.go:19", after := #[], guard := none }) (v := Value.agg (idA x)) rfl (by kernel_rfl) (by kernel_rfl) (by kernel_rfl) (fun _ _ _ h => h) ?_ hHeld ?_
  · (exact yieldsIf_load_mid (by rfl) 22 (.tmp 8) rfl g8 0 rfl (x.map byteV) _ (fun w h => h.2.range0) Tryd.underlying22 rfl (by rw [List.length_map, HI.out.1.1]; exact r_info))
  simp only [Act.put, List.setIfInBounds_toArray, List.set_cons_zero, List.set_cons_succ]
  refine wpAnyH_take (i := 1) (oi := { dst := some 35, op := Op.move (Operand.tmp 0), type := 69, pos := "ref.go:19", after := #[], guard := none }) (v := Value.slice s n c) rfl (by kernel_rfl) (by kernel_rfl) (by kernel_rfl) (fun _ _ _ h => h) ?_ hHeld ?_
  · (refine Or.inl ⟨by rfl, ?_⟩; intro w hSw; have j0 := HJ.out.1; have j1 := HJ.out.2; go_simp)
  simp only [Act.put, List.setIfInBounds_toArray, List.set_cons_zero, List.set_cons_succ]
  refine wpAnyH_take (i := 2) (oi := { dst := some 36, op := Op.move (Operand.tmp 1), type := 3, pos := "ref.go:19", after := #[], guard := none }) (v := Value.int IntKind.i64 ((l : Int) + 1)) rfl (by kernel_rfl) (by kernel_rfl) (by kernel_rfl) (fun _ _ _ h => h) ?_ hHeld ?_
  · (refine Or.inl ⟨by rfl, ?_⟩; intro w hSw; have j0 := HJ.out.1; have j1 := HJ.out.2; go_simp)
  simp only [Act.put, List.setIfInBounds_toArray, List.set_cons_zero, List.set_cons_succ]
  refine wpAnyH_take (i := 3) (oi := { dst := some 37, op := Op.binOp BinOp.sub 3 (Operand.tmp 36) (Operand.const (Value.int IntKind.i64 1)) 3, type := 3, pos := "ref.go:19", after := #[{ on := 2, ground := Ground.data }], guard := none }) (v := Value.int IntKind.i64 (l : Int)) rfl (by kernel_rfl) (by kernel_rfl) (by kernel_rfl) (fun _ _ _ h => h) ?_ hHeld ?_
  · (refine Or.inl ⟨by rfl, ?_⟩; intro w hSw; have j0 := HJ.out.1; have j1 := HJ.out.2; go_simp; exact IntWalk.i64_in _ (by omega))
  simp only [Act.put, List.setIfInBounds_toArray, List.set_cons_zero, List.set_cons_succ]
  refine wpAnyH_take (i := 4) (oi := { dst := some 38, op := Op.move (Operand.tmp 2), type := 3, pos := "ref.go:19", after := #[], guard := none }) (v := Value.int IntKind.i64 (i : Int)) rfl (by kernel_rfl) (by kernel_rfl) (by kernel_rfl) (fun _ _ _ h => h) ?_ hHeld ?_
  · (refine Or.inl ⟨by rfl, ?_⟩; intro w hSw; have j0 := HJ.out.1; have j1 := HJ.out.2; go_simp)
  simp only [Act.put, List.setIfInBounds_toArray, List.set_cons_zero, List.set_cons_succ]
  refine wpAnyH_take (i := 5) (oi := { dst := some 39, op := Op.binOp BinOp.mul 3 (Operand.const (Value.int IntKind.i64 2)) (Operand.tmp 38) 3, type := 3, pos := "ref.go:19", after := #[{ on := 4, ground := Ground.data }], guard := none }) (v := Value.int IntKind.i64 (2 * (i : Int))) rfl (by kernel_rfl) (by kernel_rfl) (by kernel_rfl) (fun _ _ _ h => h) ?_ hHeld ?_
  · (refine Or.inl ⟨by rfl, ?_⟩; intro w hSw; have j0 := HJ.out.1; have j1 := HJ.out.2; go_simp; exact IntWalk.i64_in _ (by omega))
  simp only [Act.put, List.setIfInBounds_toArray, List.set_cons_zero, List.set_cons_succ]
  refine wpAnyH_take (i := 6) (oi := { dst := some 40, op := Op.binOp BinOp.add 3 (Operand.tmp 39) (Operand.const (Value.int IntKind.i64 1)) 3, type := 3, pos := "ref.go:19", after := #[{ on := 5, ground := Ground.data }], guard := none }) (v := Value.int IntKind.i64 (2 * (i : Int) + 1)) rfl (by kernel_rfl) (by kernel_rfl) (by kernel_rfl) (fun _ _ _ h => h) ?_ hHeld ?_
  · (refine Or.inl ⟨by rfl, ?_⟩; intro w hSw; have j0 := HJ.out.1; have j1 := HJ.out.2; go_simp; exact IntWalk.i64_in _ (by omega))
  simp only [Act.put, List.setIfInBounds_toArray, List.set_cons_zero, List.set_cons_succ]
  exact region7_o g6 g8 l i n c s V x y Z t3 t4 t5 t7 t9 t10 t11 t12 t13 t14 t15 t16 t17 t18 t19 t20 t21 t22 t23 t24 t25 t26 t27 t28 t29 t30 t31 t32 t33 t34 t35 t36 t37 t38 t39 t40 t41 t42 Q HI HJ K6 K8 HG HC HP HQ _ hB ((Below.refl _ _).drew)

theorem at_step (L : List (List Nat)) (l i : Nat) (x y : List Nat) (hx : x = nthI (levV L l) (2 * i)) (hy : y = nthI (levV L l) (2 * i + 1)) (h : i < cntN L.length (l + 1)) : nthI (levV L (l + 1)) i = if 2 * i + 1 = cntN L.length l then H2 x x else H2 x y := by
  rw [levV_at L l i h, ← hx]
  have h2 : i < (cntN L.length l + 1) / 2 := h
  by_cases e : 2 * i + 1 = cntN L.length l
  · rw [if_pos e]
    have : besideN (2 * i) (cntN L.length l) = 2 * i := by unfold besideN; rw [if_neg (by omega)]; omega
    rw [this, ← hx]
  · rw [if_neg e, bes_even _ _ (by omega), ← hy]
set_option maxRecDepth 100000 in
set_option maxHeartbeats 4000000 in
theorem at_any (L : List (List Nat)) (hn : L.length ≤ 100) : ∀ (l i : Nat) (v : Value) (w : World), l ≤ 50 → IdsV w w.heap.size v L → i < cntN L.length l →
    Calls Tryd.prog 48 #[v, .int .i64 (l : Int), .int .i64 (i : Int)] w fun e w' => e = .returned (.agg (idA (nthI (levV L l) i))) ∧ Below w.heap.size w w' := by
  intro l
  induction l with
  | zero =>
    intro i v w _ hv hi
    have hi : i < L.length := hi
    obtain ⟨s, c, rfl⟩ := hv.slice
    obtain ⟨b, o, rfl, hb, _, hr⟩ := hv.at_ (fun h => by rw [h] at hi; simp at hi)
    have hrx := hr i _ (nthI_get hi)
    have HX := Lib.hid (nthI_id hv.ids hi)
    have HE : Hid (nthI (levV L 0) i = nthI L i) := rfl
    rw [HE.out]
    obtain ⟨n, hnn⟩ : ∃ n, n = L.length := ⟨_, rfl⟩
    rw [← hnn] at hi ⊢
    have hin : (i : Int) < (n : Int) := by omega
    generalize nthI L i = x at *
    have hxl := HX.out.1
    have hrx2 := World.rangeAt_alloc hrx (.cells (idA (zeros 32)) 22)
    have N0 := Bk.new w 22 (idA (zeros 32))
    clear hv hr hrx HE
    go_enter Tryd.func48, Tryd.ntmps48
    go_wp2_with (first
      | (refine wpList_load_mid rfl 22 (.tmp 13) rfl b (o + i * 32) rfl (idA x).toList _ hrx2 Tryd.underlying22 rfl (by rw [Array.length_toList, idA_size, hxl]; exact r_info) ?_)
      | (refine wpList_store_mid rfl 22 (.tmp 6) (.tmp 14) rfl w.heap.size 0 (idA x) rfl rfl (by rw [idA_size, hxl]; exact N0.there 32 (by rw [idA_size]; decide)) (by rw [idA_size, hxl]; exact r_info) (id_ones _) ?_))
    exact r_ret hxl rfl rfl rfl (N0.setAll (by rw [idA_size, idA_size, hxl]; rfl)) (Below.setCells (Nat.le_refl _) _ _ _ ((Below.refl _ _).alloc (Nat.le_refl _) _))
  | succ l ih =>
    intro i v w hl hv hi
    have h2 : i < (cntN L.length l + 1) / 2 := hi
    have hnp : 0 < L.length := by
      rcases Nat.eq_zero_or_pos L.length with h | h
      · have h0 : ∀ j, cntN 0 j = 0 := fun j => by
          induction j with
          | zero => rfl
          | succ j ih => show (cntN 0 j + 1) / 2 = 0; omega
        rw [h, h0 l] at h2
        omega
      · exact h
    have hcl := (cntN_le L.length l hnp).1
    have HIX := Lib.hid (ih (2 * i) v w (by omega) hv (by omega))
    have HIY : Hid (2 * i + 1 ≠ cntN L.length l → ∀ W, Below w.heap.size w W → Calls Tryd.prog 48 #[v, .int .i64 (l : Int), .int .i64 (2 * (i : Int) + 1)] W fun e w' => e = .returned (.agg (idA (nthI (levV L l) (2 * i + 1)))) ∧ Below W.heap.size W w') := fun hne W hW => by
      have h := ih (2 * i + 1) v W (by omega) ((hv.keep hW (Nat.le_refl _)).mono hW.size) (by omega)
      have e : ((2 * i + 1 : Nat) : Int) = 2 * (i : Int) + 1 := by omega
      rw [e] at h
      exact h
    have HIX2 : Hid (∀ W, Below w.heap.size w W → Calls Tryd.prog 48 #[v, .int .i64 (l : Int), .int .i64 (2 * (i : Int))] W fun e w' => e = .returned (.agg (idA (nthI (levV L l) (2 * i)))) ∧ Below W.heap.size W w') := fun W hW => by
      have h := ih (2 * i) v W (by omega) ((hv.keep hW (Nat.le_refl _)).mono hW.size) (by omega)
      have e : ((2 * i : Nat) : Int) = 2 * (i : Int) := by omega
      rw [e] at h
      exact h
    have HST := Lib.hid (at_step L l i _ _ rfl rfl hi)
    have HXI : Hid (IsId (nthI (levV L l) (2 * i))) := nthI_id (levV_ids L hv.ids l) (by rw [levV_length]; omega)
    have HYI : Hid (2 * i + 1 ≠ cntN L.length l → IsId (nthI (levV L l) (2 * i + 1))) := fun hne => nthI_id (levV_ids L hv.ids l) (by rw [levV_length]; omega)
    have HCN := Lib.hid (fun W => count_any L.length l W hn (by omega))
    rw [HST.out]
    generalize nthI (levV L l) (2 * i) = x at *
    generalize nthI (levV L l) (2 * i + 1) = y at *
    obtain ⟨s, c, rfl⟩ := hv.slice
    obtain ⟨n, hnn⟩ : ∃ n, n = L.length := ⟨_, rfl⟩
    rw [← hnn] at hcl h2 hn HIX2 HIY HCN HYI ⊢
    obtain ⟨cn, hcn⟩ : ∃ cn, cn = cntN n l := ⟨_, rfl⟩
    rw [← hcn] at hcl h2 HIY HCN HYI ⊢
    obtain ⟨z, hz⟩ : ∃ z, z = if 2 * i + 1 = cn then H2 x x else H2 x y := ⟨_, rfl⟩
    rw [← hz]
    have HZE := Lib.hid hz
    clear hz
    have hxl := HXI.out.1
    have ecast : ((l + 1 : Nat) : Int) = (l : Int) + 1 := by omega
    rw [ecast]
    have hl0 : decide ((l : Int) + 1 = 0) = false := decide_eq_false (by omega)
    clear ecast hcn hnn hv HIX HST ih hi
    go_enter Tryd.func48, Tryd.ntmps48
    go_wp2_with fail
    have hA : Below w.heap.size w (w.alloc (.cells (idA (zeros 32)) 22)) := (Below.refl _ _).alloc (Nat.le_refl _) _
    have K6 : Bk (w.alloc (.cells (idA (zeros 32)) 22)) w.heap.size 22 (idA (zeros 32)) := Bk.new _ _ _
    refine (HCN.out _).mono ?_
    rintro e w1 ⟨rfl, e1⟩
    subst e1
    have HIX3 := Lib.hid (HIX2.out _ hA)
    go_wp2_with fail
    refine HIX3.out.mono ?_
    rintro e w2 ⟨rfl, hb⟩
    have K6 := K6.keep hb
    have hW2 := hA.trans (hb.mono hA.size)
    have N0 := Bk.new w2 22 (idA (zeros 32))
    have z6 := K6.lt
    clear hb HIX3 hA HIX2
    go_upto_region 5 with (refine wpList_store_mid rfl 22 (.tmp 8) (.tmp 25) rfl w2.heap.size 0 (idA x) rfl rfl (by rw [idA_size, hxl]; exact N0.there 32 (by rw [idA_size]; decide)) (by rw [idA_size, hxl]; exact r_info) (id_ones _) ?_)
    have hA3 : Below w2.heap.size w2 ((w2.alloc (.cells (idA (zeros 32)) 22)).setCells w2.heap.size 0 (idA x).toList) := Below.setCells (Nat.le_refl _) _ _ _ ((Below.refl _ _).alloc (Nat.le_refl _) _)
    refine wp_any (fun V => Below w.heap.size w V ∧ Bk V w.heap.size 22 (idA (zeros 32)) ∧ Bk V w2.heap.size 22 (idA x)) ⟨hW2.trans (hA3.mono hW2.size), K6.keep hA3, N0.setAll (by rw [idA_size, idA_size, hxl]; rfl)⟩ ?_
    generalize w2.heap.size = g8 at *
    clear N0 hA3 hW2 K6
    rintro V ⟨hW, K6, K8⟩
    have HW := Lib.hid hW
    generalize hg6 : w.heap.size = g6 at *
    have hsz : g6 ≤ V.heap.size := by rw [← hg6]; exact hW.size
    clear hW
    by_cases hc : 2 * i + 1 = cn
    · have hzz : z = H2 x x := by rw [HZE.out, if_pos hc]
      have hd : decide (2 * (i : Int) + 1 = (cn : Int)) = true := decide_eq_true (by omega)
      have hd' : decide (2 * i + 1 = cn) = true := decide_eq_true hc
      have hbe : (2 * (i : Int) + 1 == (cn : Int)) = true := by simp; omega
      have HPX := Lib.hid (rpair_any x x V HXI.out HXI.out)
      have HZ := Lib.hid (H2_id x x)
      rw [← hzz] at HPX HZ
      clear hzz HZE
      have hzl := HZ.out.1
      clear hc HIY HYI
      go_wp2_with (refine wpList_load_mid rfl 22 (.tmp 8) rfl g8 0 rfl (idA x).toList _ K8.range0 Tryd.underlying22 rfl (by rw [Array.length_toList, idA_size, hxl]; exact r_info) ?_)
      refine HPX.out.mono ?_
      rintro e w5 ⟨rfl, hb5⟩
      have K6b := K6.keep hb5
      have hW5 := HW.out.trans (hb5.mono hsz)
      clear hb5 HPX K6 K8
      go_wp2_with (refine wpList_store_mid rfl 22 (.tmp 6) (.tmp 33) rfl g6 0 (idA z) rfl rfl (by rw [idA_size, hzl]; exact K6b.there 32 (by rw [idA_size]; decide)) (by rw [idA_size, hzl]; exact r_info) (id_ones _) ?_)
      exact r_ret hzl rfl rfl rfl (K6b.setAll (by rw [idA_size, idA_size, hzl]; rfl)) (by rw [hg6]; exact Below.setCells (Nat.le_refl _) _ _ _ hW5)
    · have hzz : z = H2 x y := by rw [HZE.out, if_neg hc]
      have hd : decide (2 * (i : Int) + 1 = (cn : Int)) = false := decide_eq_false (by omega)
      have hd' : decide (2 * i + 1 = cn) = false := decide_eq_false hc
      have hbe : (2 * (i : Int) + 1 == (cn : Int)) = false := by simp; omega
      have HY := Lib.hid (HYI.out hc)
      have HCY := HIY.out hc
      have HC7 : Hid (∀ W, Below V.heap.size V W → Calls Tryd.prog 48 #[.slice s n c, .int .i64 (l : Int), .int .i64 (2 * (i : Int) + 1)] W fun e w' => e = .returned (.agg (idA y)) ∧ Below W.heap.size W w') := fun W h => HCY W (HW.out.trans (h.mono hsz))
      have HP7 : Hid (∀ W, Calls Tryd.prog 65 #[.agg (idA x), .agg (idA y)] W fun e w' => e = .returned (.agg (idA (H2 x y))) ∧ Below W.heap.size W w') := fun W => rpair_any x y W HXI.out HY.out
      have HZ : Hid (IsId x ∧ IsId (H2 x y)) := ⟨HXI.out, H2_id x y⟩
      rw [← hzz] at HP7 HZ
      clear hzz HZE
      clear hc HIY HYI HCY
      go_upto_region 7 with fail
      refine region7 g6 g8 l i n c s V x y z _ _ _ _ _ _ _ _ _ _ _ _ _ _ _ _ _ _ _ _ _ _ _ _ _ _ _ _ _ _ _ _ _ _ _ _ _ _ _ HZ ⟨by omega, by omega⟩ K6 K8 z6 HC7 HP7 (fun x34 x35 x36 x37 x38 x39 x40 x41 x42 w' hb hZ => ?_)
      go_wp2_with fail
      exact r_ret HZ.out.2.1 rfl rfl rfl hZ (by rw [hg6]; exact HW.out.trans hb)
end Go.Proofs.YtmjiadfdmchhaaaDoor.merkleRoots
namespace Go.Proofs.YtmjiadfdmchhaaaDoor.merkleRoots
open Go.ChangeShapes Go.WideShapes Go.ChangeAt Go.RowKit
set_option maxRecDepth 100000
set_option linter.unusedVariables false
set_option linter.unusedSimpArgs false
theorem r_eql (x y : List Nat) (hx : x.length = 32) (hy : y.length = 32) (w : World) : (Op.equalIn 10000 22 (.agg (idA x)) (.agg (idA y))).run Tryd.prog w = .ok (decide (x = y)) w := by
  have h := run_equalIn_arr (P := Tryd.prog) w 9998 22 5 32 .u8 (idA x) (idA y) (fun i => ((x.getD i 0 : Nat) : Int)) (fun i => ((y.getD i 0 : Nat) : Int)) (by kernel_rfl) (by kernel_rfl) (by kernel_rfl)
    (fun i hi => ⟨idA_get x i (by omega), idA_get y i (by omega)⟩)
  rw [h]
  congr 1
  by_cases e : x = y
  · subst e
    simp
  · rw [decide_eq_false e, Bool.eq_false_iff]
    intro hq
    apply e
    apply List.ext_getElem (by omega)
    intro i h1 h2
    rw [List.all_eq_true] at hq
    have h3 := hq i (by simp; omega)
    have h4 : ((x.getD i 0 : Nat) : Int) = ((y.getD i 0 : Nat) : Int) := by simpa using h3
    have h5 : x.getD i 0 = y.getD i 0 := by omega
    rw [List.getD, List.getD, List.getElem?_eq_getElem h1, List.getElem?_eq_getElem h2] at h5
    exact h5
/-- Are two of a pair the same? -/

theorem cnt_top (n t : Nat) (h : ∀ l, l < t → 1 < cntN n l) : cntN n t + t ≤ n ∨ t = 0 := by
  induction t with
  | zero => exact .inr rfl
  | succ t ih =>
    left
    have h1 := h t (by omega)
    show (cntN n t + 1) / 2 + (t + 1) ≤ n
    rcases ih (fun l hl => h l (by omega)) with h2 | h2
    · omega
    · subst h2
      have : cntN n 0 = n := rfl
      omega
/-- Of the first so many pairs one has two that are the same. -/
def dubP (M : List (List Nat)) (j : Nat) : Bool := (List.range j).any fun t => decide (nthI M (2 * t) = nthI M (2 * t + 1))
theorem dubP_succ (M : List (List Nat)) (j : Nat) : dubP M (j + 1) = (dubP M j || decide (nthI M (2 * j) = nthI M (2 * j + 1))) := by
  unfold dubP
  rw [List.range_succ, List.any_append]
  simp
theorem dubP_all (M : List (List Nat)) : dubP M (M.length / 2) = doubV M := rfl
set_option maxRecDepth 100000 in
set_option maxHeartbeats 8000000 in
theorem rroot_any (v : Value) (L : List (List Nat)) (w : World) (hv : IdsV w w.heap.size v L) (hn : L.length ≤ 40) :
    Calls Tryd.prog 28 #[v] w fun e w' => e = .returned (.tuple #[.agg (idA (rootV L).1), .bool (rootV L).2]) ∧ Below w.heap.size w w' := by
  have HID := Lib.hid hv.ids
  obtain ⟨s, c, rfl⟩ := hv.slice
  by_cases h0 : L.length = 0
  · have e : rootV L = (zeros 32, false) := by unfold rootV; rw [if_pos h0]
    rw [e, h0]
    clear hv e HID
    go_enter Tryd.func28, Tryd.ntmps28
    have N0 := Bk.new w 22 (idA (zeros 32))
    go_wp2_with (refine wpList_store_mid rfl 22 (.tmp 2) (.tmp 12) rfl w.heap.size 0 (idA (zeros 32)) rfl rfl (N0.there 32 (by rw [idA_size]; decide)) r_info (id_ones _) ?_)
    exact r_ret2 (g := w.heap.size) rfl rfl rfl rfl rfl (N0.setAll rfl) (Below.setCells (Nat.le_refl _) _ _ _ ((Below.refl _ _).alloc (Nat.le_refl _) _))
  · have HFIN : Hid (∀ t, (∀ l, l < t → 1 < cntN L.length l) → ¬ 1 < cntN L.length t → (nthI (levV L t) 0, twV L t) = rootV L ∧ IsId (nthI (levV L t) 0) ∧ 0 < cntN L.length t) := fun t h1 h2 => by
      have h3 := (cntN_le L.length t (by omega)).2
      refine ⟨?_, nthI_id (levV_ids L HID.out t) (by rw [levV_length]; exact h3), h3⟩
      unfold rootV
      rw [if_neg h0, root_lev L t h1, rootW_one _ _ (by rw [levV_length]; exact h2)]
    have HCN := Lib.hid (fun j (hj : j ≤ 100) W => count_any L.length j W (by omega) hj)
    have HAT : Hid (∀ W, Below w.heap.size w W → ∀ l i, l ≤ 50 → i < cntN L.length l → Calls Tryd.prog 48 #[.slice s L.length c, .int .i64 (l : Int), .int .i64 (i : Int)] W fun e w' => e = .returned (.agg (idA (nthI (levV L l) i))) ∧ Below W.heap.size W w') := fun W hW l i hl hi => at_any L (by omega) l i _ W hl ((hv.keep hW (Nat.le_refl _)).mono hW.size) hi
    have HLI : Hid (∀ l i, i < cntN L.length l → IsId (nthI (levV L l) i)) := fun l i h => nthI_id (levV_ids L HID.out l) (by rw [levV_length]; exact h)
    have HDV : Hid (∀ l, dubP (levV L l) (cntN L.length l / 2) = doubV (levV L l)) := fun l => by rw [← dubP_all, levV_length]
    have HTW : Hid (∀ l, (twV L l || doubV (levV L l)) = twV L (l + 1)) := fun l => rfl
    obtain ⟨⟨q1, q2⟩, hq⟩ : ∃ q : List Nat × Bool, q = rootV L := ⟨_, rfl⟩
    rw [← hq] at HFIN ⊢
    show Calls Tryd.prog 28 _ w fun e w' => e = .returned (.tuple #[.agg (idA q1), .bool q2]) ∧ Below w.heap.size w w'
    have HTOP := Lib.hid (fun t h => cnt_top L.length t h)
    have HCL : Hid (∀ j, cntN L.length j ≤ L.length) := fun j => (cntN_le L.length j (by omega)).1
    obtain ⟨n, hnn⟩ : ∃ n, n = L.length := ⟨_, rfl⟩
    rw [← hnn] at HFIN HCN HAT HLI HDV HTOP HCL hn h0 ⊢
    have hd0 : decide ((n : Int) = 0) = false := decide_eq_false (by omega)
    have hbe : ((n : Int) == 0) = false := by simp; omega
    clear hv hq hnn
    go_enter Tryd.func28, Tryd.ntmps28
    have hA : Below w.heap.size w (w.alloc (.cells (idA (zeros 32)) 22)) := (Below.refl _ _).alloc (Nat.le_refl _) _
    have K2 : Bk (w.alloc (.cells (idA (zeros 32)) 22)) w.heap.size 22 (idA (zeros 32)) := Bk.new _ _ _
    go_upto_region 3 with fail
    refine wp_any (fun W => Below w.heap.size w W ∧ Bk W w.heap.size 22 (idA (zeros 32))) ⟨hA, K2⟩ ?_
    generalize hg2 : w.heap.size = g2 at *
    clear hA K2
    rintro W ⟨hW, K2⟩
    have HW := Lib.hid hW
    have hgW : g2 < W.heap.size := K2.lt
    clear hW
    go_wp2_with fail
    go_loopw [4] (fun tv wr => ∃ (t : Nat), t ≤ n ∧ .int .i64 (t : Int) = tv ∧ Hid (∀ l, l < t → 1 < cntN n l) ∧ W = wr) (fun tv _ => n - (intOf tv).toNat)
    case atStart => exact ⟨0, Nat.zero_le _, rfl, fun l h => absurd h (Nat.not_lt_zero _), rfl⟩
    case round =>
      obtain ⟨t, ht, e1, HT, e2⟩ := hrel
      subst e1
      subst e2
      have HC1 := Lib.hid (HCN.out t (by omega) W)
      have htop := HTOP.out t HT.out
      obtain ⟨ct, hct⟩ : ∃ ct, ct = cntN n t := ⟨_, rfl⟩
      rw [← hct] at HC1 htop
      have HCT := Lib.hid hct
      clear hct
      go_wp2_with fail
      refine HC1.out.mono ?_
      rintro e w1 ⟨rfl, e1⟩
      subst w1
      by_cases h1 : 1 < ct
      · have hd : decide ((1 : Int) < (ct : Int)) = true := decide_eq_true (by omega)
        have hd' : decide (1 < ct) = true := decide_eq_true h1
        have HT2 : Hid (∀ l, l < t + 1 → 1 < cntN n l) := fun l hl => by
          by_cases e : l < t
          · exact HT.out l e
          · obtain rfl : l = t := by omega
            rw [← HCT.out]; exact h1
        have ht1 : t + 1 ≤ n := by omega
        clear htop
        go_wp2_with fail
        go_roundw
        case rel =>
          have hi : Value.int .i64 ((t + 1 : Nat) : Int) = .int .i64 ((t : Int) + 1) := by go_num
          first | exact ⟨t + 1, ht1, hi, HT2, rfl⟩ | exact ⟨t + 1, ht1, hi, HT2, trivial⟩ | ((repeat apply Exists.intro); exact ⟨⟨t + 1, ht1, hi, HT2, rfl⟩, rfl⟩)
        case measure => simp [intOf] <;> omega
      · have hd : decide ((1 : Int) < (ct : Int)) = false := decide_eq_false (by omega)
        have hd' : decide (1 < ct) = false := decide_eq_false h1
        have HF := Lib.hid (HFIN.out t HT.out (by rw [← HCT.out]; exact h1))
        clear htop HFIN HTOP h1
        go_wp2_with fail
        go_loopw [5, 6] (fun bv lv wr => ∃ (l : Nat) (b : Bool), l ≤ t ∧ .bool b = bv ∧ .int .i64 (l : Int) = lv ∧ Hid (b = twV L l) ∧ Hid (Below W.heap.size W wr)) (fun _ lv _ => t - (intOf lv).toNat)
        case atStart => exact ⟨0, false, Nat.zero_le _, rfl, rfl, rfl, Below.refl _ _⟩
        case round =>
          obtain ⟨l, b, hl, e1, e2, HB, hWr⟩ := hrel
          subst e1
          subst e2
          generalize wr = wo at *
          by_cases hlt : l < t
          · have hd2 : decide ((l : Int) < (t : Int)) = true := decide_eq_true (by omega)
            have hd2' : decide (l < t) = true := decide_eq_true hlt
            have HC2 := Lib.hid (HCN.out l (by omega) wo)
            have HL2 := Lib.hid (HLI.out l)
            have HA2 : Hid (∀ W2, Below wo.heap.size wo W2 → ∀ i, i < cntN n l → Calls Tryd.prog 48 #[.slice s n c, .int .i64 (l : Int), .int .i64 (i : Int)] W2 fun e w' => e = .returned (.agg (idA (nthI (levV L l) i))) ∧ Below W2.heap.size W2 w') := fun W2 h2 i hi => HAT.out W2 (HW.out.trans ((hWr.out.trans (h2.mono hWr.out.size)).mono (Nat.le_of_lt hgW))) l i (by omega) hi
            have HD2 := Lib.hid (HDV.out l)
            have HTW2 := Lib.hid (HTW.out l)
            have hcl := HCL.out l
            rw [← HB.out] at HTW2
            obtain ⟨cn, hcn⟩ : ∃ cn, cn = cntN n l := ⟨_, rfl⟩
            rw [← hcn] at HC2 HL2 HA2 HD2 hcl
            generalize levV L l = M at *
            clear hcn HB
            go_wp2_with fail
            refine HC2.out.mono ?_
            rintro e w1 ⟨rfl, e1⟩
            subst w1
            clear HC2
            go_wp2_with fail
            go_loopw [5, 8] (fun bv iv wr => ∃ (j i : Nat) (b2 : Bool), j ≤ cn / 2 ∧ Hid (i = 2 * j) ∧ .bool b2 = bv ∧ .int .i64 (i : Int) = iv ∧ Hid (b2 = (b || dubP M j)) ∧ Hid (Below wo.heap.size wo wr)) (fun _ iv _ => cn - (intOf iv).toNat)
            case atStart => exact ⟨0, 0, b, Nat.zero_le _, rfl, rfl, rfl, by show b = (b || false); simp, Below.refl _ _⟩
            case round =>
              obtain ⟨j, i, b2, hj, HI2, e1, e2, HB2, hW2⟩ := hrel
              subst e1
              subst e2
              by_cases hlt2 : i + 1 < cn
              · have hd3 : decide ((i : Int) + 1 < (cn : Int)) = true := decide_eq_true (by omega)
                have HX := Lib.hid (HL2.out i (by omega))
                have HY := Lib.hid (HL2.out (i + 1) hlt2)
                have HCX := Lib.hid (HA2.out wr hW2.out i (by omega))
                have HCY : Hid (∀ W2, Below wo.heap.size wo W2 → Calls Tryd.prog 48 #[.slice s n c, .int .i64 (l : Int), .int .i64 ((i : Int) + 1)] W2 fun e w' => e = .returned (.agg (idA (nthI M (i + 1)))) ∧ Below W2.heap.size W2 w') := fun W2 h2 => by
                  have h := HA2.out W2 h2 (i + 1) hlt2
                  have e : ((i + 1 : Nat) : Int) = (i : Int) + 1 := by omega
                  rw [e] at h
                  exact h
                have HDS : Hid ((b2 || decide (nthI M i = nthI M (i + 1))) = (b || dubP M (j + 1))) := by
                  show _ = _
                  rw [dubP_succ, HB2.out, ← HI2.out, Bool.or_assoc]
                generalize nthI M i = x at *
                generalize nthI M (i + 1) = y at *
                have hxl := HX.out.1
                have hyl := HY.out.1
                have heq : ∀ W, (Op.equalIn 10000 22 (.agg (idA x)) (.agg (idA y))).run Tryd.prog W = .ok (decide (x = y)) W := fun W => r_eql x y hxl hyl W
                have hj1 : j + 1 ≤ cn / 2 := by have := HI2.out; omega
                have HI3 : Hid (i + 2 = 2 * (j + 1)) := by show _ = _; have := HI2.out; omega
                clear HB2 HI2
                go_wp2_with fail
                refine HCX.out.mono ?_
                rintro e w5 ⟨rfl, hb5⟩
                have hW5 := hW2.out.trans (hb5.mono hW2.out.size)
                have HCY2 := Lib.hid (HCY.out w5 hW5)
                clear hb5 HCX HCY
                go_wp2_with fail
                refine HCY2.out.mono ?_
                rintro e w6 ⟨rfl, hb6⟩
                have hW6 := Lib.hid (hW5.trans (hb6.mono hW5.size))
                clear hb6 hW5 HCY2
                by_cases exy : x = y
                · rw [decide_eq_true exy] at heq HDS
                  rw [Bool.or_true] at HDS
                  clear exy
                  go_wp2_with fail
                  go_roundw
                  case rel =>
                    have hi : Value.int .i64 ((i + 2 : Nat) : Int) = .int .i64 ((i : Int) + 2) := by go_num
                    first | exact ⟨j + 1, i + 2, true, hj1, HI3, rfl, hi, HDS, hW6⟩ | ((repeat apply Exists.intro); exact ⟨⟨j + 1, i + 2, true, hj1, HI3, rfl, hi, HDS, hW6⟩, rfl⟩)
                  case measure => simp [intOf] <;> omega
                · rw [decide_eq_false exy] at heq HDS
                  rw [Bool.or_false] at HDS
                  clear exy
                  go_wp2_with fail
                  go_roundw
                  case rel =>
                    have hi : Value.int .i64 ((i + 2 : Nat) : Int) = .int .i64 ((i : Int) + 2) := by go_num
                    first | exact ⟨j + 1, i + 2, b2, hj1, HI3, rfl, hi, HDS, hW6⟩ | ((repeat apply Exists.intro); exact ⟨⟨j + 1, i + 2, b2, hj1, HI3, rfl, hi, HDS, hW6⟩, rfl⟩)
                  case measure => simp [intOf] <;> omega
              · have hd3 : decide ((i : Int) + 1 < (cn : Int)) = false := decide_eq_false (by omega)
                have HB3 : Hid (b2 = twV L (l + 1)) := by
                  have e : j = cn / 2 := by have := HI2.out; omega
                  show _ = _
                  rw [HB2.out, e, HD2.out, HTW2.out]
                have hWo := Lib.hid (hWr.out.trans (hW2.out.mono hWr.out.size))
                have hl1 : l + 1 ≤ t := by omega
                have hi100 : i ≤ 100 := by have := HI2.out; omega
                clear HB2 HI2 HD2 HTW2
                go_wp2_with fail
                go_roundw
                case rel =>
                  have hi : Value.int .i64 ((l + 1 : Nat) : Int) = .int .i64 ((l : Int) + 1) := by go_num
                  first | exact ⟨l + 1, b2, hl1, rfl, hi, HB3, hWo⟩ | ((repeat apply Exists.intro); exact ⟨⟨l + 1, b2, hl1, rfl, hi, HB3, hWo⟩, rfl⟩)
                case measure => simp [intOf] <;> omega
          · have hd2 : decide ((l : Int) < (t : Int)) = false := decide_eq_false (by omega)
            have hd2' : decide (l < t) = false := decide_eq_false hlt
            obtain rfl : l = t := by omega
            have HF1 : Hid ((q1, q2) = (nthI (levV L l) 0, b)) := by show _ = _; rw [HB.out]; exact HF.out.1.symm
            have HX := Lib.hid HF.out.2.1
            have HCX := Lib.hid (HAT.out wo (HW.out.trans (hWr.out.mono (Nat.le_of_lt hgW))) l 0 (by omega) HF.out.2.2)
            generalize nthI (levV L l) 0 = x at *
            have e1 := congrArg Prod.fst HF1.out
            have e2 := congrArg Prod.snd HF1.out
            simp only at e1 e2
            subst e1
            subst e2
            have hxl := HX.out.1
            have K2o := K2.keep hWr.out
            have hWo := HW.out.trans (hWr.out.mono (Nat.le_of_lt hgW))
            clear HF HF1 HB
            go_wp2_with fail
            refine HCX.out.mono ?_
            rintro e w5 ⟨rfl, hb5⟩
            have K5 := K2o.keep hb5
            have hW5 := hWo.trans (hb5.mono (Nat.le_of_lt K2o.lt))
            clear hb5 HCX
            go_wp2_with (refine wpList_store_mid rfl 22 (.tmp 2) (.tmp 47) rfl g2 0 (idA q1) rfl rfl (by rw [idA_size, hxl]; exact K5.there 32 (by rw [idA_size]; decide)) (by rw [idA_size, hxl]; exact r_info) (id_ones _) ?_)
            exact r_ret2 hxl rfl rfl rfl rfl (K5.setAll (by rw [idA_size, idA_size, hxl]; rfl)) (by rw [hg2]; exact Below.setCells (Nat.le_refl _) _ _ _ hW5)
end Go.Proofs.YtmjiadfdmchhaaaDoor.merkleRoots
namespace Go.Proofs.YtmjiadfdmchhaaaDoor.raw
open Go.RowKit
set_option maxRecDepth 100000
set_option linter.unusedVariables false
set_option linter.unusedSimpArgs false
/-- A slice of the call's own, of just these names. -/
def MineI (W : World) (lo : Nat) (v : Value) (L : List (List Nat)) : Prop := (v = .slice none 0 0 ∧ L = []) ∨
  ∃ T cap z, v = .slice (some ⟨T, 0, none⟩) L.length cap ∧ cap = L.length + z ∧ cap < 9223372036854775808 ∧ lo ≤ T ∧ Bk W T 22 (idA (L.flatten ++ zeros (z * 32)))
theorem MineI.keep {W W' : World} {lo : Nat} {v : Value} {L : List (List Nat)} (h : MineI W lo v L) (hb : Below W.heap.size W W') : MineI W' lo v L := by
  rcases h with h | ⟨T, cap, z, e, hc, hc2, hT, K⟩
  · exact .inl h
  · exact .inr ⟨T, cap, z, e, hc, hc2, hT, K.keep hb⟩
theorem MineI.slice {W : World} {lo : Nat} {v : Value} {L : List (List Nat)} (h : MineI W lo v L) : ∃ s c, v = .slice s L.length c := by
  rcases h with ⟨rfl, rfl⟩ | ⟨T, cap, z, rfl, _⟩
  · exact ⟨none, 0, rfl⟩
  · exact ⟨_, _, rfl⟩
theorem MineI.ids {W : World} {lo : Nat} {v : Value} {L : List (List Nat)} (h : MineI W lo v L) (hL : IsIds L) : IdsV W W.heap.size v L := by
  rcases h with ⟨rfl, rfl⟩ | ⟨T, cap, z, rfl, hc, hc2, hT, K⟩
  · exact IdsV.nil _ _
  · exact ⟨_, cap, rfl, by omega, hc2, hL, fun _ => ⟨T, 0, rfl, K.lt, row_ids hL K⟩⟩
theorem id_facts : (Tryd.prog.info? 22).map (fun i => (i.zero, i.size, i.bytes)) = some (some (idv (zeros 32)), 32, 32) := by kernel_rfl
theorem id_infoA : ∃ i, Tryd.prog.info? 22 = some i ∧ i.zero = some (idv (zeros 32)) ∧ i.size = 32 ∧ i.bytes = 32 := by
  have h := id_facts
  revert h
  cases Tryd.prog.info? 22 with
  | none => intro h; cases h
  | some i =>
    intro h
    have h' : (i.zero, i.size, i.bytes) = (some (idv (zeros 32)), 32, 32) := Option.some.inj h
    simp only [Prod.mk.injEq] at h'
    exact ⟨i, rfl, h'.1, h'.2.1, h'.2.2⟩
/-- The names, onto a slice of the call's own. -/
theorem appI2 (xs ys : List (List Nat)) (v u : Value) (lo : Nat) (w : World) (hm : MineI w lo v xs) (hxs : IsIds xs) (hlo : lo ≤ w.heap.size) (hu : IdsV w w.heap.size u ys) (hlt : xs.length + ys.length ≤ 1048576) :
    ∃ v' W, (Builtin.append_ #[69, 69] 69 #[v, u]).run Tryd.prog w = .ok v' W ∧ MineI W lo v' (xs ++ ys) ∧ Below lo w W ∧ ButI v w W := by
  obtain ⟨i, hi, hz, hs, hby⟩ := id_infoA
  obtain ⟨s, cap, rfl, h1, h2, h3, h4⟩ := hu
  have fx := hxs.flat
  have fy := h3.flat
  by_cases h0 : ys = []
  · subst h0
    have hsrc : Src Tryd.prog i.size 69 (.slice s 0 cap) 0 [] w := by
      cases s with
      | none => exact Src.ofNil w Tryd.underlying69 cap
      | some a => exact Src.ofSlice w Tryd.underlying69 a 0 cap [] (by simp) (by simp) (by simp)
    rw [List.append_nil]
    rcases hm with ⟨rfl, rfl⟩ | ⟨T, c, z, rfl, hc, hc2, hT, K⟩
    · exact ⟨_, w, run_append_nothing w _ _ _ _ i Tryd.underlying69 hi _ 0 0 (Nat.le_refl _) _ hsrc, .inl ⟨rfl, rfl⟩, Below.refl _ _, fun _ _ _ _ => rfl⟩
    · exact ⟨_, w, run_append_nothing w _ _ _ _ i Tryd.underlying69 hi _ xs.length c (by omega) _ hsrc, .inr ⟨T, c, z, rfl, hc, hc2, hT, K⟩, Below.refl _ _, fun _ _ _ _ => rfl⟩
  · obtain ⟨b, o, rfl, hb, hc⟩ := h4 h0
    have hpos : 0 < ys.length := by
      rcases Nat.eq_zero_or_pos ys.length with h | h
      · exact absurd (List.eq_nil_of_length_eq_zero h) h0
      · exact h
    have hsrc : Src Tryd.prog i.size 69 (.slice (some ⟨b, o, none⟩) ys.length cap) ys.length (ys.flatten.map byteV) w :=
      Src.ofSlice w Tryd.underlying69 _ _ _ _ (by rw [hs, List.length_map, fy]) (fun j u hu => by
        rw [List.getElem?_map] at hu
        have hjl : j < ys.length * 32 := by
          rcases Nat.lt_or_ge j (ys.length * 32) with h | h
          · exact h
          · rw [List.getElem?_eq_none (by omega)] at hu; cases hu
        have hq : j / 32 < ys.length := by omega
        have hx := List.getElem?_eq_getElem hq
        have hr : j % 32 < 32 := Nat.mod_lt _ (by omega)
        have e1 := flat_get ys h3 (j / 32) (j % 32) _ hx hr
        have e2 := hc (j / 32) _ hx (j % 32) u (by
          rw [Array.getElem?_toList, idA_opt', ← e1, show j / 32 * 32 + j % 32 = j by omega]
          exact hu)
        rw [Go.WideShapes.add_plain]
        rw [show o + j / 32 * 32 + j % 32 = o + j by omega] at e2
        exact e2) (by
        intro u hu
        obtain ⟨x, _, rfl⟩ := List.mem_map.1 hu
        rfl)
    have grown : ∀ (sb : Option Addr) (c : Nat), c < xs.length + ys.length → (Builtin.firstCells i.size xs.length (.slice sb xs.length c)).run Tryd.prog w.drew = .ok (xs.flatten.map byteV).toArray w.drew →
        ∃ v' W, (Builtin.append_ #[69, 69] 69 #[.slice sb xs.length c, .slice (some ⟨b, o, none⟩) ys.length cap]).run Tryd.prog w = .ok v' W ∧ MineI W lo v' (xs ++ ys) ∧ Below lo w W ∧ ButI (.slice sb xs.length c) w W := by
      intro sb c hcl hold
      have hge := grownCap_ge w (xs.length + ys.length) c 22
      have hle := grownCap_le_maxLen w (xs.length + ys.length) c 22 (by unfold maxLen; omega)
      unfold maxLen at hle
      have hrun := run_append_grow_src w 69 69 69 22 i _ Tryd.underlying69 hi hz sb xs.length c _ hold _ ys.length _ hsrc hcl (by omega) (growslice_fits_wide hcl (by rw [hby]; omega))
      rw [zero_ids] at hrun
      refine ⟨_, _, hrun, .inr ⟨w.heap.size, grownCap w (xs.length + ys.length) c 22, grownCap w (xs.length + ys.length) c 22 - (xs.length + ys.length), by rw [List.length_append], by rw [List.length_append]; omega, by omega, hlo, ?_⟩, (Below.refl lo w).drew.alloc (by simpa using hlo) _, fun b' o' hb' _ => (World.cell?_alloc_lt w.drew _ ⟨b', o', none⟩ hb')⟩
      refine Eq.trans (heap_alloc_new w.drew _) ?_
      simp [idA]
    rcases hm with ⟨rfl, rfl⟩ | ⟨T, c, z, rfl, hcz, hc2, hT, K⟩
    · exact grown none 0 (by simpa using hpos) (run_firstCells_none w.drew _ 0 0 0)
    · rcases Nat.lt_or_ge c (xs.length + ys.length) with hg | hr
      · refine grown _ c hg (run_firstCells_some w.drew _ _ _ _ _ _ (by rw [hs, List.length_map, fx]) (fun j u hu => ?_))
        rw [List.getElem?_map] at hu
        rcases hj : xs.flatten[j]? with _ | x
        · rw [hj] at hu; cases hu
        · rw [hj] at hu
          have hl := (List.getElem?_eq_some_iff.1 hj).1
          rw [Go.WideShapes.add_plain, Nat.zero_add]
          refine (K.drew.cell j).trans ?_
          rw [idA_opt', List.getElem?_append_left hl, hj]
          exact hu
      · have hyl : (ys.flatten.map byteV).length = ys.length * 32 := by rw [List.length_map, fy]
        have hrun := run_append_room_src w 69 69 69 22 i Tryd.underlying69 hi T 0 xs.length c _ ys.length _ hsrc hr
          (fun j hj => by
            rw [hyl] at hj
            rw [hs, Nat.zero_add, K.cell, idA_opt']
            have : xs.length * 32 + j < (xs.flatten ++ zeros (z * 32)).length := by
              rw [List.length_append, fx]
              unfold zeros
              rw [List.length_replicate]
              omega
            rw [List.getElem?_eq_getElem this]; rfl)
          (fun j hj => by rw [hs, Nat.zero_add]; exact K.frozen _)
        rw [hs, Nat.zero_add] at hrun
        refine ⟨_, _, hrun, .inr ⟨T, c, z - ys.length, by rw [List.length_append], by rw [List.length_append]; omega, hc2, hT, ?_⟩, Below.setCells hT _ _ _ (Below.refl _ _), fun b' o' hb' hne => World.cell?_setCells_out T _ _ w ⟨b', o', none⟩ (fun hbe _ => absurd rfl (by have hbe' : b' = T := hbe; subst hbe'; exact hne 0 _ _))⟩
        have e := Bk.ovr_ (w := w) (ys.flatten.map byteV) xs.flatten.length w _ K
        rw [ovr_ids xs.flatten ys.flatten (z * 32) (ys.length * 32) fy (by omega), fx] at e
        rw [List.flatten_append, Nat.sub_mul]
        exact e
theorem appI (xs ys : List (List Nat)) (v u : Value) (lo : Nat) (w : World) (hm : MineI w lo v xs) (hxs : IsIds xs) (hlo : lo ≤ w.heap.size) (hu : IdsV w w.heap.size u ys) (hlt : xs.length + ys.length ≤ 1048576) :
    ∃ v' W, (Builtin.append_ #[69, 69] 69 #[v, u]).run Tryd.prog w = .ok v' W ∧ MineI W lo v' (xs ++ ys) ∧ Below lo w W := by
  obtain ⟨v', W, h1, h2, h3, _⟩ := appI2 xs ys v u lo w hm hxs hlo hu hlt
  exact ⟨v', W, h1, h2, h3⟩
/-- An append whose outcome is known, in a plain region. -/
theorem wpList_appI {ops : Array Oper} {rest : List Oper} {o : Oper} {a : Act} {w W : World} {Q : Exit → Act → World → Prop} {v1 v2 v : Value} (hg : o.guard = none) (s x : Operand)
    (hop : o.op = Op.call { callee := Callee.builtin Builtin.append, args := #[s, x], argTypes := #[69, 69] }) (hty : o.type = 69) (hs : a.eval s = v1) (hx : a.eval x = v2)
    (hrun : (Builtin.append_ #[69, 69] 69 #[v1, v2]).run Tryd.prog w = .ok v W) (hK : wpList Tryd.prog ops Q rest (a.put o.dst v) W) : wpList Tryd.prog ops Q (o :: rest) a w := by
  refine wpList_plain hg fun K hK' => ?_
  unfold Oper.wp
  simp [execOp, hop, resolve, invoke, builtin, hs, hx, hty, hrun, Result.andThen]
  exact hK' _ _ hK
/-- A row of names that is built out of them. -/
theorem wpList_bsI {ops : Array Oper} {rest : List Oper} {o : Oper} {a : Act} {w : World} {Q : Exit → Act → World → Prop} (hg : o.guard = none) (len : Nat) (parts : Array (Nat × Operand)) (ho : o.op = .buildSlice 69 len parts)
    (L : List (List Nat)) (hL : IsIds L) (hlen : len = L.length) (hpos : 0 < len) (hsmall : len ≤ 1000) (hparts : (parts.map fun (i, x) => (i, a.eval x)).toList = ((L.map fun x => idv x).zipIdx 0).map fun x => (x.2, x.1))
    (h : wpList Tryd.prog ops Q rest (a.put o.dst (.slice (some ⟨w.heap.size, 0, none⟩) len len)) (w.alloc (.cells (idA L.flatten) 22))) : wpList Tryd.prog ops Q (o :: rest) a w := by
  obtain ⟨i, hi, hz, hs, hby⟩ := id_infoA
  refine wpList_buildSlice hg 69 22 len parts ho _ i _ Tryd.underlying69 hi hz (by rw [hs]; omega) (by rw [hs]; omega) ?_ h
  rw [hparts, hs, ← flat_cells]
  refine Great.fill_whole (by omega) _ _ ?_ ?_
  · intro v hv
    obtain ⟨x, hx, rfl⟩ := List.mem_map.1 hv
    show (idA x).size = 32
    rw [idA_size, (hL x hx).1]
  · rw [List.length_map, ← hlen]
    simp
theorem wpList_bsI1 {ops : Array Oper} {rest : List Oper} {o : Oper} {a : Act} {w : World} {Q : Exit → Act → World → Prop} (hg : o.guard = none) (k : Operand) (ho : o.op = .buildSlice 69 1 #[(0, k)])
    (q : List Nat) (hq : IsId q) (hev : a.eval k = idv q)
    (h : wpList Tryd.prog ops Q rest (a.put o.dst (.slice (some ⟨w.heap.size, 0, none⟩) 1 1)) (w.alloc (.cells (idA q) 22))) : wpList Tryd.prog ops Q (o :: rest) a w := by
  have e : [q].flatten = q := by simp
  refine wpList_bsI hg 1 _ ho [q] (IsIds.one hq) rfl (by omega) (by omega) ?_ (by rw [e]; exact h)
  rw [Array.toList_map]
  simp [hev]

end Go.Proofs.YtmjiadfdmchhaaaDoor.raw
