/-
  The contract of the document's answer for layer 4: the sum of two.
-/
import Derived.Test.YtokiinpegclffaaDoorMroM
import Derived.Deep.RegionHeld3
namespace Go.Proofs.YtokiinpegclffaaDoor.merkleRoots
open Go.ChangeShapes Go.WideShapes Go.ChangeAt Go.RowKit
set_option linter.unusedVariables false
set_option linter.unusedSimpArgs false
set_option maxRecDepth 100000 in
set_option maxHeartbeats 4000000 in
theorem region1_5 (g2 g3 g4 : Nat) (V : World) (x y Z : List Nat) (t0 t1 t5 t6 t7 t8 t9 t10 : Value) (Q : Exit → Act → World → Prop) (HI : Hid (IsId x ∧ IsId y ∧ IsId Z)) (K2 : Hid (Bk V g2 28 (idA x))) (K3 : Hid (Bk V g3 28 (idA y))) (K4 : Hid (Bk V g4 28 (idA (zeros 32)))) (HG : Hid (g2 < g4 ∧ g3 < g4))
    (HC : Hid (∀ W, Calls Tryd.prog 86 #[.string (strN x ++ strN y)] W fun e w' => e = .returned (.agg (idA Z)) ∧ Below W.heap.size W w'))
    (HCX : Hid (∀ w', Bk w' g2 28 (idA x) → (convert 33 9 (.slice (some ⟨g2, 0, none⟩) 32 32)).run Tryd.prog w' = .ok (.string (strN x)) w'))
    (HCY : Hid (∀ w', Bk w' g3 28 (idA y) → (convert 33 9 (.slice (some ⟨g3, 0, none⟩) 32 32)).run Tryd.prog w' = .ok (.string (strN y)) w'))
    (HQ : Hid (∀ x5 x6 x7 x8 x9 x10 w', Below g4 V w' → Bk w' g4 28 (idA Z) → Q .normal { tmps := List.toArray (t0 :: t1 :: Value.pointer (some { block := g2, off := 0 }) :: Value.pointer (some { block := g3, off := 0 }) :: Value.pointer (some { block := g4, off := 0 }) :: x5 :: x6 :: x7 :: x8 :: x9 :: x10 :: []), defers := [] } w')) (w : World) (hB : Below g4 V w) (k4 : Bk w g4 28 (idA (zeros 32))) :
    wpAnyH Tryd.prog .any (#[{ dst := some 5, op := Op.slice 28 (Operand.tmp 2) none none none, type := 33, pos := "ref.go:7", after := #[], guard := none },
{ dst := some 6, op := Op.convert 33 9 (Operand.tmp 5), type := 9, pos := "ref.go:7", after := #[{ on := 0, ground := Ground.data }], guard := none },
{ dst := some 7, op := Op.slice 28 (Operand.tmp 3) none none none, type := 33, pos := "ref.go:7", after := #[], guard := none },
{ dst := some 8, op := Op.convert 33 9 (Operand.tmp 7), type := 9, pos := "ref.go:7", after := #[{ on := 2, ground := Ground.data }], guard := none },
{ dst := some 9, op := Op.binOp BinOp.add 9 (Operand.tmp 6) (Operand.tmp 8) 9, type := 9, pos := "ref.go:7", after := #[{ on := 1, ground := Ground.data }, { on := 3, ground := Ground.data }], guard := none },
{ dst := some 10, op := Op.call { callee := Callee.value (Operand.func 86), args := #[Operand.tmp 9], argTypes := #[9] }, type := 28, pos := "ref.go:7", after := #[{ on := 4, ground := Ground.data }], guard := none },
{ dst := none, op := Op.store 28 (Operand.tmp 4) (Operand.tmp 10), type := 0, pos := "ref.go:7", after := #[{ on := 5, ground := Ground.data }, { on := 5, ground := Ground.chain }, { on := 0, ground := Ground.phase }, { on := 1, ground := Ground.phase }, { on := 2, ground := Ground.phase }, { on := 3, ground := Ground.phase }, { on := 4, ground := Ground.phase }, { on := 5, ground := Ground.phase }], guard := none }]) (NoPanic Q) (fun w' => Below g4 V w') 1 #[true, true, true, true, true, true, false] { tmps := List.toArray (t0 :: t1 :: Value.pointer (some { block := g2, off := 0 }) :: Value.pointer (some { block := g3, off := 0 }) :: Value.pointer (some { block := g4, off := 0 }) :: Value.slice (some { block := g2, off := 0 }) 32 32 :: Value.string (strN x) :: Value.slice (some { block := g3, off := 0 }) 32 32 :: Value.string (strN y) :: Value.string (strN x ++ strN y) :: Value.agg (idA Z) :: []), defers := [] } w := by
  refine wpAnyH_ready (rs := [6]) (by kernel_rfl) (by simp) ?_
  refine AllReadyH.cons rfl (fun K hK => ?_) ?_
  · have K4b := k4
    have hz0 : (idA Z).size = (idA (zeros 32)).size := by rw [idA_size, idA_size, HI.out.2.2.1]; rfl
    refine step_storeD rfl 28 (.tmp 4) (.tmp 10) rfl g4 0 (idA Z) rfl rfl (by rw [hz0]; exact K4b.there _ (Nat.le_refl _)) (by rw [idA_size, HI.out.2.2.1]; exact r_info) (id_ones Z) ?_
    refine hK.out _ _ (Below.setCells (Nat.le_refl _) _ _ _ hB) (fun _ => ?_)
    refine wpAnyH_done (by kernel_rfl) ?_ _
    exact NoPanic.normal (HQ.out _ _ _ _ _ _ _ (Below.setCells (Nat.le_refl _) _ _ _ hB) (K4b.setAll hz0))
  exact AllReadyH.nil

set_option maxRecDepth 100000 in
set_option maxHeartbeats 4000000 in
theorem region1_o (g2 g3 g4 : Nat) (V : World) (x y Z : List Nat) (t0 t1 t5 t6 t7 t8 t9 t10 : Value) (Q : Exit → Act → World → Prop) (HI : Hid (IsId x ∧ IsId y ∧ IsId Z)) (K2 : Hid (Bk V g2 28 (idA x))) (K3 : Hid (Bk V g3 28 (idA y))) (K4 : Hid (Bk V g4 28 (idA (zeros 32)))) (HG : Hid (g2 < g4 ∧ g3 < g4))
    (HC : Hid (∀ W, Calls Tryd.prog 86 #[.string (strN x ++ strN y)] W fun e w' => e = .returned (.agg (idA Z)) ∧ Below W.heap.size W w'))
    (HCX : Hid (∀ w', Bk w' g2 28 (idA x) → (convert 33 9 (.slice (some ⟨g2, 0, none⟩) 32 32)).run Tryd.prog w' = .ok (.string (strN x)) w'))
    (HCY : Hid (∀ w', Bk w' g3 28 (idA y) → (convert 33 9 (.slice (some ⟨g3, 0, none⟩) 32 32)).run Tryd.prog w' = .ok (.string (strN y)) w'))
    (HQ : Hid (∀ x5 x6 x7 x8 x9 x10 w', Below g4 V w' → Bk w' g4 28 (idA Z) → Q .normal { tmps := List.toArray (t0 :: t1 :: Value.pointer (some { block := g2, off := 0 }) :: Value.pointer (some { block := g3, off := 0 }) :: Value.pointer (some { block := g4, off := 0 }) :: x5 :: x6 :: x7 :: x8 :: x9 :: x10 :: []), defers := [] } w')) (w : World) (hB : Below g4 V w) (k4 : Bk w g4 28 (idA (zeros 32))) :
    wpAnyH Tryd.prog .any (#[{ dst := some 5, op := Op.slice 28 (Operand.tmp 2) none none none, type := 33, pos := "ref.go:7", after := #[], guard := none },
{ dst := some 6, op := Op.convert 33 9 (Operand.tmp 5), type := 9, pos := "ref.go:7", after := #[{ on := 0, ground := Ground.data }], guard := none },
{ dst := some 7, op := Op.slice 28 (Operand.tmp 3) none none none, type := 33, pos := "ref.go:7", after := #[], guard := none },
{ dst := some 8, op := Op.convert 33 9 (Operand.tmp 7), type := 9, pos := "ref.go:7", after := #[{ on := 2, ground := Ground.data }], guard := none },
{ dst := some 9, op := Op.binOp BinOp.add 9 (Operand.tmp 6) (Operand.tmp 8) 9, type := 9, pos := "ref.go:7", after := #[{ on := 1, ground := Ground.data }, { on := 3, ground := Ground.data }], guard := none },
{ dst := some 10, op := Op.call { callee := Callee.value (Operand.func 86), args := #[Operand.tmp 9], argTypes := #[9] }, type := 28, pos := "ref.go:7", after := #[{ on := 4, ground := Ground.data }], guard := none },
{ dst := none, op := Op.store 28 (Operand.tmp 4) (Operand.tmp 10), type := 0, pos := "ref.go:7", after := #[{ on := 5, ground := Ground.data }, { on := 5, ground := Ground.chain }, { on := 0, ground := Ground.phase }, { on := 1, ground := Ground.phase }, { on := 2, ground := Ground.phase }, { on := 3, ground := Ground.phase }, { on := 4, ground := Ground.phase }, { on := 5, ground := Ground.phase }], guard := none }]) (NoPanic Q) (fun w' => Below g4 V w') 2 #[true, true, true, true, true, false, false] { tmps := List.toArray (t0 :: t1 :: Value.pointer (some { block := g2, off := 0 }) :: Value.pointer (some { block := g3, off := 0 }) :: Value.pointer (some { block := g4, off := 0 }) :: Value.slice (some { block := g2, off := 0 }) 32 32 :: Value.string (strN x) :: Value.slice (some { block := g3, off := 0 }) 32 32 :: Value.string (strN y) :: Value.string (strN x ++ strN y) :: t10 :: []), defers := [] } w := by
  refine wpAnyH_ready (rs := [5]) (by kernel_rfl) (by simp) ?_
  refine AllReadyH.cons rfl (fun K hK => ?_) ?_
  · refine step_callS (by rfl) _ _ (.agg (idA Z)) (HC.out w) (by kernel_rfl) (fun w6 hb6 => ?_)
    simp only [Act.put, List.setIfInBounds_toArray, List.set_cons_zero, List.set_cons_succ]
    refine hK.out _ _ (hB.trans (hb6.mono (Nat.le_of_lt k4.lt))) (fun _ => ?_)
    exact region1_5 g2 g3 g4 V x y Z t0 t1 t5 t6 t7 t8 t9 t10 Q HI K2 K3 K4 HG HC HCX HCY HQ _ (hB.trans (hb6.mono (Nat.le_of_lt k4.lt))) (k4.keep hb6)
  exact AllReadyH.nil

set_option maxRecDepth 100000 in
set_option maxHeartbeats 4000000 in
theorem region1 (g2 g3 g4 : Nat) (V : World) (x y Z : List Nat) (t0 t1 t5 t6 t7 t8 t9 t10 : Value) (Q : Exit → Act → World → Prop) (HI : Hid (IsId x ∧ IsId y ∧ IsId Z)) (K2 : Hid (Bk V g2 28 (idA x))) (K3 : Hid (Bk V g3 28 (idA y))) (K4 : Hid (Bk V g4 28 (idA (zeros 32)))) (HG : Hid (g2 < g4 ∧ g3 < g4))
    (HC : Hid (∀ W, Calls Tryd.prog 86 #[.string (strN x ++ strN y)] W fun e w' => e = .returned (.agg (idA Z)) ∧ Below W.heap.size W w'))
    (HCX : Hid (∀ w', Bk w' g2 28 (idA x) → (convert 33 9 (.slice (some ⟨g2, 0, none⟩) 32 32)).run Tryd.prog w' = .ok (.string (strN x)) w'))
    (HCY : Hid (∀ w', Bk w' g3 28 (idA y) → (convert 33 9 (.slice (some ⟨g3, 0, none⟩) 32 32)).run Tryd.prog w' = .ok (.string (strN y)) w'))
    (HQ : Hid (∀ x5 x6 x7 x8 x9 x10 w', Below g4 V w' → Bk w' g4 28 (idA Z) → Q .normal { tmps := List.toArray (t0 :: t1 :: Value.pointer (some { block := g2, off := 0 }) :: Value.pointer (some { block := g3, off := 0 }) :: Value.pointer (some { block := g4, off := 0 }) :: x5 :: x6 :: x7 :: x8 :: x9 :: x10 :: []), defers := [] } w')) :
    Code.wp Tryd.prog (Code.region 1 (#[{ dst := some 5, op := Op.slice 28 (Operand.tmp 2) none none none, type := 33, pos := "ref.go:7", after := #[], guard := none },
{ dst := some 6, op := Op.convert 33 9 (Operand.tmp 5), type := 9, pos := "ref.go:7", after := #[{ on := 0, ground := Ground.data }], guard := none },
{ dst := some 7, op := Op.slice 28 (Operand.tmp 3) none none none, type := 33, pos := "ref.go:7", after := #[], guard := none },
{ dst := some 8, op := Op.convert 33 9 (Operand.tmp 7), type := 9, pos := "ref.go:7", after := #[{ on := 2, ground := Ground.data }], guard := none },
{ dst := some 9, op := Op.binOp BinOp.add 9 (Operand.tmp 6) (Operand.tmp 8) 9, type := 9, pos := "ref.go:7", after := #[{ on := 1, ground := Ground.data }, { on := 3, ground := Ground.data }], guard := none },
{ dst := some 10, op := Op.call { callee := Callee.value (Operand.func 86), args := #[Operand.tmp 9], argTypes := #[9] }, type := 28, pos := "ref.go:7", after := #[{ on := 4, ground := Ground.data }], guard := none },
{ dst := none, op := Op.store 28 (Operand.tmp 4) (Operand.tmp 10), type := 0, pos := "ref.go:7", after := #[{ on := 5, ground := Ground.data }, { on := 5, ground := Ground.chain }, { on := 0, ground := Ground.phase }, { on := 1, ground := Ground.phase }, { on := 2, ground := Ground.phase }, { on := 3, ground := Ground.phase }, { on := 4, ground := Ground.phase }, { on := 5, ground := Ground.phase }], guard := none }]) true) Q { tmps := List.toArray (t0 :: t1 :: Value.pointer (some { block := g2, off := 0 }) :: Value.pointer (some { block := g3, off := 0 }) :: Value.pointer (some { block := g4, off := 0 }) :: t5 :: t6 :: t7 :: t8 :: t9 :: t10 :: []), defers := [] } V := by
  refine wp_region_noPanic ?_
  refine wp_region_held_drew (S := (fun w' => Below g4 V w')) (by kernel_rfl) ((Below.refl _ _).drew) (fun hHeld => ?_)
  have hB : Below g4 V V.drew := ((Below.refl _ _).drew)
  show wpAnyH _ _ _ _ _ 7 _ _ _
  refine wpAnyH_take (i := 0) (oi := { dst := some 5, op := Op.slice 28 (Operand.tmp 2) none none none, type := 33, pos := "ref.go:7", after := #[], guard := none }) (v := Value.slice (some { block := g2, off := 0 }) 32 32) rfl (by kernel_rfl) (by kernel_rfl) (by kernel_rfl) (fun _ _ _ h => h) ?_ hHeld ?_
  · (refine Or.inl ⟨by rfl, ?_⟩; intro w hSw; go_simp)
  simp only [Act.put, List.setIfInBounds_toArray, List.set_cons_zero, List.set_cons_succ]
  refine wpAnyH_take (i := 1) (oi := { dst := some 6, op := Op.convert 33 9 (Operand.tmp 5), type := 9, pos := "ref.go:7", after := #[{ on := 0, ground := Ground.data }], guard := none }) (v := Value.string (strN x)) rfl (by kernel_rfl) (by kernel_rfl) (by kernel_rfl) (fun _ _ _ h => h) ?_ hHeld ?_
  · (refine Or.inl ⟨by rfl, ?_⟩; intro w hSw; have h1 := HCX.out w (Bk.below K2.out hSw HG.out.1); go_simp)
  simp only [Act.put, List.setIfInBounds_toArray, List.set_cons_zero, List.set_cons_succ]
  refine wpAnyH_take (i := 2) (oi := { dst := some 7, op := Op.slice 28 (Operand.tmp 3) none none none, type := 33, pos := "ref.go:7", after := #[], guard := none }) (v := Value.slice (some { block := g3, off := 0 }) 32 32) rfl (by kernel_rfl) (by kernel_rfl) (by kernel_rfl) (fun _ _ _ h => h) ?_ hHeld ?_
  · (refine Or.inl ⟨by rfl, ?_⟩; intro w hSw; go_simp)
  simp only [Act.put, List.setIfInBounds_toArray, List.set_cons_zero, List.set_cons_succ]
  refine wpAnyH_take (i := 3) (oi := { dst := some 8, op := Op.convert 33 9 (Operand.tmp 7), type := 9, pos := "ref.go:7", after := #[{ on := 2, ground := Ground.data }], guard := none }) (v := Value.string (strN y)) rfl (by kernel_rfl) (by kernel_rfl) (by kernel_rfl) (fun _ _ _ h => h) ?_ hHeld ?_
  · (refine Or.inl ⟨by rfl, ?_⟩; intro w hSw; have h1 := HCY.out w (Bk.below K3.out hSw HG.out.2); go_simp)
  simp only [Act.put, List.setIfInBounds_toArray, List.set_cons_zero, List.set_cons_succ]
  refine wpAnyH_take (i := 4) (oi := { dst := some 9, op := Op.binOp BinOp.add 9 (Operand.tmp 6) (Operand.tmp 8) 9, type := 9, pos := "ref.go:7", after := #[{ on := 1, ground := Ground.data }, { on := 3, ground := Ground.data }], guard := none }) (v := Value.string (strN x ++ strN y)) rfl (by kernel_rfl) (by kernel_rfl) (by kernel_rfl) (fun _ _ _ h => h) ?_ hHeld ?_
  · (refine Or.inl ⟨by rfl, ?_⟩; intro w hSw; have s1 : (strN x).size = 32 := by rw [strN_size, HI.out.1.1]
     have s2 : (strN y).size = 32 := by rw [strN_size, HI.out.2.1.1]
     go_simp)
  simp only [Act.put, List.setIfInBounds_toArray, List.set_cons_zero, List.set_cons_succ]
  exact region1_o g2 g3 g4 V x y Z t0 t1 t5 t6 t7 t8 t9 t10 Q HI K2 K3 K4 HG HC HCX HCY HQ _ hB K4.out.drew

set_option maxRecDepth 100000 in
set_option maxHeartbeats 2000000 in
theorem rpair_any (x y : List Nat) (w : World) (hx : IsId x) (hy : IsId y) :
    Calls Tryd.prog 101 #[.agg (idA x), .agg (idA y)] w fun e w' => e = .returned (.agg (idA (H2 x y))) ∧ Below w.heap.size w w' := by
  have HC : Hid (∀ W, Calls Tryd.prog 86 #[.string (strN x ++ strN y)] W fun e w' => e = .returned (.agg (idA (H2 x y))) ∧ Below W.heap.size W w') := fun W => by
    rw [strN_append]
    exact rtwice_any (x ++ y) W (fun b hb => (List.mem_append.1 hb).elim (hx.2 b) (hy.2 b)) (by rw [List.length_append, hx.1, hy.1]; omega)
  have HI : Hid (IsId x ∧ IsId y ∧ IsId (H2 x y)) := ⟨hx, hy, H2_id _ _⟩
  have HB : Hid (∀ (z : List Nat) (g : Nat) (W : World), IsId z → Bk W g 28 (idA z) → (convert 33 9 (.slice (some ⟨g, 0, none⟩) 32 32)).run Tryd.prog W = .ok (.string (strN z)) W) := fun z g W hz K => by
    have h := bs_row (n := 32) (cap := 32) K (by rw [hz.1]; exact Nat.le_refl _) (Nat.le_refl _) (by omega) hz.2
    rw [List.take_of_length_le (by rw [hz.1]; exact Nat.le_refl _)] at h
    exact conv_bs h
  go_enter Tryd.func101, Tryd.ntmps101
  go_upto_region 1 with fail
  refine wp_any (fun W => Below w.heap.size w W ∧ Bk W w.heap.size 28 (idA x) ∧ Bk W (w.heap.size + 1) 28 (idA y) ∧ Bk W (w.heap.size + 2) 28 (idA (zeros 32))) ⟨?_, ?_, ?_, ?_⟩ ?_
  · exact (((Below.refl _ _).alloc (Nat.le_refl _) _).alloc (by simp) _).alloc (by simp; omega) _
  · exact ((Bk.new _ _ _).alloc _).alloc _
  · exact (Bk.new' _ _ _ (by simp)).alloc _
  · exact Bk.new' _ _ _ (by simp)
  generalize hg : w.heap.size = g at *
  rintro W ⟨hW, X, Y, Z⟩
  refine region1 g (g + 1) (g + 1 + 1) W x y (H2 x y) _ _ _ _ _ _ _ _ _ HI X Y Z ⟨by omega, by omega⟩ HC (fun w' h => HB.out x g w' hx h) (fun w' h => HB.out y (g + 1) w' hy h) (fun x5 x6 x7 x8 x9 x10 w' hb hZ => ?_)
  go_wp2_with fail
  exact r_ret (H2_id _ _).1 rfl rfl rfl hZ (by rw [hg]; exact hW.trans (hb.mono (by omega)))
end Go.Proofs.YtokiinpegclffaaDoor.merkleRoots
