/-
  A region of the law MerkleOther: the two sums in memory of their own.
-/
import Derived.Test.YtecmgojecjenmaaDoorTwin
import Derived.Test.YtecmgojecjenmaaDoorMerW
import Derived.Deep.RegionHeld
namespace Go.Proofs.YtecmgojecjenmaaDoor.merkleOther
open Go.ChangeShapes Go.WideShapes Go.ChangeAt Go.RowKit
set_option linter.unusedVariables false
set_option linter.unusedSimpArgs false

theorem keepf {p q : Prop} (h : p) (k : p → q) : q := k h
theorem range_bk {w : World} {b : Nat} {t : TypeId} {x : List Nat} (h : Bk w b t (idA x)) : w.rangeAt b 0 (x.map byteV) := h.range0
theorem id_store (w : World) (g : Nat) (q : List Nat) (hq : q.length = 32) (h : w.there g 0 32) : (storeCells ⟨g, 0, none⟩ (idA q).toList).run Tryd.prog w = .ok () (w.setCells g 0 (idA q).toList) := by
  have hl : (idA q).toList.length = 32 := by rw [Array.length_toList, idA_size, hq]
  have e := run_storeCells_cells (P := Tryd.prog) g 0 (idA q).toList 0 w (fun j hj => by simpa using (h j (by omega)).1) (fun j hj => by simpa using (h j (by omega)).2) (id_one q)
  simpa using e
theorem heap_far (w : World) (h : Nat) (vs : List Value) (g : Nat) (hg : g ≠ h) : (w.setCells h 0 vs).heap[g]? = w.heap[g]? := by
  have k : ∀ (l : List Value) (W : World) (o : Nat), (W.setCells h o l).heap[g]? = W.heap[g]? := by
    intro l
    induction l with
    | nil => intro W o; rfl
    | cons v l ih => intro W o; exact (ih (W.setCell ⟨h, o, none⟩ v) (o + 1)).trans (Below.heap_setCell W ⟨h, o, none⟩ v g hg)
  exact k vs w 0
/-- Block g is a name's, of nought bytes. -/
def Fr (w : World) (g : Nat) : Prop := Bk w g 27 (idA (zeros 32))
theorem fresh_there {w : World} {g : Nat} (h : Fr w g) : w.there g 0 32 := Bk.there (cs := idA (zeros 32)) h 32 (by rw [idA_size]; decide)
theorem fr_alloc (w : World) (g : Nat) : Fr (w.alloc (.cells #[.int .u8 0, .int .u8 0, .int .u8 0, .int .u8 0, .int .u8 0, .int .u8 0, .int .u8 0, .int .u8 0, .int .u8 0, .int .u8 0, .int .u8 0, .int .u8 0, .int .u8 0, .int .u8 0, .int .u8 0, .int .u8 0, .int .u8 0, .int .u8 0, .int .u8 0, .int .u8 0, .int .u8 0, .int .u8 0, .int .u8 0, .int .u8 0, .int .u8 0, .int .u8 0, .int .u8 0, .int .u8 0, .int .u8 0, .int .u8 0, .int .u8 0, .int .u8 0] 27)) g = (g = w.heap.size ∨ Fr w g) := by
  apply propext
  constructor
  · intro h
    by_cases hg : g = w.heap.size
    · exact .inl hg
    · refine .inr ?_
      have h2 : (w.heap.push (.cells #[.int .u8 0, .int .u8 0, .int .u8 0, .int .u8 0, .int .u8 0, .int .u8 0, .int .u8 0, .int .u8 0, .int .u8 0, .int .u8 0, .int .u8 0, .int .u8 0, .int .u8 0, .int .u8 0, .int .u8 0, .int .u8 0, .int .u8 0, .int .u8 0, .int .u8 0, .int .u8 0, .int .u8 0, .int .u8 0, .int .u8 0, .int .u8 0, .int .u8 0, .int .u8 0, .int .u8 0, .int .u8 0, .int .u8 0, .int .u8 0, .int .u8 0, .int .u8 0] 27))[g]? = some (.cells (idA (zeros 32)) 27 (0, 0)) := h
      rw [Array.getElem?_push, if_neg hg] at h2
      exact h2
  · rintro (h | h)
    · exact Bk.new' w 27 (idA (zeros 32)) h
    · exact Bk.alloc h _
theorem fr_far (w : World) (h : Nat) (vs : List Value) (g : Nat) (hg : g ≠ h) : Fr (w.setCells h 0 vs) g = Fr w g := by
  unfold Fr Bk
  rw [heap_far w h vs g hg]
theorem there_new (w : World) (q : List Nat) (t : TypeId) (g : Nat) (hg : g = w.heap.size) (hq : q.length = 32) : (w.alloc (.cells (idA q) t)).there g 0 32 := by
  subst hg
  exact (Bk.new w t (idA q)).there 32 (by rw [idA_size, hq]; exact Nat.le_refl _)
set_option maxRecDepth 100000 in
set_option maxHeartbeats 8000000 in
theorem region11 (g5 b o k n c : Nat) (V : World) (x y : List Nat) (hx : IsId x) (hy : IsId y) (K5 : Bk V g5 27 (idA y)) (hr : V.rangeAt b (o + k * 32) (idA x).toList) (hb : b < V.heap.size) (hkn : k < n) (hn : n ≤ 30)
    (t2 t3 t4 t6 t7 t8 t9 t10 t11 t12 t13 t14 t15 t16 t17 t18 t19 t20 t21 t22 t23 t24 t25 t26 t27 t28 t29 t30 t31 t32 t33 t34 t35 t36 t37 t38 t39 t40 t41 t42 t43 t44 t45 t46 t47 t48 t49 t50 t51 t52 t53 t54 t55 t56 t57 t58 t59 t60 t61 t62 t63 t64 t65 t66 t67 t68 t69 t70 t71 t72 t73 t74 t75 t76 t77 t78 t79 t80 t81 t82 t83 t84 t85 t86 t87 t88 t89 t90 t91 t92 t93 t94 t95 : Value) (Q : Exit → Act → World → Prop)
    (hQ : ∀ x59 x60 x61 x62 x63 gA gB w', gA ≠ gB → V.heap.size ≤ gA → V.heap.size ≤ gB → Below V.heap.size V w' → Bk w' gA 27 (idA x) → Bk w' gB 27 (idA y) → Q .normal { tmps := List.toArray (Value.slice (some { block := b, off := o }) n c :: Value.int IntKind.i64 (k : Int) :: t2 :: t3 :: t4 :: Value.pointer (some { block := g5, off := 0 }) :: t6 :: t7 :: t8 :: t9 :: t10 :: Value.pointer (some { block := gA, off := 0 }) :: Value.pointer (some { block := gB, off := 0 }) :: t13 :: t14 :: t15 :: t16 :: t17 :: t18 :: t19 :: t20 :: t21 :: t22 :: t23 :: t24 :: t25 :: t26 :: t27 :: t28 :: t29 :: t30 :: t31 :: t32 :: t33 :: t34 :: t35 :: t36 :: t37 :: t38 :: t39 :: t40 :: t41 :: t42 :: t43 :: t44 :: t45 :: t46 :: t47 :: t48 :: t49 :: t50 :: t51 :: t52 :: t53 :: t54 :: t55 :: t56 :: t57 :: t58 :: x59 :: x60 :: x61 :: x62 :: x63 :: t64 :: t65 :: t66 :: t67 :: t68 :: t69 :: t70 :: t71 :: t72 :: t73 :: t74 :: t75 :: t76 :: t77 :: t78 :: t79 :: t80 :: t81 :: t82 :: t83 :: t84 :: t85 :: t86 :: t87 :: t88 :: t89 :: t90 :: t91 :: t92 :: t93 :: t94 :: t95 :: []), defers := [] } w') :
    Code.wp Tryd.prog (Code.region 11 #[{ dst := some 59, op := Op.move (Operand.tmp 0), type := 32, pos := "law.go:155", after := #[], guard := none },
{ dst := some 60, op := Op.move (Operand.tmp 1), type := 3, pos := "law.go:155", after := #[], guard := none },
{ dst := some 61, op := Op.indexAddr 32 (Operand.tmp 59) (Operand.tmp 60), type := 0, pos := "law.go:155", after := #[{ on := 0, ground := Ground.data }, { on := 1, ground := Ground.data }], guard := none },
{ dst := some 62, op := Op.load 27 (Operand.tmp 61), type := 27, pos := "law.go:155", after := #[{ on := 2, ground := Ground.data }], guard := none },
{ dst := some 63, op := Op.load 27 (Operand.tmp 5), type := 27, pos := "law.go:155", after := #[{ on := 7, ground := Ground.gcOnly Departure.lateStores }], guard := none },
{ dst := some 11, op := Op.alloc 27, type := 0, pos := "law.go:155", after := #[], guard := none },
{ dst := some 12, op := Op.alloc 27, type := 0, pos := "law.go:155", after := #[], guard := none },
{ dst := none, op := Op.store 27 (Operand.tmp 11) (Operand.tmp 62), type := 0, pos := "law.go:155", after := #[{ on := 5, ground := Ground.data }, { on := 3, ground := Ground.data }, { on := 0, ground := Ground.phase }, { on := 1, ground := Ground.phase }, { on := 2, ground := Ground.phase }, { on := 3, ground := Ground.phase }, { on := 4, ground := Ground.textOnly Departure.lateStores }, { on := 5, ground := Ground.phase }, { on := 6, ground := Ground.phase }], guard := none },
{ dst := none, op := Op.store 27 (Operand.tmp 12) (Operand.tmp 63), type := 0, pos := "law.go:155", after := #[{ on := 6, ground := Ground.data }, { on := 4, ground := Ground.data }, { on := 7, ground := Ground.chain }, { on := 0, ground := Ground.phase }, { on := 1, ground := Ground.phase }, { on := 2, ground := Ground.phase }, { on := 3, ground := Ground.phase }, { on := 4, ground := Ground.phase }, { on := 5, ground := Ground.phase }, { on := 6, ground := Ground.phase }, { on := 7, ground := Ground.phase }], guard := none }] true) Q { tmps := List.toArray (Value.slice (some { block := b, off := o }) n c :: Value.int IntKind.i64 (k : Int) :: t2 :: t3 :: t4 :: Value.pointer (some { block := g5, off := 0 }) :: t6 :: t7 :: t8 :: t9 :: t10 :: t11 :: t12 :: t13 :: t14 :: t15 :: t16 :: t17 :: t18 :: t19 :: t20 :: t21 :: t22 :: t23 :: t24 :: t25 :: t26 :: t27 :: t28 :: t29 :: t30 :: t31 :: t32 :: t33 :: t34 :: t35 :: t36 :: t37 :: t38 :: t39 :: t40 :: t41 :: t42 :: t43 :: t44 :: t45 :: t46 :: t47 :: t48 :: t49 :: t50 :: t51 :: t52 :: t53 :: t54 :: t55 :: t56 :: t57 :: t58 :: t59 :: t60 :: t61 :: t62 :: t63 :: t64 :: t65 :: t66 :: t67 :: t68 :: t69 :: t70 :: t71 :: t72 :: t73 :: t74 :: t75 :: t76 :: t77 :: t78 :: t79 :: t80 :: t81 :: t82 :: t83 :: t84 :: t85 :: t86 :: t87 :: t88 :: t89 :: t90 :: t91 :: t92 :: t93 :: t94 :: t95 :: []), defers := [] } V := by
  have HQ := Lib.hid hQ
  clear hQ
  have hz := K5.lt
  have hxl := hx.1
  have hyl := hy.1
  have hr5 : V.rangeAt g5 0 (idA y).toList := K5.range0
  obtain ⟨tl, htl⟩ : ∃ tl : TypeId, tl = 27 := ⟨_, rfl⟩
  obtain ⟨sz, hsz0⟩ : ∃ sz : Nat, sz = 32 := ⟨_, rfl⟩
  have hag : ∀ w, (isAgg tl).run Tryd.prog w = .ok true w := by rw [htl]; exact id_agg
  have hsz : ∀ w, (sizeOf tl).run Tryd.prog w = .ok sz w := by rw [htl, hsz0]; exact id_size
  have hl5 : ∀ w', w'.rangeAt g5 0 (idA y).toList → (loadCellsFrom ⟨g5, 0, none⟩ 0 sz #[]).run Tryd.prog w' = .ok (idA y) w' := fun w' h => by rw [hsz0]; exact id_load _ _ _ _ hyl h
  have hlb : ∀ w', w'.rangeAt b (o + k * 32) (idA x).toList → (loadCellsFrom ⟨b, o + k * 32, none⟩ 0 sz #[]).run Tryd.prog w' = .ok (idA x) w' := fun w' h => by rw [hsz0]; exact id_load _ _ _ _ hxl h
  have hx0 : (idA x).size = (idA (zeros 32)).size := by rw [idA_size, idA_size, hxl]; rfl
  have hy0 : (idA y).size = (idA (zeros 32)).size := by rw [idA_size, idA_size, hyl]; rfl
  have hx32 : (idA x).size = sz := by rw [idA_size, hxl, hsz0]
  have hy32 : (idA y).size = sz := by rw [idA_size, hyl, hsz0]
  have hstx : ∀ (w' : World) (g : Nat), Fr w' g → (storeCells ⟨g, 0, none⟩ (idA x).toList).run Tryd.prog w' = .ok () (w'.setCells g 0 (idA x).toList) := fun w' g h => id_store w' g x hxl (fresh_there h)
  have hsty : ∀ (w' : World) (g : Nat), Fr w' g → (storeCells ⟨g, 0, none⟩ (idA y).toList).run Tryd.prog w' = .ok () (w'.setCells g 0 (idA y).toList) := fun w' g h => id_store w' g y hyl (fresh_there h)
  have hSS : ∀ w' : World, Below V.heap.size V w' → (Below V.heap.size V w' ∧ w'.rangeAt g5 0 (idA y).toList ∧ w'.rangeAt b (o + k * 32) (idA x).toList) := fun w' h => ⟨h, idr_below hr5 h hz, idr_below hr h hb⟩
  have HSS := Lib.hid hSS
  have hkn' : (k : Int) < (n : Int) := by omega
  have hk0 : (0 : Int) ≤ (k : Int) := by omega
  clear hr K5 hx hy hSS
  generalize idA x = X at *
  generalize idA y = Y at *
  simp only [show ∀ z, Op.load 27 z = Op.load tl z from fun z => by rw [htl], show ∀ z u, Op.store 27 z u = Op.store tl z u from fun z u => by rw [htl]]
  clear htl hsz0
  have hN1 : ∀ (w : World) (g : Nat), Fr (w.alloc (.cells #[.int .u8 0, .int .u8 0, .int .u8 0, .int .u8 0, .int .u8 0, .int .u8 0, .int .u8 0, .int .u8 0, .int .u8 0, .int .u8 0, .int .u8 0, .int .u8 0, .int .u8 0, .int .u8 0, .int .u8 0, .int .u8 0, .int .u8 0, .int .u8 0, .int .u8 0, .int .u8 0, .int .u8 0, .int .u8 0, .int .u8 0, .int .u8 0, .int .u8 0, .int .u8 0, .int .u8 0, .int .u8 0, .int .u8 0, .int .u8 0, .int .u8 0, .int .u8 0] 27)) g = (g = w.heap.size ∨ Fr w g) := fr_alloc
  have hN3 : ∀ (w : World) (h : Nat) (vs : List Value) (g : Nat), g ≠ h → Fr (w.setCells h 0 vs) g = Fr w g := fr_far
  have hN4 : ∀ (w : World) (g : Nat), Fr w.drew g = Fr w g := fun _ _ => rfl
  refine wp_region_noPanic ?_
  go_region_held (fun w' => Below V.heap.size V w' ∧ w'.rangeAt g5 0 Y.toList ∧ w'.rangeAt b (o + k * 32) X.toList) ((refine HSS.out _ ?_; repeat' (first | with_reducible exact Below.refl _ _ | with_reducible assumption | with_reducible exact From.out (by with_reducible assumption) | with_reducible refine Below.drew ?_ | with_reducible refine Below.setCell ?_ ?_ _ | with_reducible refine Below.setCells ?_ _ _ _ ?_ | with_reducible refine Below.alloc ?_ ?_ _ | with_reducible exact Nat.le_refl _ | omega | (simp; done) | (simp; omega) | (simp [World.drew]; done) | (simp [World.drew]; omega)))) (fail)
  all_goals
    refine NoPanic.normal (HQ.out _ _ _ _ _ _ _ _ ?_ ?_ ?_ ?_ (Bk.farCells (Bk.setAll (cs := idA (zeros 32)) (xs := X) (show Fr _ _ from ?_) hx0) ?_ Y.toList 0) (Bk.setAll (cs := idA (zeros 32)) (xs := Y) (Bk.farCells (show Fr _ _ from ?_) ?_ X.toList 0) hy0))
    all_goals first | omega | exact Below.setCells (by omega) _ _ _ (Below.setCells (by omega) _ _ _ (((Below.refl _ _).alloc (Nat.le_refl _) _).alloc (by simp) _).drew) | (simp [hN1, hN4]; done) | (simp [hN1, hN4]; omega)
end Go.Proofs.YtecmgojecjenmaaDoor.merkleOther
