/-
  What is proved: for every slice of bytes the law HashOwn returns true, and its argument reads behind the call as it read before; the two listed tables of package hash are taken to hold what the program's text lays in them, and the card ties them to it.
-/
import Derived.Test.YtflpeohhlmainaaDoorAppB
import Derived.Test.YtflpeohhlmainaaDoorTie
import Derived.Test.YtflpeohhlmainaaDoorCards
import Derived.Stop.Joined
import Derived.Deep.Upon
namespace Go.Proofs.YtflpeohhlmainaaDoor.hashOwn
open Go.ChangeShapes Go.WideShapes Go.ChangeAt Go.RowKit
set_option linter.unusedVariables false

theorem own : ownKnob Tryd.prog.godebug = none := by kernel_rfl
theorem laidOut : laidOutB Tryd.prog = true := by kernel_rfl
attribute [local go_sem ↓] Go.wp_at_zero Go.wp_at_succ

/-- A row's cells, kept. -/
def RangeIn (W : World) (A : Nat) (L : List Value) : Prop := A < W.heap.size ∧ W.rangeAt A 0 L
theorem RangeIn.keep {W w : World} {A : Nat} {L : List Value} (h : RangeIn W A L) (hb : Below W.heap.size W w) : w.rangeAt A 0 L := fun j v hv => (hb.cell (p := ⟨A, 0 + j, none⟩) h.1).trans (h.2 j v hv)
theorem RangeIn.of_bk {W : World} {A : Nat} {t : TypeId} {L : List Value} (h : Bk W A t L.toArray) : RangeIn W A L := ⟨h.lt, fun j v hv => by
  rw [Nat.zero_add]
  refine (h.cell j).trans ?_
  simpa using hv⟩
theorem id_agg (w : World) : (isAgg 25).run Tryd.prog w = .ok true w := by kernel_rfl
theorem id_size (w : World) : (sizeOf 25).run Tryd.prog w = .ok 32 w := by kernel_rfl
theorem id_cells (w : World) (A : Nat) (L : List Value) (hl : L.length = 32) (h : w.rangeAt A 0 L) : (loadCellsFrom ⟨A, 0, none⟩ 0 32 #[]).run Tryd.prog w = .ok L.toArray w := by
  have e := run_loadCells_list (P := Tryd.prog) w ⟨A, 0, none⟩ L (fun j v hv => by rw [Addr.add_mid]; exact h j v hv)
  rw [hl] at e
  exact e

set_option maxRecDepth 100000 in
set_option maxHeartbeats 20000000 in
theorem region13 (tl : TypeId) (sz : Nat) (W : World) (s : Option Addr) (n cap A C : Nat) (xs : List Nat) (LO LU : List Value) (v1 v2 v3 v6 v7 v8 v9 v10 v11 v12 v13 v14 v15 v16 v17 v18 v19 v20 v21 v22 v23 v24 v25 v26 v27 v28 v29 v30 v31 v32 v33 v34 v35 : Value) (Q : Exit → Act → World → Prop) (HLW : Hid (Laid W)) (HBW : Hid (BsV W W.heap.size (.slice s n cap) xs)) (HRA : RangeIn W A LO) (HRC : RangeIn W C LU)
    (hra : W.rangeAt A 0 LO) (hrc : W.rangeAt C 0 LU)
    (hag : ∀ w : World, (isAgg tl).run Tryd.prog w = .ok true w) (hsz : ∀ w : World, (sizeOf tl).run Tryd.prog w = .ok sz w)
    (hla : ∀ w : World, w.rangeAt A 0 LO → (loadCellsFrom ⟨A, 0, none⟩ 0 sz #[]).run Tryd.prog w = .ok LO.toArray w) (hlc : ∀ w : World, w.rangeAt C 0 LU → (loadCellsFrom ⟨C, 0, none⟩ 0 sz #[]).run Tryd.prog w = .ok LU.toArray w)
    (hgd : ∀ op a b w, (eqGuard op 25 a b (.agg LO.toArray) (.agg LO.toArray)).run Tryd.prog w = .ok () w) (heq : ∀ w, (binOp .eql 25 (.agg LO.toArray) (.agg LO.toArray)).run Tryd.prog w = .ok (.bool true) w)
    (hgd2 : ∀ op a b w, (eqGuard op 25 a b (.agg LU.toArray) (.agg LU.toArray)).run Tryd.prog w = .ok () w) (heq2 : ∀ w, (binOp .eql 25 (.agg LU.toArray) (.agg LU.toArray)).run Tryd.prog w = .ok (.bool true) w)
    (HS1 : Hid (∀ sp W, Laid W → PartsV W sp [xs] → Calls Tryd.prog 11 #[.slice sp 1 1] W fun e w' => e = .returned (.agg LO.toArray) ∧ Below W.heap.size W w'))
    (HT1 : Hid (∀ sp W, Laid W → PartsV W sp [xs] → Calls Tryd.prog 13 #[.slice sp 1 1] W fun e w' => e = .returned (.agg LU.toArray) ∧ Below W.heap.size W w'))
    (hQ : ∀ x36 x37 x38 x39 x40 x41 x42 x43 x44 x45 x46 x47 w', Below W.heap.size W w' → Q .normal { tmps := #[Value.slice s n cap, v1, Value.bool true, v3, Value.pointer (some { block := A, off := 0 }), Value.pointer (some { block := C, off := 0 }), v6, v7, v8, v9, v10, v11, v12, v13, v14, v15, v16, v17, v18, v19, v20, v21, v22, v23, v24, v25, v26, v27, v28, v29, v30, v31, v32, v33, v34, v35, x36, x37, x38, x39, x40, x41, x42, x43, x44, x45, x46, x47], defers := [] } w') :
    Code.wp Tryd.prog (Code.region 13 #[{ dst := some 36, op := Op.load tl (Operand.tmp 4), type := 25, pos := "law.go:114", after := #[], guard := none },
{ dst := some 37, op := Op.move (Operand.tmp 0), type := 22, pos := "law.go:114", after := #[], guard := none },
{ dst := some 38, op := Op.buildSlice 29 1 #[(0, Operand.tmp 37)], type := 29, pos := "law.go:114", after := #[{ on := 1, ground := Ground.data }], guard := none },
{ dst := some 39, op := Op.call { callee := Callee.value (Operand.func 11), args := #[Operand.tmp 38], argTypes := #[29] }, type := 25, pos := "law.go:114", after := #[{ on := 2, ground := Ground.data }], guard := none },
{ dst := some 40, op := Op.binOp BinOp.eql 25 (Operand.tmp 36) (Operand.tmp 39) 25, type := 4, pos := "law.go:114", after := #[{ on := 0, ground := Ground.data }, { on := 3, ground := Ground.data }], guard := none },
{ dst := some 41, op := Op.move (Operand.tmp 40), type := 4, pos := "law.go:114", after := #[{ on := 4, ground := Ground.data }, { on := 3, ground := Ground.chain }], guard := none },
{ dst := some 42, op := Op.load tl (Operand.tmp 5), type := 25, pos := "law.go:114", after := #[{ on := 5, ground := Ground.guard }], guard := some (5, true) },
{ dst := some 43, op := Op.move (Operand.tmp 0), type := 22, pos := "law.go:114", after := #[{ on := 5, ground := Ground.guard }], guard := some (5, true) },
{ dst := some 44, op := Op.buildSlice 29 1 #[(0, Operand.tmp 43)], type := 29, pos := "law.go:114", after := #[{ on := 7, ground := Ground.data }, { on := 5, ground := Ground.guard }], guard := some (5, true) },
{ dst := some 45, op := Op.call { callee := Callee.value (Operand.func 13), args := #[Operand.tmp 44], argTypes := #[29] }, type := 25, pos := "law.go:114", after := #[{ on := 8, ground := Ground.data }, { on := 5, ground := Ground.chain }, { on := 5, ground := Ground.guard }], guard := some (5, true) },
{ dst := some 46, op := Op.binOp BinOp.eql 25 (Operand.tmp 42) (Operand.tmp 45) 25, type := 4, pos := "law.go:114", after := #[{ on := 6, ground := Ground.data }, { on := 9, ground := Ground.data }, { on := 5, ground := Ground.guard }], guard := some (5, true) },
{ dst := some 47, op := Op.pick (Operand.tmp 41) (Operand.tmp 46) (Operand.const (Value.bool false)), type := 4, pos := "law.go:114", after := #[{ on := 5, ground := Ground.data }, { on := 10, ground := Ground.data }], guard := none },
{ dst := some 2, op := Op.assign (Operand.tmp 47), type := 4, pos := "law.go:114", after := #[{ on := 11, ground := Ground.data }, { on := 9, ground := Ground.chain }, { on := 0, ground := Ground.phase }, { on := 1, ground := Ground.phase }, { on := 2, ground := Ground.phase }, { on := 3, ground := Ground.phase }, { on := 4, ground := Ground.phase }, { on := 5, ground := Ground.phase }, { on := 6, ground := Ground.phase }, { on := 7, ground := Ground.phase }, { on := 8, ground := Ground.phase }, { on := 9, ground := Ground.phase }, { on := 10, ground := Ground.phase }, { on := 11, ground := Ground.phase }], guard := none }] true) Q { tmps := #[Value.slice s n cap, v1, v2, v3, Value.pointer (some { block := A, off := 0 }), Value.pointer (some { block := C, off := 0 }), v6, v7, v8, v9, v10, v11, v12, v13, v14, v15, v16, v17, v18, v19, v20, v21, v22, v23, v24, v25, v26, v27, v28, v29, v30, v31, v32, v33, v34, v35, undef, undef, undef, undef, undef, undef, undef, undef, undef, undef, undef, undef], defers := [] } W := by
  go_region_held3 (fun w' => W.heap.size ≤ w'.heap.size ∧ w'.rangeAt A 0 LO ∧ w'.rangeAt C 0 LU) ((refine ⟨?_, ?_, ?_⟩; (focus (first | omega | (simp; done) | (simp; omega) | (simp [World.drew]; done) | (simp [World.drew]; omega))); (focus (refine HRA.keep ?_; repeat' (first | with_reducible exact Below.refl _ _ | with_reducible assumption | with_reducible exact From.out (by with_reducible assumption) | with_reducible refine Below.drew ?_ | with_reducible refine Below.setCell ?_ ?_ _ | with_reducible refine Below.alloc ?_ ?_ _ | with_reducible exact Nat.le_refl _ | omega | (simp; done) | (simp; omega) | (simp [World.drew]; done) | (simp [World.drew]; omega)))); (focus (refine HRC.keep ?_; repeat' (first | with_reducible exact Below.refl _ _ | with_reducible assumption | with_reducible exact From.out (by with_reducible assumption) | with_reducible refine Below.drew ?_ | with_reducible refine Below.setCell ?_ ?_ _ | with_reducible refine Below.alloc ?_ ?_ _ | with_reducible exact Nat.le_refl _ | omega | (simp; done) | (simp; omega) | (simp [World.drew]; done) | (simp [World.drew]; omega))))))
    (first
      | (go_at_call 11
         refine (HS1.out _ _ ?_ ?_).mono ?_
         · refine HLW.out.keep ?_
           repeat' (first | with_reducible exact Below.refl _ _ | with_reducible assumption | with_reducible exact From.out (by with_reducible assumption) | with_reducible refine Below.drew ?_ | with_reducible refine Below.setCell ?_ ?_ _ | with_reducible refine Below.alloc ?_ ?_ _ | with_reducible exact Nat.le_refl _ | omega | (simp; done) | (simp; omega) | (simp [World.drew]; done) | (simp [World.drew]; omega))
         · refine parts_bs (u := 22) (v := .slice s n cap) (HBW.out.keep (C := W.heap.size) ?_ (Nat.le_refl _)) ?_ ?_
           · repeat' (first | with_reducible exact Below.refl _ _ | with_reducible assumption | with_reducible exact From.out (by with_reducible assumption) | with_reducible refine Below.drew ?_ | with_reducible refine Below.setCell ?_ ?_ _ | with_reducible refine Below.alloc ?_ ?_ _ | with_reducible exact Nat.le_refl _ | omega | (simp; done) | (simp; omega) | (simp [World.drew]; done) | (simp [World.drew]; omega))
           · first | omega | (simp; done) | (simp; omega) | (simp [World.drew]; done) | (simp [World.drew]; omega)
           · repeat' (first | with_reducible assumption | with_reducible exact Bk.new _ _ _ | with_reducible refine Bk.new' _ _ _ ?_ | with_reducible refine Bk.alloc ?_ _ | with_reducible refine Bk.drew ?_ | (with_reducible refine Bk.keep ?_ (by with_reducible assumption)) | (simp; done) | (simp; omega) | (simp [World.drew]; done) | (simp [World.drew]; omega))
         rintro e w6 ⟨rfl, hb6⟩
         have hE6 : From W w6 := by
           refine below_step ?_ ?_ hb6
           · repeat' (first | with_reducible exact Below.refl _ _ | with_reducible assumption | with_reducible exact From.out (by with_reducible assumption) | with_reducible refine Below.drew ?_ | with_reducible refine Below.setCell ?_ ?_ _ | with_reducible refine Below.alloc ?_ ?_ _ | with_reducible exact Nat.le_refl _ | omega | (simp; done) | (simp; omega) | (simp [World.drew]; done) | (simp [World.drew]; omega))
           · first | omega | (simp; done) | (simp; omega) | (simp [World.drew]; done) | (simp [World.drew]; omega)
         have z6 := hE6.out.size)
      | (go_at_call 13
         refine (HT1.out _ _ ?_ ?_).mono ?_
         · refine HLW.out.keep ?_
           repeat' (first | with_reducible exact Below.refl _ _ | with_reducible assumption | with_reducible exact From.out (by with_reducible assumption) | with_reducible refine Below.drew ?_ | with_reducible refine Below.setCell ?_ ?_ _ | with_reducible refine Below.alloc ?_ ?_ _ | with_reducible exact Nat.le_refl _ | omega | (simp; done) | (simp; omega) | (simp [World.drew]; done) | (simp [World.drew]; omega))
         · refine parts_bs (u := 22) (v := .slice s n cap) (HBW.out.keep (C := W.heap.size) ?_ (Nat.le_refl _)) ?_ ?_
           · repeat' (first | with_reducible exact Below.refl _ _ | with_reducible assumption | with_reducible exact From.out (by with_reducible assumption) | with_reducible refine Below.drew ?_ | with_reducible refine Below.setCell ?_ ?_ _ | with_reducible refine Below.alloc ?_ ?_ _ | with_reducible exact Nat.le_refl _ | omega | (simp; done) | (simp; omega) | (simp [World.drew]; done) | (simp [World.drew]; omega))
           · first | omega | (simp; done) | (simp; omega) | (simp [World.drew]; done) | (simp [World.drew]; omega)
           · repeat' (first | with_reducible assumption | with_reducible exact Bk.new _ _ _ | with_reducible refine Bk.new' _ _ _ ?_ | with_reducible refine Bk.alloc ?_ _ | with_reducible refine Bk.drew ?_ | (with_reducible refine Bk.keep ?_ (by with_reducible assumption)) | (simp; done) | (simp; omega) | (simp [World.drew]; done) | (simp [World.drew]; omega))
         rintro e w7 ⟨rfl, hb7⟩
         have hE7 : From W w7 := by
           refine below_step ?_ ?_ hb7
           · repeat' (first | with_reducible exact Below.refl _ _ | with_reducible assumption | with_reducible exact From.out (by with_reducible assumption) | with_reducible refine Below.drew ?_ | with_reducible refine Below.setCell ?_ ?_ _ | with_reducible refine Below.alloc ?_ ?_ _ | with_reducible exact Nat.le_refl _ | omega | (simp; done) | (simp; omega) | (simp [World.drew]; done) | (simp [World.drew]; omega))
           · first | omega | (simp; done) | (simp; omega) | (simp [World.drew]; done) | (simp [World.drew]; omega)
         have z7 := hE7.out.size))
  all_goals exact hQ _ _ _ _ _ _ _ _ _ _ _ _ _ (by repeat' (first | with_reducible exact Below.refl _ _ | with_reducible assumption | with_reducible exact From.out (by with_reducible assumption) | with_reducible refine Below.drew ?_ | with_reducible refine Below.setCell ?_ ?_ _ | with_reducible refine Below.alloc ?_ ?_ _ | with_reducible exact Nat.le_refl _ | omega | (simp; done) | (simp; omega) | (simp [World.drew]; done) | (simp [World.drew]; omega)))

theorem byte_up (y : Nat) : IntKind.u8.wrap ((y : Int) + 1) = (((y + 1) % 256 : Nat) : Int) := by
  simp [IntKind.wrap, IntKind.signed, IntKind.bits]
theorem idA_put (ys : List Nat) (k y : Nat) : (idA ys).setIfInBounds k (.int .u8 (y : Int)) = idA (ys.set k y) := by
  unfold idA byteV
  simp [List.map_set]
set_option maxRecDepth 100000 in
set_option maxHeartbeats 1000000 in
theorem walk_big (s : Option Addr) (len cap : Nat) (w : World) (hL : Laid w) (h : 1000 < len) :
    Calls Tryd.prog 9 #[.slice s len cap] w fun e w' => e = .returned (.bool true) ∧ Below w.heap.size w w' := by
  have hz : (1000 : Int) < (len : Int) := by omega
  go_enter Tryd.func9, Tryd.ntmps9
  go_wp2_with fail
  refine (known_any _ hL).mono ?_
  rintro e w1 ⟨rfl, hb1⟩
  go_wp2_with fail
  go_ret
  exact ⟨rfl, hb1⟩

set_option maxRecDepth 100000 in
set_option maxHeartbeats 1000000 in
theorem walk (xs : List Nat) (v : Value) (w : World) (hL : Laid w) (hb : BsV w w.heap.size v xs) :
    Calls Tryd.prog 9 #[v] w fun e w' => e = .returned (.bool true) ∧ Below w.heap.size w w' := by
  have hb0 := hb
  obtain ⟨s, cap, rfl, hc1, hc2, hx, hsrc⟩ := hb
  rcases Nat.lt_or_ge 1000 xs.length with h | h
  · exact walk_big _ _ _ w hL h
  obtain ⟨n, hn⟩ : ∃ n, n = xs.length := ⟨_, rfl⟩
  rw [← hn] at hc1 h hb0 ⊢
  have hz : decide ((1000 : Int) < (n : Int)) = false := decide_eq_false (by omega)
  have HB := Lib.hid hb0
  have HL := Lib.hid hL
  have HX := Lib.hid hx
  have HN := Lib.hid hn
  clear hn hL hx hsrc hb0
  go_enter Tryd.func9, Tryd.ntmps9
  go_wp2_with fail
  refine (known_any _ HL.out).mono ?_
  rintro e w1 ⟨rfl, hb1⟩
  obtain ⟨T, cM, z, W, happ, KT, hc3, hc4, hgT, hbT⟩ := app xs n HN.out s cap w1.heap.size (w1.alloc (.cells #[] 5)) (((HB.out.keep hb1 (Nat.le_refl _)).keep ((Below.refl w1.heap.size w1).alloc (Nat.le_refl _) _) hb1.size).mono (by have := hb1.size; simp; omega)) (by have := HN.out; omega) (Bk.new _ _ _)
  have hW : Below w.heap.size w W := (hb1.alloc hb1.size _).trans (hbT.mono hb1.size)
  have hwT : w.heap.size ≤ T := Nat.le_trans hb1.size hgT
  clear hbT hgT hb1
  go_upto_region 6 with (at_builtin; refine wpList_app (v1 := .slice (some ⟨w1.heap.size, 0, none⟩) 0 0) (v2 := .slice s n cap) (v := .slice (some ⟨T, 0, none⟩) n cM) rfl (.tmp 12) (.tmp 13) rfl rfl rfl rfl happ ?_)
  clear happ
  have hall : ∀ y ∈ xs ++ zeros z, y < 256 := by
    intro y hy
    rcases List.mem_append.1 hy with h | h
    · exact HX.out y h
    · have := List.eq_of_mem_replicate h
      omega
  have hM : BsV W W.heap.size (.slice (some ⟨T, 0, none⟩) n cM) xs := by
    have h := bs_row KT (n := n) (cap := cM) (by rw [HN.out]; simp) hc3 hc4 hall
    have e : (xs ++ zeros z).take n = xs := by rw [HN.out]; simp
    rw [e] at h
    exact h
  have hle : n ≤ (xs ++ zeros z).length := by rw [HN.out]; simp
  have HM := Lib.hid hM
  have hol : (sha xs).length = 32 := rfl
  have hql : (sha (sha xs)).length = 32 := rfl
  have HS : Hid (∀ sp W, Laid W → PartsV W sp [xs] → Calls Tryd.prog 11 #[.slice sp 1 1] W fun e w' => e = .returned (idv (sha xs)) ∧ Below W.heap.size W w') := fun sp W h1 h2 => sum1 xs sp 1 W h1 (by have := HN.out; omega) h2
  have HT : Hid (∀ sp W, Laid W → PartsV W sp [xs] → Calls Tryd.prog 13 #[.slice sp 1 1] W fun e w' => e = .returned (idv (sha (sha xs))) ∧ Below W.heap.size W w') := fun sp W h1 h2 => twice1 xs sp 1 W h1 (by have := HN.out; omega) h2
  generalize sha (sha xs) = U at *
  generalize sha xs = O at *
  have HOL := Lib.hid hol
  have HQL := Lib.hid hql
  generalize hys : xs ++ zeros z = ys0 at *
  have HA := Lib.hid hall
  clear hol hql hM hys hall
  go_wp2_with fail
  have hA := hW.alloc hW.size (.cells #[.slice (some ⟨T, 0, none⟩) n cM] 22)
  refine (HS.out _ _ (HL.out.keep hA) (parts_bs (HM.out.keep ((Below.refl W.heap.size W).alloc (Nat.le_refl _) _) (Nat.le_refl _)) (by simp) (Bk.new _ _ _))).mono ?_
  rintro e w2 ⟨rfl, hb2⟩
  have hM2 : Below W.heap.size W w2 := below_step ((Below.refl _ _).alloc (Nat.le_refl _) _) (by simp) hb2
  have hW2 := below_step hW hW.size hM2
  clear hA hb2
  go_wp2_with fail
  have hA2 := hW2.alloc hW2.size (.cells #[.slice (some ⟨T, 0, none⟩) n cM] 22)
  refine (HT.out _ _ (HL.out.keep hA2) (parts_bs ((HM.out.keep hM2 (Nat.le_refl _)).keep ((Below.refl w2.heap.size w2).alloc (Nat.le_refl _) _) hM2.size) (by have := hM2.size; simp; omega) (Bk.new _ _ _))).mono ?_
  rintro e w3 ⟨rfl, hb3⟩
  have hM3 : Below W.heap.size W w3 := below_step (hM2.alloc hM2.size _) (by have := hM2.size; simp; omega) hb3
  have hW3 := below_step hW hW.size hM3
  have K3 := KT.keep hM3
  clear hA2 hb3 hM2 hM3 hW2 HM KT hW
  have hT3 := K3.lt
  go_upto_region 7 with (first
    | refine wpList_store_mid rfl 25 (.tmp 4) (.tmp 17) rfl w3.heap.size 0 (idA O) rfl rfl (by rw [idA_size, HOL.out]; exact ((Bk.new w3 25 (idA (zeros 32))).alloc _).there 32 (by rw [idA_size]; decide)) (by rw [idA_size, HOL.out]; exact id_info') (all_oneCell_toArray (by intro v hv; simp only [List.mem_map] at hv; obtain ⟨x, _, rfl⟩ := hv; rfl)) ?_
    | refine wpList_store_mid rfl 25 (.tmp 5) (.tmp 20) rfl (w3.heap.size + 1) 0 (idA U) rfl rfl (by rw [idA_size, HQL.out]; exact ((Bk.new' (w3.alloc (.cells (idA (zeros 32)) 25)) 25 (idA (zeros 32)) (by simp)).farCells (by omega) _ _).there 32 (by rw [idA_size]; decide)) (by rw [idA_size, HQL.out]; exact id_info') (all_oneCell_toArray (by intro v hv; simp only [List.mem_map] at hv; obtain ⟨x, _, rfl⟩ := hv; rfl)) ?_)
  refine wp_any (fun Z => Below w.heap.size w Z ∧ Bk Z w3.heap.size 25 (idA O) ∧ Bk Z (w3.heap.size + 1) 25 (idA U) ∧ Bk Z T 5 (idA ys0))
    ⟨Below.setCells (by have := hW3.size; omega) _ _ _ (Below.setCells hW3.size _ _ _ ((hW3.alloc hW3.size _).alloc (by have := hW3.size; simp; omega) _)),
     (((Bk.new w3 25 (idA (zeros 32))).alloc _).setAll (by rw [idA_size, idA_size, HOL.out]; rfl)).farCells (by omega) _ _,
     ((Bk.new' (w3.alloc (.cells (idA (zeros 32)) 25)) 25 (idA (zeros 32)) (by simp)).farCells (by omega) _ _).setAll (by rw [idA_size, idA_size, HQL.out]; rfl),
     (((K3.alloc _).alloc _).farCells (by omega) _ _).farCells (by omega) _ _⟩ ?_
  have hA0 := hW3.size
  clear hW3 K3
  generalize w3.heap.size = A at *
  rintro Z ⟨hW, KA, KC, KT⟩
  have hwA : w.heap.size ≤ A := hA0
  have hne1 : A ≠ T := by omega
  have hne2 : A + 1 ≠ T := by omega
  clear hA0 hT3
  have hle0 := hle
  generalize hm : ys0.length = m at hle0
  have HNM := Lib.hid hm
  clear hm hle
  go_wp2_with fail
  go_loopw [23] (fun i wr => ∃ (k : Nat) (ys : List Nat), k ≤ n ∧ i = .int .i64 k ∧ ys.length = m ∧ Hid (∀ y ∈ ys, y < 256) ∧ Below w.heap.size w wr ∧ Bk wr A 25 (idA O) ∧ Bk wr (A + 1) 25 (idA U) ∧ Bk wr T 5 (idA ys)) (fun i _ => n - (intOf i).toNat)
  case atStart => exact ⟨0, ys0, Nat.zero_le _, rfl, HNM.out, HA, hW, KA, KC, KT⟩
  case round =>
    obtain ⟨k, ys, hk, rfl, hlen, hyl, hbe, A1, C1, T1⟩ := hrel
    clear KA KC KT hW HA HNM
    by_cases hlt : k < n
    · have hc := (T1.cell k).trans (idA_get ys k (by omega))
      have hf := T1.frozen k
      have hz3 := T1.lt
      generalize hy : ys.getD k 0 = y at hc
      have HW8 := Lib.hid (byte_up y)
      go_wp2_with fail
      go_roundw
      case rel =>
        refine ⟨k + 1, ys.set k ((y + 1) % 256), by omega, by go_num, by rw [List.length_set]; exact hlen, ?_, hbe.setCell (by show w.heap.size ≤ T; omega) _, A1.far (by show A ≠ T; omega) _, C1.far (by show A + 1 ≠ T; omega) _, ?_⟩
        · intro x hx
          rcases List.mem_or_eq_of_mem_set hx with h | h
          · exact hyl.out x h
          · omega
        · have e := T1.set_ k (.int .u8 (((y + 1) % 256 : Nat) : Int))
          rw [idA_set] at e
          first | exact e | (rw [← HW8.out] at e; exact e)
      case measure => simp [intOf]; omega
    · have hkn : k = n := by omega
      have hdk : decide (k < n) = false := decide_eq_false (by omega)
      have hM := bs_row T1 (n := n) (cap := cM) (by omega) hc3 hc4 hyl.out
      have HM := Lib.hid hM
      have hl1 : (ys.take n).length < 1152921504606846976 := by rw [List.length_take]; omega
      generalize ys.take n = zs at *
      have HS9 := fun sp W h1 h2 => sum1 zs sp 1 W h1 hl1 h2
      generalize sha zs = R at *
      have HS9 := Lib.hid HS9
      clear hlt hk hM hl1 hkn hlen hyl
      go_wp2_with fail
      have hA2 := hbe.alloc hbe.size (.cells #[.slice (some ⟨T, 0, none⟩) n cM] 22)
      refine (HS9.out _ _ (HL.out.keep hA2) (parts_bs (HM.out.keep ((Below.refl wr.heap.size wr).alloc (Nat.le_refl _) _) (Nat.le_refl _)) (by simp) (Bk.new _ _ _))).mono ?_
      rintro e w5 ⟨rfl, hb5⟩
      have hE5 : Below wr.heap.size wr w5 := below_step ((Below.refl _ _).alloc (Nat.le_refl _) _) (by simp) hb5
      have hW5 := below_step hbe hbe.size hE5
      have A5 := A1.keep hE5
      have C5 := C1.keep hE5
      clear hA2 hb5 hE5 hbe A1 C1 T1 HM HS9
      go_upto_region 13 with fail
      refine region13 25 32 w5 s n cap A (A + 1) xs (O.map byteV) (U.map byteV) _ _ _ _ _ _ _ _ _ _ _ _ _ _ _ _ _ _ _ _ _ _ _ _ _ _ _ _ _ _ _ _ _ _ (Lib.hid (HL.out.keep hW5)) (Lib.hid ((HB.out.keep hW5 (Nat.le_refl _)).mono hW5.size)) (RangeIn.of_bk A5) (RangeIn.of_bk C5) (RangeIn.of_bk A5).2 (RangeIn.of_bk C5).2 id_agg id_size (fun w h => id_cells w A (O.map byteV) (by rw [List.length_map]; exact HOL.out) h) (fun w h => id_cells w (A + 1) (U.map byteV) (by rw [List.length_map]; exact HQL.out) h) (id_guard O O) (id_bin O HOL.out) (id_guard U U) (id_bin U HQL.out) HS HT (fun x36 x37 x38 x39 x40 x41 x42 x43 x44 x45 x46 x47 w' hbc => ?_)
      show Exit.then _ _ Exit.normal _ w'
      go_wp2_with fail
      go_ret
      exact ⟨rfl, below_step hW5 hW5.size hbc⟩
/-- The door's own heap meets the condition. -/
theorem door_met (os : Os) (args : Array Value) : laidMetH Tryd.prog laidL ((World.doorLaid Tryd.prog 19 os).forCall (fun _ _ => 0) ⟨#[], args, []⟩).memory :=
  laidMetH_of_parts3 (fuel := 8) (laidMet_of_run' 8 (by kernel_rfl) (by kernel_rfl)) (by kernel_rfl) (by kernel_rfl)

set_option maxRecDepth 100000 in
theorem lifted (os : Os) (started : os.Started) (H : Type) (enc : TypeId × Value → H) :
    ReturnsInHanded {} Tryd.checked os 9 .any (fun w args => (Rows.hashOwnSpec.pre enc Tryd.prog Tryd.f9 [] false w args ∧ laidMetH Tryd.prog laidL w) ∧ sizedMet enc Tryd.prog Tryd.f9 (OpenSpec.ofChange Rows.hashOwnSpec) false w args)
      (Rows.hashOwnSpec.post enc Tryd.prog Tryd.f9 false true false false) := by
  refine returnsInHanded_of_change_and (C := Tryd.checked) (X := fun w _ => laidMetH Tryd.prog laidL w) (fun _ _ _ hh h => h.of_heap hh) own started (by kernel_rfl) Tryd.func9
    (ChangeSpec.witness_shaped (enc := enc) (C := Tryd.checked) (os := os) (X := fun w _ => laidMetH Tryd.prog laidL w) false (World.doorLaid Tryd.prog 19 os) #[.slice none 0 0] 8 rfl (World.shaped_of_RefB (by kernel_rfl) (by kernel_rfl)) (by kernel_rfl) (by kernel_rfl) (by kernel_rfl) (door_met os _)) ?_
  intro W base args ds gs before hval0 hW _ _ hL _
  have hval : ∀ (j : Nat) t v, Tryd.f9.params[j]? = some t → args[j]? = some v → Value.okWide Tryd.prog W .any base t v := hval0
  have hW' := hW
  obtain ⟨p, q, hA0, hV, rfl, hfz, hnd⟩ := hW
  have hA : DataW.TrodAll enc Tryd.prog W 0 (fun _ => true) true Tryd.f9.params.toList args.toList ds p := hA0
  rw [Tryd.params9] at hA hval
  obtain ⟨v0, vs0, d0, ds0, p0, q0, hargs, rfl, rfl, h0, r0⟩ := trodAll_cons hA
  obtain ⟨rfl, rfl, rfl⟩ := trodAll_nil r0
  obtain rfl : args = #[v0] := by cases args; simp_all
  obtain ⟨rfl, rfl⟩ := trodVars_none hV
  have lt0 : ∀ x ∈ p0, x.block < W.heap.size := by obtain ⟨m, hm⟩ := h0; exact DataW.trod_lt m _ _ _ hm
  obtain ⟨xs, hb⟩ := bytes_arg (hval 0 22 v0 rfl rfl) h0
  have hwalk := walk xs v0 W (of_laid hL) hb
  clear hA0 hval0
  refine hwalk.mono fun e W' ⟨he, bel⟩ => ?_
  subst he
  exact ⟨_, rfl, _, _, _, [], _, [], hW', trodAll_mk1 (shut_bool Tryd.underlying4 _), (trodAll_cons_mk (Below.trod laidOut (by kernel_rfl) (of_decide_eq_true (by kernel_rfl)) h0 bel lt0) trodAll_mk0), rfl, bel.frame _, fun h => by cases h⟩

theorem over : Rows.HashOwnSaid :=
  OpenClaim.holds_of_wide 9 Tryd.f9 rfl rfl rfl rfl rfl rfl rfl ⟨rfl, rfl, rfl, rfl, rfl⟩ rfl rfl rfl rfl rfl (by kernel_rfl) Tryd.func9 (by kernel_rfl)
    (of_decide_eq_true (by kernel_rfl)) (by unfold Func.isWrapper; first | (rw [if_pos (by decide +kernel)]; kernel_rfl) | (rw [if_neg (by decide +kernel)]; exact ⟨rfl, rfl⟩))
    (fun os started H enc _ => lifted os started H enc)

theorem proved : Rows.HashOwnCardSaid :=
  Claim7.holds_tied_plain_at .later [] [.data, .data] true Rows.hashOwnCard.stood.harness false
    over (fun _ h => by cases h) (by kernel_rfl) (fun _ h => by cases h) hashOwn_row_tie rfl ⟨rfl, rfl⟩ (by kernel_rfl) rfl
    (fun f fn hf hfn => by
      obtain rfl : f = 9 := Option.some.inj ((show Tryd.prog.funcNamed "tallystick/tallysticklaw01.HashOwn" = some 9 by kernel_rfl).symm.trans hf) |>.symm
      obtain rfl : fn = Tryd.f9 := (Option.some.inj (Tryd.func9.symm.trans hfn)).symm
      exact ⟨by kernel_rfl, fun j t ht => by
        rw [Tryd.params9] at ht
        have hm : t ∈ [22] := by simpa using Array.mem_of_getElem? ht
        have hall : ([22].all fun u => !Tryd.prog.wantsStandIn u) = true := by kernel_rfl
        exact (show Tryd.prog.wantsStandIn t = false by simpa using List.all_eq_true.1 hall t hm)⟩)
    (by kernel_rfl)
#print axioms proved
end Go.Proofs.YtflpeohhlmainaaDoor.hashOwn
