/-
  What is proved: for every slice of slices of bytes the law HashParts returns true, and its argument reads behind the call as it read before; the two listed tables of package hash are taken to hold what the program's text lays in them, and the card ties them to it.
-/
import Derived.Test.YtiiaijoafahdmaaDoorAppM
import Derived.Test.YtiiaijoafahdmaaDoorPartsA
import Derived.Test.YtiiaijoafahdmaaDoorStr
import Derived.Test.YtiiaijoafahdmaaDoorTie
import Derived.Test.YtiiaijoafahdmaaDoorCards
import Derived.Stop.Joined
import Derived.Deep.Upon
namespace Go.Proofs.YtiiaijoafahdmaaDoor.hashParts
open Go.ChangeShapes Go.WideShapes Go.ChangeAt Go.RowKit
set_option linter.unusedVariables false

theorem own : ownKnob Tryd.prog.godebug = none := by kernel_rfl
theorem laidOut : laidOutB Tryd.prog = true := by kernel_rfl
attribute [local go_sem ↓] Go.wp_at_zero Go.wp_at_succ

/-- A row's cells, kept. -/
def RangeIn (W : World) (A : Nat) (L : List Value) : Prop := A < W.heap.size ∧ W.rangeAt A 0 L
theorem RangeIn.keep {W w : World} {A : Nat} {L : List Value} (h : RangeIn W A L) (hb : Below W.heap.size W w) : w.rangeAt A 0 L := fun j v hv => (hb.cell (p := ⟨A, 0 + j, none⟩) h.1).trans (h.2 j v hv)
theorem RangeIn.of_bk {W : World} {A : Nat} {t : TypeId} {L : List Value} (h : Bk W A t L.toArray) : RangeIn W A L := ⟨h.lt, fun j v hv => by
  rw [Nat.zero_add]
  refine (h.cell j).trans ?_
  simpa using hv⟩
theorem id_agg (w : World) : (isAgg 25).run Tryd.prog w = .ok true w := by kernel_rfl
theorem id_size (w : World) : (sizeOf 25).run Tryd.prog w = .ok 32 w := by kernel_rfl
theorem id_cells (w : World) (A : Nat) (L : List Value) (hl : L.length = 32) (h : w.rangeAt A 0 L) : (loadCellsFrom ⟨A, 0, none⟩ 0 32 #[]).run Tryd.prog w = .ok L.toArray w := by
  have e := run_loadCells_list (P := Tryd.prog) w ⟨A, 0, none⟩ L (fun j v hv => by rw [Addr.add_mid]; exact h j v hv)
  rw [hl] at e
  exact e


set_option maxRecDepth 100000 in
set_option maxHeartbeats 20000000 in
theorem region21 (tl : TypeId) (sz : Nat) (W : World) (sp s3 : Option Addr) (m kc n3 c3 A C : Nat) (str : ByteArray) (vb : Value) (xs : List Nat) (LO LU : List Value) (v1 v2 v4 v5 v10 v11 v12 v13 v14 v15 v16 v17 v18 v19 v20 v21 v22 v23 v24 v25 v26 v27 v28 v29 v30 v31 v32 v33 v34 v35 v36 v37 v38 v39 v40 v41 v42 v43 v44 v45 : Value) (Q : Exit → Act → World → Prop) (HLW : Hid (Laid W)) (HBW : Hid (BsV W W.heap.size (.slice s3 n3 c3) xs)) (HRA : RangeIn W A LO) (HRC : RangeIn W C LU)
    (HCV : Hid (∀ w', Below W.heap.size W w' → (convert 22 9 vb).run Tryd.prog w' = .ok (.string str) w')) (hcv : (convert 22 9 vb).run Tryd.prog W = .ok (.string str) W) (hst : (str.toList == str.toList) = true)
    (hra : W.rangeAt A 0 LO) (hrc : W.rangeAt C 0 LU)
    (hag : ∀ w : World, (isAgg tl).run Tryd.prog w = .ok true w) (hsz : ∀ w : World, (sizeOf tl).run Tryd.prog w = .ok sz w)
    (hla : ∀ w : World, w.rangeAt A 0 LO → (loadCellsFrom ⟨A, 0, none⟩ 0 sz #[]).run Tryd.prog w = .ok LO.toArray w) (hlc : ∀ w : World, w.rangeAt C 0 LU → (loadCellsFrom ⟨C, 0, none⟩ 0 sz #[]).run Tryd.prog w = .ok LU.toArray w)
    (hgd : ∀ op a b w, (eqGuard op 25 a b (.agg LO.toArray) (.agg LO.toArray)).run Tryd.prog w = .ok () w) (heq : ∀ w, (binOp .eql 25 (.agg LO.toArray) (.agg LO.toArray)).run Tryd.prog w = .ok (.bool true) w)
    (hgd2 : ∀ op a b w, (eqGuard op 25 a b (.agg LU.toArray) (.agg LU.toArray)).run Tryd.prog w = .ok () w) (heq2 : ∀ w, (binOp .eql 25 (.agg LU.toArray) (.agg LU.toArray)).run Tryd.prog w = .ok (.bool true) w)
    (HS1 : Hid (∀ sp W, Laid W → PartsV W sp [xs] → Calls Tryd.prog 11 #[.slice sp 1 1] W fun e w' => e = .returned (.agg LO.toArray) ∧ Below W.heap.size W w'))
    (HT1 : Hid (∀ sp W, Laid W → PartsV W sp [xs] → Calls Tryd.prog 13 #[.slice sp 1 1] W fun e w' => e = .returned (.agg LU.toArray) ∧ Below W.heap.size W w'))
    (hQ : ∀ x46 x47 x48 x49 x50 x51 x52 x53 x54 x55 x56 x57 x58 x59 x60 x61 x62 x63 w', Below W.heap.size W w' → Q .normal { tmps := #[Value.slice sp m kc, v1, Value.bool true, Value.slice s3 n3 c3, v4, v5, Value.string str, Value.pointer (some { block := A, off := 0 }), Value.pointer (some { block := C, off := 0 }), vb, v10, v11, v12, v13, v14, v15, v16, v17, v18, v19, v20, v21, v22, v23, v24, v25, v26, v27, v28, v29, v30, v31, v32, v33, v34, v35, v36, v37, v38, v39, v40, v41, v42, v43, v44, v45, x46, x47, x48, x49, x50, x51, x52, x53, x54, x55, x56, x57, x58, x59, x60, x61, x62, x63], defers := [] } w') :
    Code.wp Tryd.prog (Code.region 21 #[{ dst := some 46, op := Op.load tl (Operand.tmp 7), type := 25, pos := "law.go:47", after := #[], guard := none },
{ dst := some 47, op := Op.move (Operand.tmp 3), type := 22, pos := "law.go:47", after := #[], guard := none },
{ dst := some 48, op := Op.buildSlice 29 1 #[(0, Operand.tmp 47)], type := 29, pos := "law.go:47", after := #[{ on := 1, ground := Ground.data }], guard := none },
{ dst := some 49, op := Op.call { callee := Callee.value (Operand.func 11), args := #[Operand.tmp 48], argTypes := #[29] }, type := 25, pos := "law.go:47", after := #[{ on := 2, ground := Ground.data }], guard := none },
{ dst := some 50, op := Op.binOp BinOp.eql 25 (Operand.tmp 46) (Operand.tmp 49) 25, type := 4, pos := "law.go:47", after := #[{ on := 0, ground := Ground.data }, { on := 3, ground := Ground.data }], guard := none },
{ dst := some 51, op := Op.move (Operand.tmp 50), type := 4, pos := "law.go:47", after := #[{ on := 4, ground := Ground.data }, { on := 3, ground := Ground.chain }], guard := none },
{ dst := some 52, op := Op.load tl (Operand.tmp 8), type := 25, pos := "law.go:47", after := #[{ on := 5, ground := Ground.guard }], guard := some (5, true) },
{ dst := some 53, op := Op.move (Operand.tmp 3), type := 22, pos := "law.go:47", after := #[{ on := 5, ground := Ground.guard }], guard := some (5, true) },
{ dst := some 54, op := Op.buildSlice 29 1 #[(0, Operand.tmp 53)], type := 29, pos := "law.go:47", after := #[{ on := 7, ground := Ground.data }, { on := 5, ground := Ground.guard }], guard := some (5, true) },
{ dst := some 55, op := Op.call { callee := Callee.value (Operand.func 13), args := #[Operand.tmp 54], argTypes := #[29] }, type := 25, pos := "law.go:47", after := #[{ on := 8, ground := Ground.data }, { on := 5, ground := Ground.chain }, { on := 5, ground := Ground.guard }], guard := some (5, true) },
{ dst := some 56, op := Op.binOp BinOp.eql 25 (Operand.tmp 52) (Operand.tmp 55) 25, type := 4, pos := "law.go:47", after := #[{ on := 6, ground := Ground.data }, { on := 9, ground := Ground.data }, { on := 5, ground := Ground.guard }], guard := some (5, true) },
{ dst := some 57, op := Op.pick (Operand.tmp 51) (Operand.tmp 56) (Operand.const (Value.bool false)), type := 4, pos := "law.go:47", after := #[{ on := 5, ground := Ground.data }, { on := 10, ground := Ground.data }], guard := none },
{ dst := some 58, op := Op.move (Operand.tmp 57), type := 4, pos := "law.go:47", after := #[{ on := 11, ground := Ground.data }, { on := 9, ground := Ground.chain }], guard := none },
{ dst := some 59, op := Op.move (Operand.tmp 9), type := 22, pos := "law.go:47", after := #[{ on := 12, ground := Ground.guard }], guard := some (12, true) },
{ dst := some 60, op := Op.convert 22 9 (Operand.tmp 59), type := 9, pos := "law.go:47", after := #[{ on := 13, ground := Ground.data }, { on := 12, ground := Ground.guard }], guard := some (12, true) },
{ dst := some 61, op := Op.move (Operand.tmp 6), type := 9, pos := "law.go:47", after := #[{ on := 12, ground := Ground.guard }], guard := some (12, true) },
{ dst := some 62, op := Op.binOp BinOp.eql 9 (Operand.tmp 60) (Operand.tmp 61) 9, type := 4, pos := "law.go:47", after := #[{ on := 14, ground := Ground.data }, { on := 15, ground := Ground.data }, { on := 12, ground := Ground.guard }], guard := some (12, true) },
{ dst := some 63, op := Op.pick (Operand.tmp 58) (Operand.tmp 62) (Operand.const (Value.bool false)), type := 4, pos := "law.go:47", after := #[{ on := 12, ground := Ground.data }, { on := 16, ground := Ground.data }], guard := none },
{ dst := some 2, op := Op.assign (Operand.tmp 63), type := 4, pos := "law.go:47", after := #[{ on := 17, ground := Ground.data }, { on := 12, ground := Ground.chain }, { on := 0, ground := Ground.phase }, { on := 1, ground := Ground.phase }, { on := 2, ground := Ground.phase }, { on := 3, ground := Ground.phase }, { on := 4, ground := Ground.phase }, { on := 5, ground := Ground.phase }, { on := 6, ground := Ground.phase }, { on := 7, ground := Ground.phase }, { on := 8, ground := Ground.phase }, { on := 9, ground := Ground.phase }, { on := 10, ground := Ground.phase }, { on := 11, ground := Ground.phase }, { on := 12, ground := Ground.phase }, { on := 13, ground := Ground.phase }, { on := 14, ground := Ground.phase }, { on := 15, ground := Ground.phase }, { on := 16, ground := Ground.phase }, { on := 17, ground := Ground.phase }], guard := none }] true) Q { tmps := #[Value.slice sp m kc, v1, v2, Value.slice s3 n3 c3, v4, v5, Value.string str, Value.pointer (some { block := A, off := 0 }), Value.pointer (some { block := C, off := 0 }), vb, v10, v11, v12, v13, v14, v15, v16, v17, v18, v19, v20, v21, v22, v23, v24, v25, v26, v27, v28, v29, v30, v31, v32, v33, v34, v35, v36, v37, v38, v39, v40, v41, v42, v43, v44, v45, undef, undef, undef, undef, undef, undef, undef, undef, undef, undef, undef, undef, undef, undef, undef, undef, undef, undef], defers := [] } W := by
  go_region_held3 (fun w' => W.heap.size ≤ w'.heap.size ∧ w'.rangeAt A 0 LO ∧ w'.rangeAt C 0 LU ∧ (convert 22 9 vb).run Tryd.prog w' = .ok (.string str) w') ((refine ⟨?_, ?_, ?_, ?_⟩; (focus (first | omega | (simp; done) | (simp; omega) | (simp [World.drew]; done) | (simp [World.drew]; omega))); (focus (refine HRA.keep ?_; repeat' (first | with_reducible exact Below.refl _ _ | with_reducible assumption | with_reducible exact From.out (by with_reducible assumption) | with_reducible refine Below.drew ?_ | with_reducible refine Below.setCell ?_ ?_ _ | with_reducible refine Below.alloc ?_ ?_ _ | with_reducible exact Nat.le_refl _ | omega | (simp; done) | (simp; omega) | (simp [World.drew]; done) | (simp [World.drew]; omega)))); (focus (refine HRC.keep ?_; repeat' (first | with_reducible exact Below.refl _ _ | with_reducible assumption | with_reducible exact From.out (by with_reducible assumption) | with_reducible refine Below.drew ?_ | with_reducible refine Below.setCell ?_ ?_ _ | with_reducible refine Below.alloc ?_ ?_ _ | with_reducible exact Nat.le_refl _ | omega | (simp; done) | (simp; omega) | (simp [World.drew]; done) | (simp [World.drew]; omega)))); (focus (refine HCV.out _ ?_; repeat' (first | with_reducible exact Below.refl _ _ | with_reducible assumption | with_reducible exact From.out (by with_reducible assumption) | with_reducible refine Below.drew ?_ | with_reducible refine Below.setCell ?_ ?_ _ | with_reducible refine Below.alloc ?_ ?_ _ | with_reducible exact Nat.le_refl _ | omega | (simp; done) | (simp; omega) | (simp [World.drew]; done) | (simp [World.drew]; omega))))))
    (first
      | (go_at_call 11
         refine (HS1.out _ _ ?_ ?_).mono ?_
         · refine HLW.out.keep ?_
           repeat' (first | with_reducible exact Below.refl _ _ | with_reducible assumption | with_reducible exact From.out (by with_reducible assumption) | with_reducible refine Below.drew ?_ | with_reducible refine Below.setCell ?_ ?_ _ | with_reducible refine Below.alloc ?_ ?_ _ | with_reducible exact Nat.le_refl _ | omega | (simp; done) | (simp; omega) | (simp [World.drew]; done) | (simp [World.drew]; omega))
         · refine parts_bs (u := 22) (v := .slice s3 n3 c3) (HBW.out.keep (C := W.heap.size) ?_ (Nat.le_refl _)) ?_ ?_
           · repeat' (first | with_reducible exact Below.refl _ _ | with_reducible assumption | with_reducible exact From.out (by with_reducible assumption) | with_reducible refine Below.drew ?_ | with_reducible refine Below.setCell ?_ ?_ _ | with_reducible refine Below.alloc ?_ ?_ _ | with_reducible exact Nat.le_refl _ | omega | (simp; done) | (simp; omega) | (simp [World.drew]; done) | (simp [World.drew]; omega))
           · first | omega | (simp; done) | (simp; omega) | (simp [World.drew]; done) | (simp [World.drew]; omega)
           · repeat' (first | with_reducible assumption | with_reducible exact Bk.new _ _ _ | with_reducible refine Bk.new' _ _ _ ?_ | with_reducible refine Bk.alloc ?_ _ | with_reducible refine Bk.drew ?_ | (with_reducible refine Bk.keep ?_ (by with_reducible assumption)) | (simp; done) | (simp; omega) | (simp [World.drew]; done) | (simp [World.drew]; omega))
         rintro e w6 ⟨rfl, hb6⟩
         have hE6 : From W w6 := by
           refine below_step ?_ ?_ hb6
           · repeat' (first | with_reducible exact Below.refl _ _ | with_reducible assumption | with_reducible exact From.out (by with_reducible assumption) | with_reducible refine Below.drew ?_ | with_reducible refine Below.setCell ?_ ?_ _ | with_reducible refine Below.alloc ?_ ?_ _ | with_reducible exact Nat.le_refl _ | omega | (simp; done) | (simp; omega) | (simp [World.drew]; done) | (simp [World.drew]; omega))
           · first | omega | (simp; done) | (simp; omega) | (simp [World.drew]; done) | (simp [World.drew]; omega)
         have z6 := hE6.out.size)
      | (go_at_call 13
         refine (HT1.out _ _ ?_ ?_).mono ?_
         · refine HLW.out.keep ?_
           repeat' (first | with_reducible exact Below.refl _ _ | with_reducible assumption | with_reducible exact From.out (by with_reducible assumption) | with_reducible refine Below.drew ?_ | with_reducible refine Below.setCell ?_ ?_ _ | with_reducible refine Below.alloc ?_ ?_ _ | with_reducible exact Nat.le_refl _ | omega | (simp; done) | (simp; omega) | (simp [World.drew]; done) | (simp [World.drew]; omega))
         · refine parts_bs (u := 22) (v := .slice s3 n3 c3) (HBW.out.keep (C := W.heap.size) ?_ (Nat.le_refl _)) ?_ ?_
           · repeat' (first | with_reducible exact Below.refl _ _ | with_reducible assumption | with_reducible exact From.out (by with_reducible assumption) | with_reducible refine Below.drew ?_ | with_reducible refine Below.setCell ?_ ?_ _ | with_reducible refine Below.alloc ?_ ?_ _ | with_reducible exact Nat.le_refl _ | omega | (simp; done) | (simp; omega) | (simp [World.drew]; done) | (simp [World.drew]; omega))
           · first | omega | (simp; done) | (simp; omega) | (simp [World.drew]; done) | (simp [World.drew]; omega)
           · repeat' (first | with_reducible assumption | with_reducible exact Bk.new _ _ _ | with_reducible refine Bk.new' _ _ _ ?_ | with_reducible refine Bk.alloc ?_ _ | with_reducible refine Bk.drew ?_ | (with_reducible refine Bk.keep ?_ (by with_reducible assumption)) | (simp; done) | (simp; omega) | (simp [World.drew]; done) | (simp [World.drew]; omega))
         rintro e w7 ⟨rfl, hb7⟩
         have hE7 : From W w7 := by
           refine below_step ?_ ?_ hb7
           · repeat' (first | with_reducible exact Below.refl _ _ | with_reducible assumption | with_reducible exact From.out (by with_reducible assumption) | with_reducible refine Below.drew ?_ | with_reducible refine Below.setCell ?_ ?_ _ | with_reducible refine Below.alloc ?_ ?_ _ | with_reducible exact Nat.le_refl _ | omega | (simp; done) | (simp; omega) | (simp [World.drew]; done) | (simp [World.drew]; omega))
           · first | omega | (simp; done) | (simp; omega) | (simp [World.drew]; done) | (simp [World.drew]; omega)
         have z7 := hE7.out.size))
  all_goals exact hQ _ _ _ _ _ _ _ _ _ _ _ _ _ _ _ _ _ _ _ (by repeat' (first | with_reducible exact Below.refl _ _ | with_reducible assumption | with_reducible exact From.out (by with_reducible assumption) | with_reducible refine Below.drew ?_ | with_reducible refine Below.setCell ?_ ?_ _ | with_reducible refine Below.alloc ?_ ?_ _ | with_reducible exact Nat.le_refl _ | omega | (simp; done) | (simp; omega) | (simp [World.drew]; done) | (simp [World.drew]; omega)))

set_option maxRecDepth 100000 in
set_option maxHeartbeats 1000000 in
theorem walk_big (s : Option Addr) (len cap : Nat) (w : World) (hL : Laid w) (h : 20 < len) :
    Calls Tryd.prog 4 #[.slice s len cap] w fun e w' => e = .returned (.bool true) ∧ Below w.heap.size w w' := by
  have hz : (20 : Int) < (len : Int) := by omega
  go_enter Tryd.func4, Tryd.ntmps4
  go_wp2_with fail
  refine (known_any _ hL).mono ?_
  rintro e w1 ⟨rfl, hb1⟩
  go_wp2_with fail
  go_ret
  exact ⟨rfl, hb1⟩

theorem mine_slice {W : World} {lo : Nat} {v : Value} {xs : List Nat} (h : Mine W lo v xs) : ∃ s n c, v = .slice s n c := by
  rcases h with ⟨rfl, _⟩ | ⟨T, cap, z, rfl, _⟩
  · exact ⟨_, _, _, rfl⟩
  · exact ⟨_, _, _, rfl⟩
theorem parts_lt {w : World} {sp : Option Addr} {ps : List (List Nat)} (hp : PartsV w sp ps) : ∀ x ∈ ps.flatten, x < 256 := by
  intro x hx
  obtain ⟨xs, hxs, hxm⟩ := List.mem_flatten.1 hx
  obtain ⟨k, hk⟩ := List.mem_iff_getElem?.1 hxs
  obtain ⟨pb, po, _, _, hparts⟩ := hp (by rintro rfl; simp at hxs)
  obtain ⟨v, _, ⟨_, _, _, _, _, h, _⟩⟩ := hparts k xs hk
  exact h x hxm

set_option maxRecDepth 100000 in
set_option maxHeartbeats 1000000 in
theorem walk (ps : List (List Nat)) (sp : Option Addr) (kc : Nat) (w : World) (hL : Laid w) (hp : PartsV w sp ps) :
    Calls Tryd.prog 4 #[.slice sp ps.length kc] w fun e w' => e = .returned (.bool true) ∧ Below w.heap.size w w' := by
  rcases Nat.lt_or_ge 20 ps.length with h | h
  · exact walk_big _ _ _ w hL h
  have hps := parts_lt hp
  obtain ⟨m, hm⟩ : ∃ m, m = ps.length := ⟨_, rfl⟩
  rw [← hm] at h ⊢
  have hz : decide ((20 : Int) < (m : Int)) = false := decide_eq_false (by omega)
  have HP := Lib.hid hp
  have HL := Lib.hid hL
  have HM := Lib.hid hm
  have HX := Lib.hid hps
  clear hm hL hp hps
  go_enter Tryd.func4, Tryd.ntmps4
  go_wp2_with fail
  refine (known_any _ HL.out).mono ?_
  rintro e w1 ⟨rfl, hb1⟩
  go_wp2_with fail
  go_loopw [3, 19] (fun a i wr => ∃ k : Nat, k ≤ m ∧ i = .int .i64 k ∧ Hid ((ps.take k).flatten.length ≤ 300 * k) ∧ Below w.heap.size w wr ∧ Mine wr w.heap.size a (ps.take k).flatten) (fun _ i _ => m - (intOf i).toNat)
  case atStart => exact ⟨0, Nat.zero_le _, rfl, Lib.hid (by simp), hb1, .inl ⟨rfl, rfl⟩⟩
  case round =>
    obtain ⟨j, hj, rfl, hln, hbe, hM⟩ := hrel
    clear hb1
    obtain ⟨sa, na, ca, rfl⟩ := mine_slice hM
    by_cases hlt : j < m
    · obtain ⟨xs, hxs⟩ : ∃ xs, ps[j]? = some xs := ⟨_, List.getElem?_eq_getElem (by rw [← HM.out]; exact hlt)⟩
      obtain ⟨pb, po, rfl, hpb, hparts⟩ := HP.out (by intro e; rw [e] at hxs; simp at hxs)
      obtain ⟨v, hv, hbv⟩ := hparts j xs hxs
      have hbs := (hbv.keep hbe (Nat.le_refl _)).mono hbe.size
      obtain ⟨s, cap, rfl, hc1, hc2, hx, hsrc⟩ := hbv
      have hcell : wr.cell? ⟨pb, po + j, none⟩ = some (.slice s xs.length cap) := (hbe.cell (p := ⟨pb, po + j, none⟩) hpb).trans hv
      have HFS := Lib.hid (flat_step ps j xs hxs)
      have HBS := Lib.hid hbs
      obtain ⟨nx, hnx⟩ : ∃ nx, nx = xs.length := ⟨_, rfl⟩
      rw [← hnx] at hcell hc1
      have HNX := Lib.hid hnx
      clear hx hsrc hparts hv hxs hbs hnx
      by_cases h300 : 300 < nx
      · have hd : decide ((300 : Int) < (nx : Int)) = true := decide_eq_true (by omega)
        go_wp2_with fail
        go_ret
        exact ⟨rfl, hbe⟩
      · have hd : decide ((300 : Int) < (nx : Int)) = false := decide_eq_false (by omega)
        obtain ⟨v', W, hrun, hM2, hbW⟩ := app2 (ps.take j).flatten xs _ _ w.heap.size wr hM hbe.size HBS.out (by have := hln.out; have := HNX.out; omega)
        rw [← HNX.out] at hrun
        rw [← HFS.out] at hM2
        have hl2 := Lib.hid (show (ps.take (j + 1)).flatten.length ≤ 300 * (j + 1) from by
          rw [HFS.out, List.length_append]
          have := hln.out; have := HNX.out; omega)
        have hbe2 := hbe.trans hbW
        have hsl := mine_slice hM2
        obtain ⟨s5, n5, c5, rfl⟩ := hsl
        clear hbW hM hln HNX HFS HBS
        go_wp2_with (at_builtin; refine wpList_app (v1 := .slice sa na ca) (v2 := .slice s nx cap) (v := .slice s5 n5 c5) rfl (.tmp 26) (.tmp 27) rfl rfl rfl rfl hrun ?_)
        go_roundw
        case rel => first | exact ⟨j + 1, by omega, by go_num, hl2, hbe2, hM2⟩ | ((repeat apply Exists.intro); exact ⟨⟨j + 1, by omega, by go_num, hl2, hbe2, hM2⟩, rfl⟩)
        case measure => simp [intOf]; omega
    · have hjm : j = m := by omega
      have hdj : decide (j < m) = false := decide_eq_false (by omega)
      have e1 : ps.take j = ps := List.take_of_length_le (by have := HM.out; omega)
      rw [e1] at hM hln
      have HLN := Lib.hid (show ps.flatten.length ≤ 6000 from by have := hln.out; omega)
      have HBA := Lib.hid (hM.bs HX.out)
      have hcv := conv_bs HBA.out
      have hol : (sha ps.flatten).length = 32 := rfl
      have hql : (sha (sha ps.flatten)).length = 32 := rfl
      have HS0 : Hid (∀ W, Laid W → PartsV W sp ps → Calls Tryd.prog 11 #[.slice sp m kc] W fun e w' => e = .returned (idv (sha ps.flatten)) ∧ Below W.heap.size W w') := fun W h1 h2 => by
        rw [HM.out]
        exact sumv ps sp kc W h1 (by have := HLN.out; omega) (by have := HM.out; omega) h2
      have HT0 : Hid (∀ W, Laid W → PartsV W sp ps → Calls Tryd.prog 13 #[.slice sp m kc] W fun e w' => e = .returned (idv (sha (sha ps.flatten))) ∧ Below W.heap.size W w') := fun W h1 h2 => by
        rw [HM.out]
        exact twicev ps sp kc W h1 (by have := HLN.out; omega) (by have := HM.out; omega) h2
      have HS : Hid (∀ sp W, Laid W → PartsV W sp [ps.flatten] → Calls Tryd.prog 11 #[.slice sp 1 1] W fun e w' => e = .returned (idv (sha ps.flatten)) ∧ Below W.heap.size W w') := fun sp W h1 h2 => sum1 _ sp 1 W h1 (by have := HLN.out; omega) h2
      have HT : Hid (∀ sp W, Laid W → PartsV W sp [ps.flatten] → Calls Tryd.prog 13 #[.slice sp 1 1] W fun e w' => e = .returned (idv (sha (sha ps.flatten))) ∧ Below W.heap.size W w') := fun sp W h1 h2 => twice1 _ sp 1 W h1 (by have := HLN.out; omega) h2
      generalize sha (sha ps.flatten) = U at *
      generalize sha ps.flatten = O at *
      generalize hstr : strN ps.flatten = str at *
      have HSTR := Lib.hid hstr
      have HOL := Lib.hid hol
      have HQL := Lib.hid hql
      clear hol hql hstr hlt hjm e1 hln hj hM
      go_wp2_with fail
      refine (HS0.out _ (HL.out.keep hbe) (HP.out.keep hbe)).mono ?_
      rintro e w2 ⟨rfl, hb2⟩
      have hW2 := below_step hbe hbe.size hb2
      clear hcv
      go_wp2_with fail
      refine (HT0.out _ (HL.out.keep hW2) (HP.out.keep hW2)).mono ?_
      rintro e w3 ⟨rfl, hb3⟩
      have hM3 : Below wr.heap.size wr w3 := below_step hb2 hb2.size hb3
      have hW3 := below_step hbe hbe.size hM3
      have hB3 := (HBA.out.keep hM3 (Nat.le_refl _)).mono hM3.size
      clear hb2 hb3 hM3 hW2 HBA hbe HS0 HT0
      go_upto_region 15 with (first
        | refine wpList_store_mid rfl 25 (.tmp 7) (.tmp 33) rfl w3.heap.size 0 (idA O) rfl rfl (by rw [idA_size, HOL.out]; exact ((Bk.new w3 25 (idA (zeros 32))).alloc _).there 32 (by rw [idA_size]; decide)) (by rw [idA_size, HOL.out]; exact id_info') (all_oneCell_toArray (by intro v hv; simp only [List.mem_map] at hv; obtain ⟨x, _, rfl⟩ := hv; rfl)) ?_
        | refine wpList_store_mid rfl 25 (.tmp 8) (.tmp 35) rfl (w3.heap.size + 1) 0 (idA U) rfl rfl (by rw [idA_size, HQL.out]; exact ((Bk.new' (w3.alloc (.cells (idA (zeros 32)) 25)) 25 (idA (zeros 32)) (by simp)).farCells (by omega) _ _).there 32 (by rw [idA_size]; decide)) (by rw [idA_size, HQL.out]; exact id_info') (all_oneCell_toArray (by intro v hv; simp only [List.mem_map] at hv; obtain ⟨x, _, rfl⟩ := hv; rfl)) ?_)
      refine wp_any (fun Z => Below w.heap.size w Z ∧ BsV Z w3.heap.size (.slice sa na ca) ps.flatten ∧ Bk Z w3.heap.size 25 (idA O) ∧ Bk Z (w3.heap.size + 1) 25 (idA U))
        ⟨Below.setCells (by have := hW3.size; omega) _ _ _ (Below.setCells hW3.size _ _ _ ((hW3.alloc hW3.size _).alloc (by have := hW3.size; simp; omega) _)),
         hB3.keep (Below.setCells (by omega) _ _ _ (Below.setCells (Nat.le_refl _) _ _ _ (((Below.refl w3.heap.size w3).alloc (Nat.le_refl _) _).alloc (by simp) _))) (Nat.le_refl _),
         (((Bk.new w3 25 (idA (zeros 32))).alloc _).setAll (by rw [idA_size, idA_size, HOL.out]; rfl)).farCells (by omega) _ _,
         ((Bk.new' (w3.alloc (.cells (idA (zeros 32)) 25)) 25 (idA (zeros 32)) (by simp)).farCells (by omega) _ _).setAll (by rw [idA_size, idA_size, HQL.out]; rfl)⟩ ?_
      have hA0 := hW3.size
      clear hW3 hB3
      generalize w3.heap.size = A at *
      rintro Z ⟨hW, hB4, KA, KC⟩
      go_wp2_with fail
      go_loopw [9, 38] (fun b i wr => ∃ k : Nat, k ≤ m ∧ i = .int .i64 k ∧ Hid ((ps.take k).flatten.length ≤ 6000) ∧ Below w.heap.size w wr ∧ BsV wr A (.slice sa na ca) ps.flatten ∧ Bk wr A 25 (idA O) ∧ Bk wr (A + 1) 25 (idA U) ∧ Mine wr (A + 2) b (ps.take k).flatten) (fun _ i _ => m - (intOf i).toNat)
      case atStart => exact ⟨0, Nat.zero_le _, rfl, Lib.hid (by simp), hW, hB4, KA, KC, .inl ⟨rfl, rfl⟩⟩
      case round =>
        obtain ⟨j, hj, rfl, hln, hbe, hB5, A1, C1, hM⟩ := hrel
        clear hW hB4 KA KC
        obtain ⟨sb, nb, cb, rfl⟩ := mine_slice hM
        by_cases hlt : j < m
        · obtain ⟨xs, hxs⟩ : ∃ xs, ps[j]? = some xs := ⟨_, List.getElem?_eq_getElem (by rw [← HM.out]; exact hlt)⟩
          obtain ⟨pb, po, rfl, hpb, hparts⟩ := HP.out (by intro e; rw [e] at hxs; simp at hxs)
          obtain ⟨v, hv, hbv⟩ := hparts j xs hxs
          have hbs := (hbv.keep hbe (Nat.le_refl _)).mono hbe.size
          obtain ⟨s, cap, rfl, hc1, hc2, hx, hsrc⟩ := hbv
          have hcell : wr.cell? ⟨pb, po + j, none⟩ = some (.slice s xs.length cap) := (hbe.cell (p := ⟨pb, po + j, none⟩) hpb).trans hv
          have HFS := Lib.hid (flat_step ps j xs hxs)
          have HFL := Lib.hid (flat_len ps j xs hxs)
          have HBS := Lib.hid hbs
          obtain ⟨nx, hnx⟩ : ∃ nx, nx = xs.length := ⟨_, rfl⟩
          rw [← hnx] at hcell hc1
          have HNX := Lib.hid hnx
          have hz3 := C1.lt
          clear hx hsrc hparts hv hxs hbs hnx
          obtain ⟨v', W, hrun, hM2, hbW⟩ := app2 (ps.take j).flatten xs _ _ (A + 2) wr hM (by omega) HBS.out (by have := HFL.out; have := HLN.out; omega)
          rw [← HNX.out] at hrun
          rw [← HFS.out] at hM2
          have hl2 := Lib.hid (show (ps.take (j + 1)).flatten.length ≤ 6000 from by
            rw [HFS.out, List.length_append]
            have := HFL.out; have := HLN.out; omega)
          have hbe2 := hbe.trans (hbW.mono (by omega))
          have hB6 := hB5.keep hbW (by omega)
          have A2 := A1.below hbW (by omega)
          have C2 := C1.below hbW (by omega)
          obtain ⟨s5, n5, c5, rfl⟩ := mine_slice hM2
          clear hbW hM hln HNX HFS HBS HFL hB5 A1 C1
          go_wp2_with (at_builtin; refine wpList_app (v1 := .slice sb nb cb) (v2 := .slice s nx cap) (v := .slice s5 n5 c5) rfl (.tmp 42) (.tmp 43) rfl rfl rfl rfl hrun ?_)
          go_roundw
          case rel => first | exact ⟨j + 1, by omega, by go_num, hl2, hbe2, hB6, A2, C2, hM2⟩ | ((repeat apply Exists.intro); exact ⟨⟨j + 1, by omega, by go_num, hl2, hbe2, hB6, A2, C2, hM2⟩, rfl⟩)
          case measure => simp [intOf]; omega
        · have hjm : j = m := by omega
          have hdj2 : decide (j < m) = false := decide_eq_false (by omega)
          have e1 : ps.take j = ps := List.take_of_length_le (by have := HM.out; omega)
          rw [e1] at hM
          have HMM := Lib.hid hM
          clear hlt hjm e1 hln hj hM
          go_upto_region 21 with fail
          refine region21 25 32 wr sp sa m kc na ca A (A + 1) str (.slice sb nb cb) ps.flatten (O.map byteV) (U.map byteV) _ _ _ _ _ _ _ _ _ _ _ _ _ _ _ _ _ _ _ _ _ _ _ _ _ _ _ _ _ _ _ _ _ _ _ _ _ _ _ _ _ (Lib.hid (HL.out.keep hbe)) (Lib.hid (hB5.mono (by have := C1.lt; omega))) (RangeIn.of_bk A1) (RangeIn.of_bk C1)
            (Lib.hid (fun w' h => by rw [← HSTR.out]; exact conv_bs ((HMM.out.keep h).bs HX.out))) (by rw [← HSTR.out]; exact conv_bs (HMM.out.bs HX.out)) (by simp) (RangeIn.of_bk A1).2 (RangeIn.of_bk C1).2 id_agg id_size (fun w h => id_cells w A (O.map byteV) (by rw [List.length_map]; exact HOL.out) h) (fun w h => id_cells w (A + 1) (U.map byteV) (by rw [List.length_map]; exact HQL.out) h) (id_guard O O) (id_bin O HOL.out) (id_guard U U) (id_bin U HQL.out) HS HT (fun x46 x47 x48 x49 x50 x51 x52 x53 x54 x55 x56 x57 x58 x59 x60 x61 x62 x63 w' hbc => ?_)
          show Exit.then _ _ Exit.normal _ w'
          go_wp2_with fail
          go_ret
          exact ⟨rfl, below_step hbe hbe.size hbc⟩
/-- The door's own heap meets the condition. -/
theorem door_met (os : Os) (args : Array Value) : laidMetH Tryd.prog laidL ((World.doorLaid Tryd.prog 19 os).forCall (fun _ _ => 0) ⟨#[], args, []⟩).memory :=
  laidMetH_of_parts3 (fuel := 8) (laidMet_of_run' 8 (by kernel_rfl) (by kernel_rfl)) (by kernel_rfl) (by kernel_rfl)

set_option maxRecDepth 100000 in
theorem lifted (os : Os) (started : os.Started) (H : Type) (enc : TypeId × Value → H) :
    ReturnsInHanded {} Tryd.checked os 4 .any (fun w args => (Rows.hashPartsSpec.pre enc Tryd.prog Tryd.f4 [] false w args ∧ laidMetH Tryd.prog laidL w) ∧ sizedMet enc Tryd.prog Tryd.f4 (OpenSpec.ofChange Rows.hashPartsSpec) false w args)
      (Rows.hashPartsSpec.post enc Tryd.prog Tryd.f4 false true false false) := by
  refine returnsInHanded_of_change_and (C := Tryd.checked) (X := fun w _ => laidMetH Tryd.prog laidL w) (fun _ _ _ hh h => h.of_heap hh) own started (by kernel_rfl) Tryd.func4
    (ChangeSpec.witness_shaped (enc := enc) (C := Tryd.checked) (os := os) (X := fun w _ => laidMetH Tryd.prog laidL w) false (World.doorLaid Tryd.prog 19 os) #[.slice none 0 0] 8 rfl (World.shaped_of_RefB (by kernel_rfl) (by kernel_rfl)) (by kernel_rfl) (by kernel_rfl) (by kernel_rfl) (door_met os _)) ?_
  intro W base args ds gs before hval0 hW _ _ hL _
  have hval : ∀ (j : Nat) t v, Tryd.f4.params[j]? = some t → args[j]? = some v → Value.okWide Tryd.prog W .any base t v := hval0
  have hW' := hW
  obtain ⟨p, q, hA0, hV, rfl, hfz, hnd⟩ := hW
  have hA : DataW.TrodAll enc Tryd.prog W 0 (fun _ => true) true Tryd.f4.params.toList args.toList ds p := hA0
  rw [Tryd.params4] at hA hval
  obtain ⟨v0, vs0, d0, ds0, p0, q0, hargs, rfl, rfl, h0, r0⟩ := trodAll_cons hA
  obtain ⟨rfl, rfl, rfl⟩ := trodAll_nil r0
  obtain rfl : args = #[v0] := by cases args; simp_all
  obtain ⟨rfl, rfl⟩ := trodVars_none hV
  have lt0 : ∀ x ∈ p0, x.block < W.heap.size := by obtain ⟨m, hm⟩ := h0; exact DataW.trod_lt m _ _ _ hm
  obtain ⟨sp, kc, ps, rfl, hkc, hkc2, hb⟩ := parts_arg (hval 0 29 v0 rfl rfl) h0
  have hwalk := walk ps sp kc W (of_laid hL) hb
  clear hA0 hval0
  refine hwalk.mono fun e W' ⟨he, bel⟩ => ?_
  subst he
  exact ⟨_, rfl, _, _, _, [], _, [], hW', trodAll_mk1 (shut_bool Tryd.underlying4 _), (trodAll_cons_mk (Below.trod laidOut (by kernel_rfl) (of_decide_eq_true (by kernel_rfl)) h0 bel lt0) trodAll_mk0), rfl, bel.frame _, fun h => by cases h⟩

theorem over : Rows.HashPartsSaid :=
  OpenClaim.holds_of_wide 4 Tryd.f4 rfl rfl rfl rfl rfl rfl rfl ⟨rfl, rfl, rfl, rfl, rfl⟩ rfl rfl rfl rfl rfl (by kernel_rfl) Tryd.func4 (by kernel_rfl)
    (of_decide_eq_true (by kernel_rfl)) (by unfold Func.isWrapper; first | (rw [if_pos (by decide +kernel)]; kernel_rfl) | (rw [if_neg (by decide +kernel)]; exact ⟨rfl, rfl⟩))
    (fun os started H enc _ => lifted os started H enc)

theorem proved : Rows.HashPartsCardSaid :=
  Claim7.holds_tied_plain_at .later [] [.data, .data] true Rows.hashPartsCard.stood.harness false
    over (fun _ h => by cases h) (by kernel_rfl) (fun _ h => by cases h) hashParts_row_tie rfl ⟨rfl, rfl⟩ (by kernel_rfl) rfl
    (fun f fn hf hfn => by
      obtain rfl : f = 4 := Option.some.inj ((show Tryd.prog.funcNamed "tallystick/tallysticklaw01.HashParts" = some 4 by kernel_rfl).symm.trans hf) |>.symm
      obtain rfl : fn = Tryd.f4 := (Option.some.inj (Tryd.func4.symm.trans hfn)).symm
      exact ⟨by kernel_rfl, fun j t ht => by
        rw [Tryd.params4] at ht
        have hm : t ∈ [29] := by simpa using Array.mem_of_getElem? ht
        have hall : ([29].all fun u => !Tryd.prog.wantsStandIn u) = true := by kernel_rfl
        exact (show Tryd.prog.wantsStandIn t = false by simpa using List.all_eq_true.1 hall t hm)⟩)
    (by kernel_rfl)
#print axioms proved
end Go.Proofs.YtiiaijoafahdmaaDoor.hashParts
