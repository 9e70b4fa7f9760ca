/-
  What is proved: for every slice of bytes and every number the law HashBlocks returns true, and its arguments read behind the call as they read before; the two listed tables of package hash are taken to hold what the program's text lays in them, and the card ties them to it.
-/
import Derived.Test.YtflpeohhlmainaaDoorHashW
import Derived.Test.YtflpeohhlmainaaDoorTie
import Derived.Test.YtflpeohhlmainaaDoorCards
import Derived.Stop.Joined
namespace Go.Proofs.YtflpeohhlmainaaDoor.hashBlocks
open Go.ChangeShapes Go.WideShapes Go.ChangeAt Go.RowKit
set_option linter.unusedVariables false

theorem own : ownKnob Tryd.prog.godebug = none := by kernel_rfl
theorem laidOut : laidOutB Tryd.prog = true := by kernel_rfl
attribute [local go_sem ↓] Go.wp_at_zero Go.wp_at_succ

theorem parts_three {w : World} {h B : Nat} {xs ys : List Nat} {u : TypeId} {v1 v2 : Value} (h1 : BsV w B v1 xs) (h2 : BsV w B v2 ys) (hB : B ≤ w.heap.size) (hh : Bk w h u #[v1, .slice none 0 0, v2]) : PartsV w (some ⟨h, 0, none⟩) [xs, [], ys] := by
  intro _
  refine ⟨h, 0, rfl, hh.lt, fun k zs hk => ?_⟩
  match k with
  | 0 =>
    obtain rfl : xs = zs := by simpa using hk
    exact ⟨v1, hh.cell 0, h1.mono hB⟩
  | 1 =>
    obtain rfl : [] = zs := by simpa using hk
    exact ⟨.slice none 0 0, hh.cell 1, none, 0, rfl, Nat.le_refl _, by omega, by simp, fun h => absurd rfl h⟩
  | 2 =>
    obtain rfl : ys = zs := by simpa using hk
    exact ⟨v2, hh.cell 2, h2.mono hB⟩
  | k + 3 => simp at hk
theorem parts_two {w : World} {h B : Nat} {xs ys : List Nat} {u : TypeId} {v1 v2 : Value} (h1 : BsV w B v1 xs) (h2 : BsV w B v2 ys) (hB : B ≤ w.heap.size) (hh : Bk w h u #[v1, v2]) : PartsV w (some ⟨h, 0, none⟩) [xs, ys] := by
  intro _
  refine ⟨h, 0, rfl, hh.lt, fun k zs hk => ?_⟩
  match k with
  | 0 =>
    obtain rfl : xs = zs := by simpa using hk
    exact ⟨v1, hh.cell 0, h1.mono hB⟩
  | 1 =>
    obtain rfl : ys = zs := by simpa using hk
    exact ⟨v2, hh.cell 1, h2.mono hB⟩
  | k + 2 => simp at hk
theorem byte_size (w : World) : (sizeOf (Tryd.prog.elem 22)).run Tryd.prog w = .ok 1 w := by kernel_rfl
/-- A slice of bytes cut in two. -/
theorem bs_head {w : World} {B n cap c : Nat} {s : Option Addr} {xs : List Nat} (h : BsV w B (.slice s n cap) xs) (hc : c ≤ n) :
    ∃ s1, BsV w B (.slice s1 c cap) (xs.take c) ∧ ∀ w : World, (Instr.slice 22 (.slice s n cap) none (some (.int .i64 (c : Int))) none).run Tryd.prog w = .ok (.slice s1 c cap) w := by
  obtain ⟨s', cap', e, h1, h2, h3, h4⟩ := h
  cases e
  have hl : (xs.take c).length = c := by rw [List.length_take]; omega
  refine ⟨if cap = 0 then s else s.map (·.add (0 * 1)), ⟨_, cap, by rw [hl], by omega, h2, fun x hx => h3 x (List.mem_of_mem_take hx), fun hne => ?_⟩, fun w => ?_⟩
  · obtain ⟨b, o, rfl, hb, hcell⟩ := h4 (by rintro rfl; simp at hne)
    refine ⟨b, o, by simp [Addr.add], hb, fun i hi => ?_⟩
    rw [hl] at hi
    rw [hcell i (by omega)]
    unfold nth
    rw [List.getD, List.getD, List.getElem?_take_of_lt hi]
  · rw [run_slice_h w _ _ _ _ (by kernel_rfl) .i64 _ (by omega) (by omega), byte_size]
    simp [Result.andThen, sliced]
theorem bs_tail {w : World} {B n cap c : Nat} {s : Option Addr} {xs : List Nat} (h : BsV w B (.slice s n cap) xs) (hc : c ≤ n) :
    ∃ s1, BsV w B (.slice s1 (n - c) (cap - c)) (xs.drop c) ∧ ∀ w : World, (Instr.slice 22 (.slice s n cap) (some (.int .i64 (c : Int))) none none).run Tryd.prog w = .ok (.slice s1 (n - c) (cap - c)) w := by
  obtain ⟨s', cap', e, h1, h2, h3, h4⟩ := h
  cases e
  have hl : (xs.drop c).length = xs.length - c := List.length_drop
  refine ⟨if cap = c then s else s.map (·.add (c * 1)), ⟨_, cap - c, by rw [hl], by omega, by omega, fun x hx => h3 x (List.mem_of_mem_drop hx), fun hne => ?_⟩, fun w => ?_⟩
  · obtain ⟨b, o, rfl, hb, hcell⟩ := h4 (by rintro rfl; simp at hne)
    have hpos : c < xs.length := by
      rcases Nat.lt_or_ge c xs.length with h | h
      · exact h
      · exact absurd (List.drop_eq_nil_of_le h) hne
    refine ⟨b, o + c, by rw [if_neg (by omega)]; by_cases hc0 : c = 0 <;> simp [Addr.add, hc0], hb, fun i hi => ?_⟩
    rw [hl] at hi
    rw [Nat.add_assoc, hcell (c + i) (by omega)]
    unfold nth
    rw [List.getD, List.getD, List.getElem?_drop]
  · rw [run_slice_l w _ _ _ _ (by kernel_rfl) .i64 _ (by omega) (by omega), byte_size]
    simp [Result.andThen, sliced]

set_option maxRecDepth 100000 in
set_option maxHeartbeats 20000000 in
theorem region5 (W : World) (s s1 s2 : Option Addr) (n cap c c1 cap1 c2 cap2 : Nat) (xs ys zs : List Nat) (V U v2 v3 v4 v5 v6 v7 v8 v9 v10 v11 v12 v13 v14 v15 v16 v17 v18 v19 : Value) (Q : Exit → Act → World → Prop) (HLW : Hid (Laid W)) (HBW : Hid (BsV W W.heap.size (.slice s n cap) xs)) (HB1 : Hid (BsV W W.heap.size (.slice s1 c1 cap1) ys)) (HB2 : Hid (BsV W W.heap.size (.slice s2 c2 cap2) zs))
    (hsl1 : ∀ w : World, (Instr.slice 22 (.slice s n cap) none (some (.int .i64 (c : Int))) none).run Tryd.prog w = .ok (.slice s1 c1 cap1) w)
    (hsl2 : ∀ w : World, (Instr.slice 22 (.slice s n cap) (some (.int .i64 (c : Int))) none none).run Tryd.prog w = .ok (.slice s2 c2 cap2) w)
    (hgd : ∀ op a b w, (eqGuard op 25 a b V V).run Tryd.prog w = .ok () w) (heq : ∀ w, (binOp .eql 25 V V).run Tryd.prog w = .ok (.bool true) w)
    (hgd2 : ∀ op a b w, (eqGuard op 25 a b U U).run Tryd.prog w = .ok () w) (heq2 : ∀ w, (binOp .eql 25 U U).run Tryd.prog w = .ok (.bool true) w)
    (HS3 : Hid (∀ sp W, Laid W → PartsV W sp [ys, [], zs] → Calls Tryd.prog 11 #[.slice sp 3 3] W fun e w' => e = .returned V ∧ Below W.heap.size W w'))
    (HS1 : Hid (∀ sp W, Laid W → PartsV W sp [xs] → Calls Tryd.prog 11 #[.slice sp 1 1] W fun e w' => e = .returned V ∧ Below W.heap.size W w'))
    (HT2 : Hid (∀ sp W, Laid W → PartsV W sp [ys, zs] → Calls Tryd.prog 13 #[.slice sp 2 2] W fun e w' => e = .returned U ∧ Below W.heap.size W w'))
    (HT1 : Hid (∀ sp W, Laid W → PartsV W sp [xs] → Calls Tryd.prog 13 #[.slice sp 1 1] W fun e w' => e = .returned U ∧ Below W.heap.size W w'))
    (hQ : ∀ x20 x21 x22 x23 x24 x25 x26 x27 x28 x29 x30 x31 x32 x33 x34 x35 x36 x37 x38 x39 x40 x41 x42 x43 x44 x45 w', Below W.heap.size W w' → Q .normal { tmps := #[Value.slice s n cap, Value.int IntKind.i64 (c : Int), v2, v3, Value.bool true, v5, v6, v7, v8, v9, v10, v11, v12, v13, v14, v15, v16, v17, v18, v19, x20, x21, x22, x23, x24, x25, x26, x27, x28, x29, x30, x31, x32, x33, x34, x35, x36, x37, x38, x39, x40, x41, x42, x43, x44, x45], defers := [] } w') :
    Code.wp Tryd.prog (Code.region 5 #[{ dst := some 20, op := Op.move (Operand.tmp 0), type := 22, pos := "law.go:97", after := #[], guard := none },
{ dst := some 21, op := Op.move (Operand.tmp 1), type := 3, pos := "law.go:97", after := #[], guard := none },
{ dst := some 22, op := Op.slice 22 (Operand.tmp 20) none (some (Operand.tmp 21)) none, type := 22, pos := "law.go:97", after := #[{ on := 0, ground := Ground.data }, { on := 1, ground := Ground.data }], guard := none },
{ dst := some 23, op := Op.move (Operand.tmp 0), type := 22, pos := "law.go:97", after := #[], guard := none },
{ dst := some 24, op := Op.move (Operand.tmp 1), type := 3, pos := "law.go:97", after := #[], guard := none },
{ dst := some 25, op := Op.slice 22 (Operand.tmp 23) (some (Operand.tmp 24)) none none, type := 22, pos := "law.go:97", after := #[{ on := 3, ground := Ground.data }, { on := 4, ground := Ground.data }], guard := none },
{ dst := some 26, op := Op.buildSlice 29 3 #[(0, Operand.tmp 22), (1, Operand.const (Value.slice none 0 0)), (2, Operand.tmp 25)], type := 29, pos := "law.go:97", after := #[{ on := 2, ground := Ground.data }, { on := 5, ground := Ground.data }], guard := none },
{ dst := some 27, op := Op.call { callee := Callee.value (Operand.func 11), args := #[Operand.tmp 26], argTypes := #[29] }, type := 25, pos := "law.go:97", after := #[{ on := 6, ground := Ground.data }], guard := none },
{ dst := some 28, op := Op.move (Operand.tmp 0), type := 22, pos := "law.go:97", after := #[], guard := none },
{ dst := some 29, op := Op.buildSlice 29 1 #[(0, Operand.tmp 28)], type := 29, pos := "law.go:97", after := #[{ on := 8, ground := Ground.data }], guard := none },
{ dst := some 30, op := Op.call { callee := Callee.value (Operand.func 11), args := #[Operand.tmp 29], argTypes := #[29] }, type := 25, pos := "law.go:97", after := #[{ on := 9, ground := Ground.data }, { on := 7, ground := Ground.chain }], guard := none },
{ dst := some 31, op := Op.binOp BinOp.eql 25 (Operand.tmp 27) (Operand.tmp 30) 25, type := 4, pos := "law.go:97", after := #[{ on := 7, ground := Ground.data }, { on := 10, ground := Ground.data }], guard := none },
{ dst := some 32, op := Op.move (Operand.tmp 31), type := 4, pos := "law.go:97", after := #[{ on := 11, ground := Ground.data }, { on := 10, ground := Ground.chain }], guard := none },
{ dst := some 33, op := Op.move (Operand.tmp 0), type := 22, pos := "law.go:97", after := #[{ on := 12, ground := Ground.guard }], guard := some (12, true) },
{ dst := some 34, op := Op.move (Operand.tmp 1), type := 3, pos := "law.go:97", after := #[{ on := 12, ground := Ground.guard }], guard := some (12, true) },
{ dst := some 35, op := Op.slice 22 (Operand.tmp 33) none (some (Operand.tmp 34)) none, type := 22, pos := "law.go:97", after := #[{ on := 13, ground := Ground.data }, { on := 14, ground := Ground.data }, { on := 12, ground := Ground.guard }], guard := some (12, true) },
{ dst := some 36, op := Op.move (Operand.tmp 0), type := 22, pos := "law.go:97", after := #[{ on := 12, ground := Ground.guard }], guard := some (12, true) },
{ dst := some 37, op := Op.move (Operand.tmp 1), type := 3, pos := "law.go:97", after := #[{ on := 12, ground := Ground.guard }], guard := some (12, true) },
{ dst := some 38, op := Op.slice 22 (Operand.tmp 36) (some (Operand.tmp 37)) none none, type := 22, pos := "law.go:97", after := #[{ on := 16, ground := Ground.data }, { on := 17, ground := Ground.data }, { on := 12, ground := Ground.guard }], guard := some (12, true) },
{ dst := some 39, op := Op.buildSlice 29 2 #[(0, Operand.tmp 35), (1, Operand.tmp 38)], type := 29, pos := "law.go:97", after := #[{ on := 15, ground := Ground.data }, { on := 18, ground := Ground.data }, { on := 12, ground := Ground.guard }], guard := some (12, true) },
{ dst := some 40, op := Op.call { callee := Callee.value (Operand.func 13), args := #[Operand.tmp 39], argTypes := #[29] }, type := 25, pos := "law.go:97", after := #[{ on := 19, ground := Ground.data }, { on := 12, ground := Ground.chain }, { on := 12, ground := Ground.guard }], guard := some (12, true) },
{ dst := some 41, op := Op.move (Operand.tmp 0), type := 22, pos := "law.go:97", after := #[{ on := 12, ground := Ground.guard }], guard := some (12, true) },
{ dst := some 42, op := Op.buildSlice 29 1 #[(0, Operand.tmp 41)], type := 29, pos := "law.go:97", after := #[{ on := 21, ground := Ground.data }, { on := 12, ground := Ground.guard }], guard := some (12, true) },
{ dst := some 43, op := Op.call { callee := Callee.value (Operand.func 13), args := #[Operand.tmp 42], argTypes := #[29] }, type := 25, pos := "law.go:97", after := #[{ on := 22, ground := Ground.data }, { on := 20, ground := Ground.chain }, { on := 12, ground := Ground.guard }], guard := some (12, true) },
{ dst := some 44, op := Op.binOp BinOp.eql 25 (Operand.tmp 40) (Operand.tmp 43) 25, type := 4, pos := "law.go:97", after := #[{ on := 20, ground := Ground.data }, { on := 23, ground := Ground.data }, { on := 12, ground := Ground.guard }], guard := some (12, true) },
{ dst := some 45, op := Op.pick (Operand.tmp 32) (Operand.tmp 44) (Operand.const (Value.bool false)), type := 4, pos := "law.go:97", after := #[{ on := 12, ground := Ground.data }, { on := 24, ground := Ground.data }], guard := none },
{ dst := some 4, op := Op.assign (Operand.tmp 45), type := 4, pos := "law.go:97", after := #[{ on := 25, ground := Ground.data }, { on := 23, ground := Ground.chain }, { on := 0, ground := Ground.phase }, { on := 1, ground := Ground.phase }, { on := 2, ground := Ground.phase }, { on := 3, ground := Ground.phase }, { on := 4, ground := Ground.phase }, { on := 5, ground := Ground.phase }, { on := 6, ground := Ground.phase }, { on := 7, ground := Ground.phase }, { on := 8, ground := Ground.phase }, { on := 9, ground := Ground.phase }, { on := 10, ground := Ground.phase }, { on := 11, ground := Ground.phase }, { on := 12, ground := Ground.phase }, { on := 13, ground := Ground.phase }, { on := 14, ground := Ground.phase }, { on := 15, ground := Ground.phase }, { on := 16, ground := Ground.phase }, { on := 17, ground := Ground.phase }, { on := 18, ground := Ground.phase }, { on := 19, ground := Ground.phase }, { on := 20, ground := Ground.phase }, { on := 21, ground := Ground.phase }, { on := 22, ground := Ground.phase }, { on := 23, ground := Ground.phase }, { on := 24, ground := Ground.phase }, { on := 25, ground := Ground.phase }], guard := none }] true) Q { tmps := #[Value.slice s n cap, Value.int IntKind.i64 (c : Int), v2, v3, v4, v5, v6, v7, v8, v9, v10, v11, v12, v13, v14, v15, v16, v17, v18, v19, undef, undef, undef, undef, undef, undef, undef, undef, undef, undef, undef, undef, undef, undef, undef, undef, undef, undef, undef, undef, undef, undef, undef, undef, undef, undef], defers := [] } W := by
  go_region_held3 (fun w' => W.heap.size ≤ w'.heap.size) (first | omega | (simp; done) | (simp; omega) | (simp [World.drew]; done) | (simp [World.drew]; omega))
    (first
      | (go_at_call 11
         with_reducible refine (HS3.out _ _ ?_ ?_).mono ?_
         · refine HLW.out.keep ?_
           repeat' (first | with_reducible exact Below.refl _ _ | with_reducible assumption | with_reducible exact From.out (by with_reducible assumption) | with_reducible refine Below.drew ?_ | with_reducible refine Below.setCell ?_ ?_ _ | with_reducible refine Below.alloc ?_ ?_ _ | with_reducible exact Nat.le_refl _ | omega | (simp; done) | (simp; omega) | (simp [World.drew]; done) | (simp [World.drew]; omega))
         · refine parts_three (u := 22) (v1 := .slice s1 c1 cap1) (v2 := .slice s2 c2 cap2) (HB1.out.keep (C := W.heap.size) ?_ (Nat.le_refl _)) (HB2.out.keep (C := W.heap.size) ?_ (Nat.le_refl _)) ?_ ?_
           · repeat' (first | with_reducible exact Below.refl _ _ | with_reducible assumption | with_reducible exact From.out (by with_reducible assumption) | with_reducible refine Below.drew ?_ | with_reducible refine Below.setCell ?_ ?_ _ | with_reducible refine Below.alloc ?_ ?_ _ | with_reducible exact Nat.le_refl _ | omega | (simp; done) | (simp; omega) | (simp [World.drew]; done) | (simp [World.drew]; omega))
           · repeat' (first | with_reducible exact Below.refl _ _ | with_reducible assumption | with_reducible exact From.out (by with_reducible assumption) | with_reducible refine Below.drew ?_ | with_reducible refine Below.setCell ?_ ?_ _ | with_reducible refine Below.alloc ?_ ?_ _ | with_reducible exact Nat.le_refl _ | omega | (simp; done) | (simp; omega) | (simp [World.drew]; done) | (simp [World.drew]; omega))
           · first | omega | (simp; done) | (simp; omega) | (simp [World.drew]; done) | (simp [World.drew]; omega)
           · repeat' (first | with_reducible assumption | with_reducible exact Bk.new _ _ _ | with_reducible refine Bk.new' _ _ _ ?_ | with_reducible refine Bk.alloc ?_ _ | with_reducible refine Bk.drew ?_ | (with_reducible refine Bk.keep ?_ (by with_reducible assumption)) | (simp; done) | (simp; omega) | (simp [World.drew]; done) | (simp [World.drew]; omega))
         rintro e w5 ⟨rfl, hb5⟩
         have hE5 : From W w5 := by
           refine below_step ?_ ?_ hb5
           · repeat' (first | with_reducible exact Below.refl _ _ | with_reducible assumption | with_reducible exact From.out (by with_reducible assumption) | with_reducible refine Below.drew ?_ | with_reducible refine Below.setCell ?_ ?_ _ | with_reducible refine Below.alloc ?_ ?_ _ | with_reducible exact Nat.le_refl _ | omega | (simp; done) | (simp; omega) | (simp [World.drew]; done) | (simp [World.drew]; omega))
           · first | omega | (simp; done) | (simp; omega) | (simp [World.drew]; done) | (simp [World.drew]; omega)
         have z5 := hE5.out.size)
      | (go_at_call 11
         with_reducible refine (HS1.out _ _ ?_ ?_).mono ?_
         · refine HLW.out.keep ?_
           repeat' (first | with_reducible exact Below.refl _ _ | with_reducible assumption | with_reducible exact From.out (by with_reducible assumption) | with_reducible refine Below.drew ?_ | with_reducible refine Below.setCell ?_ ?_ _ | with_reducible refine Below.alloc ?_ ?_ _ | with_reducible exact Nat.le_refl _ | omega | (simp; done) | (simp; omega) | (simp [World.drew]; done) | (simp [World.drew]; omega))
         · refine parts_bs (u := 22) (v := .slice s n cap) (HBW.out.keep (C := W.heap.size) ?_ (Nat.le_refl _)) ?_ ?_
           · repeat' (first | with_reducible exact Below.refl _ _ | with_reducible assumption | with_reducible exact From.out (by with_reducible assumption) | with_reducible refine Below.drew ?_ | with_reducible refine Below.setCell ?_ ?_ _ | with_reducible refine Below.alloc ?_ ?_ _ | with_reducible exact Nat.le_refl _ | omega | (simp; done) | (simp; omega) | (simp [World.drew]; done) | (simp [World.drew]; omega))
           · first | omega | (simp; done) | (simp; omega) | (simp [World.drew]; done) | (simp [World.drew]; omega)
           · repeat' (first | with_reducible assumption | with_reducible exact Bk.new _ _ _ | with_reducible refine Bk.new' _ _ _ ?_ | with_reducible refine Bk.alloc ?_ _ | with_reducible refine Bk.drew ?_ | (with_reducible refine Bk.keep ?_ (by with_reducible assumption)) | (simp; done) | (simp; omega) | (simp [World.drew]; done) | (simp [World.drew]; omega))
         rintro e w6 ⟨rfl, hb6⟩
         have hE6 : From W w6 := by
           refine below_step ?_ ?_ hb6
           · repeat' (first | with_reducible exact Below.refl _ _ | with_reducible assumption | with_reducible exact From.out (by with_reducible assumption) | with_reducible refine Below.drew ?_ | with_reducible refine Below.setCell ?_ ?_ _ | with_reducible refine Below.alloc ?_ ?_ _ | with_reducible exact Nat.le_refl _ | omega | (simp; done) | (simp; omega) | (simp [World.drew]; done) | (simp [World.drew]; omega))
           · first | omega | (simp; done) | (simp; omega) | (simp [World.drew]; done) | (simp [World.drew]; omega)
         have z6 := hE6.out.size)
      | (go_at_call 13
         with_reducible refine (HT2.out _ _ ?_ ?_).mono ?_
         · refine HLW.out.keep ?_
           repeat' (first | with_reducible exact Below.refl _ _ | with_reducible assumption | with_reducible exact From.out (by with_reducible assumption) | with_reducible refine Below.drew ?_ | with_reducible refine Below.setCell ?_ ?_ _ | with_reducible refine Below.alloc ?_ ?_ _ | with_reducible exact Nat.le_refl _ | omega | (simp; done) | (simp; omega) | (simp [World.drew]; done) | (simp [World.drew]; omega))
         · refine parts_two (u := 22) (v1 := .slice s1 c1 cap1) (v2 := .slice s2 c2 cap2) (HB1.out.keep (C := W.heap.size) ?_ (Nat.le_refl _)) (HB2.out.keep (C := W.heap.size) ?_ (Nat.le_refl _)) ?_ ?_
           · repeat' (first | with_reducible exact Below.refl _ _ | with_reducible assumption | with_reducible exact From.out (by with_reducible assumption) | with_reducible refine Below.drew ?_ | with_reducible refine Below.setCell ?_ ?_ _ | with_reducible refine Below.alloc ?_ ?_ _ | with_reducible exact Nat.le_refl _ | omega | (simp; done) | (simp; omega) | (simp [World.drew]; done) | (simp [World.drew]; omega))
           · repeat' (first | with_reducible exact Below.refl _ _ | with_reducible assumption | with_reducible exact From.out (by with_reducible assumption) | with_reducible refine Below.drew ?_ | with_reducible refine Below.setCell ?_ ?_ _ | with_reducible refine Below.alloc ?_ ?_ _ | with_reducible exact Nat.le_refl _ | omega | (simp; done) | (simp; omega) | (simp [World.drew]; done) | (simp [World.drew]; omega))
           · first | omega | (simp; done) | (simp; omega) | (simp [World.drew]; done) | (simp [World.drew]; omega)
           · repeat' (first | with_reducible assumption | with_reducible exact Bk.new _ _ _ | with_reducible refine Bk.new' _ _ _ ?_ | with_reducible refine Bk.alloc ?_ _ | with_reducible refine Bk.drew ?_ | (with_reducible refine Bk.keep ?_ (by with_reducible assumption)) | (simp; done) | (simp; omega) | (simp [World.drew]; done) | (simp [World.drew]; omega))
         rintro e w7 ⟨rfl, hb7⟩
         have hE7 : From W w7 := by
           refine below_step ?_ ?_ hb7
           · repeat' (first | with_reducible exact Below.refl _ _ | with_reducible assumption | with_reducible exact From.out (by with_reducible assumption) | with_reducible refine Below.drew ?_ | with_reducible refine Below.setCell ?_ ?_ _ | with_reducible refine Below.alloc ?_ ?_ _ | with_reducible exact Nat.le_refl _ | omega | (simp; done) | (simp; omega) | (simp [World.drew]; done) | (simp [World.drew]; omega))
           · first | omega | (simp; done) | (simp; omega) | (simp [World.drew]; done) | (simp [World.drew]; omega)
         have z7 := hE7.out.size)
      | (go_at_call 13
         with_reducible refine (HT1.out _ _ ?_ ?_).mono ?_
         · refine HLW.out.keep ?_
           repeat' (first | with_reducible exact Below.refl _ _ | with_reducible assumption | with_reducible exact From.out (by with_reducible assumption) | with_reducible refine Below.drew ?_ | with_reducible refine Below.setCell ?_ ?_ _ | with_reducible refine Below.alloc ?_ ?_ _ | with_reducible exact Nat.le_refl _ | omega | (simp; done) | (simp; omega) | (simp [World.drew]; done) | (simp [World.drew]; omega))
         · refine parts_bs (u := 22) (v := .slice s n cap) (HBW.out.keep (C := W.heap.size) ?_ (Nat.le_refl _)) ?_ ?_
           · repeat' (first | with_reducible exact Below.refl _ _ | with_reducible assumption | with_reducible exact From.out (by with_reducible assumption) | with_reducible refine Below.drew ?_ | with_reducible refine Below.setCell ?_ ?_ _ | with_reducible refine Below.alloc ?_ ?_ _ | with_reducible exact Nat.le_refl _ | omega | (simp; done) | (simp; omega) | (simp [World.drew]; done) | (simp [World.drew]; omega))
           · first | omega | (simp; done) | (simp; omega) | (simp [World.drew]; done) | (simp [World.drew]; omega)
           · repeat' (first | with_reducible assumption | with_reducible exact Bk.new _ _ _ | with_reducible refine Bk.new' _ _ _ ?_ | with_reducible refine Bk.alloc ?_ _ | with_reducible refine Bk.drew ?_ | (with_reducible refine Bk.keep ?_ (by with_reducible assumption)) | (simp; done) | (simp; omega) | (simp [World.drew]; done) | (simp [World.drew]; omega))
         rintro e w8 ⟨rfl, hb8⟩
         have hE8 : From W w8 := by
           refine below_step ?_ ?_ hb8
           · repeat' (first | with_reducible exact Below.refl _ _ | with_reducible assumption | with_reducible exact From.out (by with_reducible assumption) | with_reducible refine Below.drew ?_ | with_reducible refine Below.setCell ?_ ?_ _ | with_reducible refine Below.alloc ?_ ?_ _ | with_reducible exact Nat.le_refl _ | omega | (simp; done) | (simp; omega) | (simp [World.drew]; done) | (simp [World.drew]; omega))
           · first | omega | (simp; done) | (simp; omega) | (simp [World.drew]; done) | (simp [World.drew]; omega)
         have z8 := hE8.out.size))
  all_goals exact hQ _ _ _ _ _ _ _ _ _ _ _ _ _ _ _ _ _ _ _ _ _ _ _ _ _ _ _ (by repeat' (first | with_reducible exact Below.refl _ _ | with_reducible assumption | with_reducible exact From.out (by with_reducible assumption) | with_reducible refine Below.drew ?_ | with_reducible refine Below.setCell ?_ ?_ _ | with_reducible refine Below.alloc ?_ ?_ _ | with_reducible exact Nat.le_refl _ | omega | (simp; done) | (simp; omega) | (simp [World.drew]; done) | (simp [World.drew]; omega)))

theorem flat3 (xs : List Nat) (c : Nat) : [xs.take c, [], xs.drop c].flatten = xs := by simp
theorem flat2 (xs : List Nat) (c : Nat) : [xs.take c, xs.drop c].flatten = xs := by simp

set_option maxRecDepth 100000 in
set_option maxHeartbeats 1000000 in
theorem walk_big (s : Option Addr) (len cap : Nat) (z : Int) (w : World) (hL : Laid w) (h : 2000 < len) :
    Calls Tryd.prog 8 #[.slice s len cap, .int .i64 z] w fun e w' => e = .returned (.bool true) ∧ Below w.heap.size w w' := by
  have hz : (2000 : Int) < (len : Int) := by omega
  go_enter Tryd.func8, Tryd.ntmps8
  go_wp2_with fail
  refine (known_any _ hL).mono ?_
  rintro e w1 ⟨rfl, hb1⟩
  go_wp2_with fail
  go_ret
  exact ⟨rfl, hb1⟩
set_option maxRecDepth 100000 in
set_option maxHeartbeats 1000000 in
theorem walk_low (s : Option Addr) (len cap : Nat) (z : Int) (w : World) (hL : Laid w) (h : len ≤ 2000) (h0 : z < 0) :
    Calls Tryd.prog 8 #[.slice s len cap, .int .i64 z] w fun e w' => e = .returned (.bool true) ∧ Below w.heap.size w w' := by
  have hz : decide ((2000 : Int) < (len : Int)) = false := decide_eq_false (by omega)
  go_enter Tryd.func8, Tryd.ntmps8
  go_wp2_with fail
  refine (known_any _ hL).mono ?_
  rintro e w1 ⟨rfl, hb1⟩
  go_wp2_with fail
  go_ret
  exact ⟨rfl, hb1⟩
set_option maxRecDepth 100000 in
set_option maxHeartbeats 1000000 in
theorem walk_high (s : Option Addr) (len cap : Nat) (z : Int) (w : World) (hL : Laid w) (h : len ≤ 2000) (h0 : ¬ z < 0) (h1 : (len : Int) < z) :
    Calls Tryd.prog 8 #[.slice s len cap, .int .i64 z] w fun e w' => e = .returned (.bool true) ∧ Below w.heap.size w w' := by
  have hz : decide ((2000 : Int) < (len : Int)) = false := decide_eq_false (by omega)
  have hz0 : decide (z < 0) = false := decide_eq_false h0
  clear h0
  go_enter Tryd.func8, Tryd.ntmps8
  go_wp2_with fail
  refine (known_any _ hL).mono ?_
  rintro e w1 ⟨rfl, hb1⟩
  go_wp2_with fail
  go_ret
  exact ⟨rfl, hb1⟩

set_option maxRecDepth 100000 in
set_option maxHeartbeats 1000000 in
theorem walk (xs : List Nat) (v : Value) (z : Int) (w : World) (hL : Laid w) (hb : BsV w w.heap.size v xs) :
    Calls Tryd.prog 8 #[v, .int .i64 z] w fun e w' => e = .returned (.bool true) ∧ Below w.heap.size w w' := by
  have hb0 := hb
  obtain ⟨s, cap, rfl, hc1, hc2, hx, hsrc⟩ := hb
  rcases Nat.lt_or_ge 2000 xs.length with h | h
  · exact walk_big _ _ _ _ w hL h
  by_cases h0 : z < 0
  · exact walk_low _ _ _ _ w hL h h0
  by_cases h1 : (xs.length : Int) < z
  · exact walk_high _ _ _ _ w hL h h0 h1
  obtain ⟨c, rfl⟩ : ∃ c : Nat, z = (c : Int) := ⟨z.toNat, by omega⟩
  obtain ⟨n, hn⟩ : ∃ n, n = xs.length := ⟨_, rfl⟩
  rw [← hn] at hc1 h hb0 h1 ⊢
  have hcn : c ≤ n := by omega
  have hz : decide ((2000 : Int) < (n : Int)) = false := decide_eq_false (by omega)
  have hz0 : decide ((c : Int) < 0) = false := decide_eq_false (by omega)
  have hz1 : decide ((n : Int) < (c : Int)) = false := decide_eq_false (by omega)
  obtain ⟨s1, hB1, hsl1⟩ := bs_head hb0 hcn
  obtain ⟨s2, hB2, hsl2⟩ := bs_tail hb0 hcn
  have HB := Lib.hid hb0
  have HB1 := Lib.hid hB1
  have HB2 := Lib.hid hB2
  have HL := Lib.hid hL
  have HS1 : Hid (∀ sp W, Laid W → PartsV W sp [xs] → Calls Tryd.prog 11 #[.slice sp 1 1] W fun e w' => e = .returned (idv (sha xs)) ∧ Below W.heap.size W w') := fun sp W h1 h2 => sum1 xs sp 1 W h1 (by omega) h2
  have HT1 : Hid (∀ sp W, Laid W → PartsV W sp [xs] → Calls Tryd.prog 13 #[.slice sp 1 1] W fun e w' => e = .returned (idv (sha (sha xs))) ∧ Below W.heap.size W w') := fun sp W h1 h2 => twice1 xs sp 1 W h1 (by omega) h2
  have HS3 : Hid (∀ sp W, Laid W → PartsV W sp [xs.take c, [], xs.drop c] → Calls Tryd.prog 11 #[.slice sp 3 3] W fun e w' => e = .returned (idv (sha xs)) ∧ Below W.heap.size W w') := fun sp W h1 h2 => by
    have h := sumv [xs.take c, [], xs.drop c] sp 3 W h1 (by rw [flat3]; omega) (by simp) h2
    rw [flat3] at h
    exact h
  have HT2 : Hid (∀ sp W, Laid W → PartsV W sp [xs.take c, xs.drop c] → Calls Tryd.prog 13 #[.slice sp 2 2] W fun e w' => e = .returned (idv (sha (sha xs))) ∧ Below W.heap.size W w') := fun sp W h1 h2 => by
    have h := twicev [xs.take c, xs.drop c] sp 2 W h1 (by rw [flat2]; omega) (by simp) h2
    rw [flat2] at h
    exact h
  have hgd := id_guard (sha xs) (sha xs)
  have heq := id_bin (sha xs) rfl
  have hgd2 := id_guard (sha (sha xs)) (sha (sha xs))
  have heq2 := id_bin (sha (sha xs)) rfl
  generalize idv (sha (sha xs)) = U at *
  generalize idv (sha xs) = V at *
  generalize xs.take c = ys at *
  generalize xs.drop c = zs at *
  have HSL1 := Lib.hid hsl1
  have HSL2 := Lib.hid hsl2
  clear hn hL hx hsrc hb0 h hB1 hB2 hsl1 hsl2 h0 h1
  go_enter Tryd.func8, Tryd.ntmps8
  go_wp2_with fail
  refine (known_any _ HL.out).mono ?_
  rintro e w1 ⟨rfl, hW⟩
  go_upto_region 5 with fail
  have hLW := HL.out.keep hW
  have hBW := (HB.out.keep hW (Nat.le_refl _)).mono hW.size
  have hBW1 := (HB1.out.keep hW (Nat.le_refl _)).mono hW.size
  have hBW2 := (HB2.out.keep hW (Nat.le_refl _)).mono hW.size
  refine region5 w1 s s1 s2 n cap c _ _ _ _ xs ys zs V U _ _ _ _ _ _ _ _ _ _ _ _ _ _ _ _ _ _ _ (Lib.hid hLW) (Lib.hid hBW) (Lib.hid hBW1) (Lib.hid hBW2) HSL1.out HSL2.out hgd heq hgd2 heq2 HS3 HS1 HT2 HT1 (fun x20 x21 x22 x23 x24 x25 x26 x27 x28 x29 x30 x31 x32 x33 x34 x35 x36 x37 x38 x39 x40 x41 x42 x43 x44 x45 w' hbc => ?_)
  show Exit.then _ _ Exit.normal _ w'
  go_wp2_with fail
  go_ret
  exact ⟨rfl, below_step hW hW.size hbc⟩
/-- The door's own heap meets the condition. -/
theorem door_met (os : Os) (args : Array Value) : laidMetH Tryd.prog laidL ((World.doorLaid Tryd.prog 19 os).forCall (fun _ _ => 0) ⟨#[], args, []⟩).memory :=
  laidMetH_of_parts3 (fuel := 8) (laidMet_of_run' 8 (by kernel_rfl) (by kernel_rfl)) (by kernel_rfl) (by kernel_rfl)

set_option maxRecDepth 100000 in
theorem lifted (os : Os) (started : os.Started) (H : Type) (enc : TypeId × Value → H) :
    ReturnsInHanded {} Tryd.checked os 8 .any (fun w args => (Rows.hashBlocksSpec.pre enc Tryd.prog Tryd.f8 [] false w args ∧ laidMetH Tryd.prog laidL w) ∧ sizedMet enc Tryd.prog Tryd.f8 (OpenSpec.ofChange Rows.hashBlocksSpec) false w args)
      (Rows.hashBlocksSpec.post enc Tryd.prog Tryd.f8 false true false false) := by
  refine returnsInHanded_of_change_and (C := Tryd.checked) (X := fun w _ => laidMetH Tryd.prog laidL w) (fun _ _ _ hh h => h.of_heap hh) own started (by kernel_rfl) Tryd.func8
    (ChangeSpec.witness_shaped (enc := enc) (C := Tryd.checked) (os := os) (X := fun w _ => laidMetH Tryd.prog laidL w) false (World.doorLaid Tryd.prog 19 os) #[.slice none 0 0, .int .i64 0] 8 rfl (World.shaped_of_RefB (by kernel_rfl) (by kernel_rfl)) (by kernel_rfl) (by kernel_rfl) (by kernel_rfl) (door_met os _)) ?_
  intro W base args ds gs before hval0 hW _ _ hL _
  have hval : ∀ (j : Nat) t v, Tryd.f8.params[j]? = some t → args[j]? = some v → Value.okWide Tryd.prog W .any base t v := hval0
  have hW' := hW
  obtain ⟨p, q, hA0, hV, rfl, hfz, hnd⟩ := hW
  have hA : DataW.TrodAll enc Tryd.prog W 0 (fun _ => true) true Tryd.f8.params.toList args.toList ds p := hA0
  rw [Tryd.params8] at hA hval
  obtain ⟨v0, vs0, d0, ds0, p0, q0, hargs, rfl, rfl, h0, r0⟩ := trodAll_cons hA
  obtain ⟨v1, vs1, d1, ds1, p1, q1, rfl, rfl, rfl, h1, r1⟩ := trodAll_cons r0
  obtain ⟨rfl, rfl, rfl⟩ := trodAll_nil r1
  obtain rfl : args = #[v0, v1] := by cases args; simp_all
  obtain ⟨rfl, rfl⟩ := trodVars_none hV
  have lt0 : ∀ x ∈ p0, x.block < W.heap.size := by obtain ⟨m, hm⟩ := h0; exact DataW.trod_lt m _ _ _ hm
  have lt1 : ∀ x ∈ p1, x.block < W.heap.size := by obtain ⟨m, hm⟩ := h1; exact DataW.trod_lt m _ _ _ hm
  obtain ⟨z, rfl⟩ := okWide_int (k := .i64) Tryd.underlying3 (hval 1 3 v1 rfl rfl)
  obtain ⟨xs, hb⟩ := bytes_arg (hval 0 22 v0 rfl rfl) h0
  have hwalk := walk xs v0 z W (of_laid hL) hb
  clear hA0 hval0
  refine hwalk.mono fun e W' ⟨he, bel⟩ => ?_
  subst he
  exact ⟨_, rfl, _, _, _, [], _, [], hW', trodAll_mk1 (shut_bool Tryd.underlying4 _), (trodAll_cons_mk (Below.trod laidOut (by kernel_rfl) (of_decide_eq_true (by kernel_rfl)) h0 bel lt0) (trodAll_cons_mk (Below.trod laidOut (by kernel_rfl) (of_decide_eq_true (by kernel_rfl)) h1 bel lt1) trodAll_mk0)), rfl, bel.frame _, fun h => by cases h⟩

theorem over : Rows.HashBlocksSaid :=
  OpenClaim.holds_of_wide 8 Tryd.f8 rfl rfl rfl rfl rfl rfl rfl ⟨rfl, rfl, rfl, rfl, rfl⟩ rfl rfl rfl rfl rfl (by kernel_rfl) Tryd.func8 (by kernel_rfl)
    (of_decide_eq_true (by kernel_rfl)) (by unfold Func.isWrapper; first | (rw [if_pos (by decide +kernel)]; kernel_rfl) | (rw [if_neg (by decide +kernel)]; exact ⟨rfl, rfl⟩))
    (fun os started H enc _ => lifted os started H enc)

theorem proved : Rows.HashBlocksCardSaid :=
  Claim7.holds_tied_plain_at .later [] [.data, .data] true Rows.hashBlocksCard.stood.harness false
    over (fun _ h => by cases h) (by kernel_rfl) (fun _ h => by cases h) hashBlocks_row_tie rfl ⟨rfl, rfl⟩ (by kernel_rfl) rfl
    (fun f fn hf hfn => by
      obtain rfl : f = 8 := Option.some.inj ((show Tryd.prog.funcNamed "tallystick/tallysticklaw01.HashBlocks" = some 8 by kernel_rfl).symm.trans hf) |>.symm
      obtain rfl : fn = Tryd.f8 := (Option.some.inj (Tryd.func8.symm.trans hfn)).symm
      exact ⟨by kernel_rfl, fun j t ht => by
        rw [Tryd.params8] at ht
        have hm : t ∈ [22, 3] := by simpa using Array.mem_of_getElem? ht
        have hall : ([22, 3].all fun u => !Tryd.prog.wantsStandIn u) = true := by kernel_rfl
        exact (show Tryd.prog.wantsStandIn t = false by simpa using List.all_eq_true.1 hall t hm)⟩)
    (by kernel_rfl)
#print axioms proved
end Go.Proofs.YtflpeohhlmainaaDoor.hashBlocks
