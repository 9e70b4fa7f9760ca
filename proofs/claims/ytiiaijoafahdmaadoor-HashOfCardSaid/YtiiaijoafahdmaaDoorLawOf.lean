/-
  What is proved: for every slice of bytes the law HashOf returns true, and its argument reads behind the call as it read before; the two listed tables of package hash are taken to hold what the program's text lays in them, and the card ties them to it.
-/
import Derived.Test.YtiiaijoafahdmaaDoorRefU
import Derived.Test.YtiiaijoafahdmaaDoorTie
import Derived.Test.YtiiaijoafahdmaaDoorCards
import Derived.Stop.Joined
import Derived.Deep.Upon
namespace Go.Proofs.YtiiaijoafahdmaaDoor.hashOf
open Go.ChangeShapes Go.WideShapes Go.ChangeAt Go.RowKit
set_option linter.unusedVariables false

theorem own : ownKnob Tryd.prog.godebug = none := by kernel_rfl
theorem laidOut : laidOutB Tryd.prog = true := by kernel_rfl
attribute [local go_sem ↓] Go.wp_at_zero Go.wp_at_succ


set_option maxRecDepth 100000 in
set_option maxHeartbeats 20000000 in
theorem region5 (W : World) (s : Option Addr) (n cap : Nat) (str : ByteArray) (xs : List Nat) (LO LU : List Value) (v1 v2 v3 v4 v5 v6 v7 : Value) (Q : Exit → Act → World → Prop) (HLW : Hid (Laid W)) (HBW : Hid (BsV W W.heap.size (Value.slice s n cap) xs))
    (HCV : Hid (∀ w', Below W.heap.size W w' → (convert 22 9 (Value.slice s n cap)).run Tryd.prog w' = .ok (.string str) w')) (hcv : (convert 22 9 (Value.slice s n cap)).run Tryd.prog W = .ok (.string str) W)
    (hgd0 : ∀ op a b w, (eqGuard op 25 a b (.agg LO.toArray) (.agg LO.toArray)).run Tryd.prog w = .ok () w) (heq0 : ∀ w, (binOp .eql 25 (.agg LO.toArray) (.agg LO.toArray)).run Tryd.prog w = .ok (.bool true) w)
    (hgd1 : ∀ op a b w, (eqGuard op 25 a b (.agg LU.toArray) (.agg LU.toArray)).run Tryd.prog w = .ok () w) (heq1 : ∀ w, (binOp .eql 25 (.agg LU.toArray) (.agg LU.toArray)).run Tryd.prog w = .ok (.bool true) w)
    (HSSum : Hid (∀ sp W, Laid W → PartsV W sp [xs] → Calls Tryd.prog 11 #[.slice sp 1 1] W fun e w' => e = .returned (.agg LO.toArray) ∧ Below W.heap.size W w')) (HRSum : Hid (∀ W, Calls Tryd.prog 12 #[.string str] W fun e w' => e = .returned (.agg LO.toArray) ∧ Below W.heap.size W w')) (HSTwice : Hid (∀ sp W, Laid W → PartsV W sp [xs] → Calls Tryd.prog 13 #[.slice sp 1 1] W fun e w' => e = .returned (.agg LU.toArray) ∧ Below W.heap.size W w')) (HRTwice : Hid (∀ W, Calls Tryd.prog 14 #[.string str] W fun e w' => e = .returned (.agg LU.toArray) ∧ Below W.heap.size W w'))
    (hQ : ∀ x8 x9 x10 x11 x12 x13 x14 x15 x16 x17 x18 x19 x20 x21 x22 x23 w', Below W.heap.size W w' → Q .normal { tmps := #[Value.slice s n cap, v1, Value.bool true, v3, v4, v5, v6, v7, x8, x9, x10, x11, x12, x13, x14, x15, x16, x17, x18, x19, x20, x21, x22, x23], defers := [] } w') :
    Code.wp Tryd.prog (Code.region 5 #[{ dst := some 8, op := Op.move (Operand.tmp 0), type := 22, pos := "law.go:23", after := #[], guard := none },
{ dst := some 9, op := Op.buildSlice 29 1 #[(0, Operand.tmp 8)], type := 29, pos := "law.go:23", after := #[{ on := 0, ground := Ground.data }], guard := none },
{ dst := some 10, op := Op.call { callee := Callee.value (Operand.func 11), args := #[Operand.tmp 9], argTypes := #[29] }, type := 25, pos := "law.go:23", after := #[{ on := 1, ground := Ground.data }], guard := none },
{ dst := some 11, op := Op.move (Operand.tmp 0), type := 22, pos := "law.go:23", after := #[], guard := none },
{ dst := some 12, op := Op.convert 22 9 (Operand.tmp 11), type := 9, pos := "law.go:23", after := #[{ on := 3, ground := Ground.data }], guard := none },
{ dst := some 13, op := Op.call { callee := Callee.value (Operand.func 12), args := #[Operand.tmp 12], argTypes := #[9] }, type := 24, pos := "law.go:23", after := #[{ on := 4, ground := Ground.data }, { on := 2, ground := Ground.chain }], guard := none },
{ dst := some 14, op := Op.binOp BinOp.eql 25 (Operand.tmp 10) (Operand.tmp 13) 25, type := 4, pos := "law.go:23", after := #[{ on := 2, ground := Ground.data }, { on := 5, ground := Ground.data }], guard := none },
{ dst := some 15, op := Op.move (Operand.tmp 14), type := 4, pos := "law.go:23", after := #[{ on := 6, ground := Ground.data }, { on := 5, ground := Ground.chain }], guard := none },
{ dst := some 16, op := Op.move (Operand.tmp 0), type := 22, pos := "law.go:23", after := #[{ on := 7, ground := Ground.guard }], guard := some (7, true) },
{ dst := some 17, op := Op.buildSlice 29 1 #[(0, Operand.tmp 16)], type := 29, pos := "law.go:23", after := #[{ on := 8, ground := Ground.data }, { on := 7, ground := Ground.guard }], guard := some (7, true) },
{ dst := some 18, op := Op.call { callee := Callee.value (Operand.func 13), args := #[Operand.tmp 17], argTypes := #[29] }, type := 25, pos := "law.go:23", after := #[{ on := 9, ground := Ground.data }, { on := 7, ground := Ground.chain }, { on := 7, ground := Ground.guard }], guard := some (7, true) },
{ dst := some 19, op := Op.move (Operand.tmp 0), type := 22, pos := "law.go:23", after := #[{ on := 7, ground := Ground.guard }], guard := some (7, true) },
{ dst := some 20, op := Op.convert 22 9 (Operand.tmp 19), type := 9, pos := "law.go:23", after := #[{ on := 11, ground := Ground.data }, { on := 7, ground := Ground.guard }], guard := some (7, true) },
{ dst := some 21, op := Op.call { callee := Callee.value (Operand.func 14), args := #[Operand.tmp 20], argTypes := #[9] }, type := 24, pos := "law.go:23", after := #[{ on := 12, ground := Ground.data }, { on := 10, ground := Ground.chain }, { on := 7, ground := Ground.guard }], guard := some (7, true) },
{ dst := some 22, op := Op.binOp BinOp.eql 25 (Operand.tmp 18) (Operand.tmp 21) 25, type := 4, pos := "law.go:23", after := #[{ on := 10, ground := Ground.data }, { on := 13, ground := Ground.data }, { on := 7, ground := Ground.guard }], guard := some (7, true) },
{ dst := some 23, op := Op.pick (Operand.tmp 15) (Operand.tmp 22) (Operand.const (Value.bool false)), type := 4, pos := "law.go:23", after := #[{ on := 7, ground := Ground.data }, { on := 14, ground := Ground.data }], guard := none },
{ dst := some 2, op := Op.assign (Operand.tmp 23), type := 4, pos := "law.go:23", after := #[{ on := 15, ground := Ground.data }, { on := 13, ground := Ground.chain }, { on := 0, ground := Ground.phase }, { on := 1, ground := Ground.phase }, { on := 2, ground := Ground.phase }, { on := 3, ground := Ground.phase }, { on := 4, ground := Ground.phase }, { on := 5, ground := Ground.phase }, { on := 6, ground := Ground.phase }, { on := 7, ground := Ground.phase }, { on := 8, ground := Ground.phase }, { on := 9, ground := Ground.phase }, { on := 10, ground := Ground.phase }, { on := 11, ground := Ground.phase }, { on := 12, ground := Ground.phase }, { on := 13, ground := Ground.phase }, { on := 14, ground := Ground.phase }, { on := 15, ground := Ground.phase }], guard := none }] true) Q { tmps := #[Value.slice s n cap, v1, v2, v3, v4, v5, v6, v7, undef, undef, undef, undef, undef, undef, undef, undef, undef, undef, undef, undef, undef, undef, undef, undef], defers := [] } W := by
  go_region_held3 (fun w' => W.heap.size ≤ w'.heap.size ∧ (convert 22 9 (Value.slice s n cap)).run Tryd.prog w' = .ok (.string str) w') ((refine ⟨?_, ?_⟩; (focus (first | omega | (simp; done) | (simp; omega) | (simp [World.drew]; done) | (simp [World.drew]; omega))); (focus (refine HCV.out _ ?_; repeat' (first | with_reducible exact Below.refl _ _ | with_reducible assumption | with_reducible exact From.out (by with_reducible assumption) | with_reducible refine Below.drew ?_ | with_reducible refine Below.setCell ?_ ?_ _ | with_reducible refine Below.alloc ?_ ?_ _ | with_reducible exact Nat.le_refl _ | omega | (simp; done) | (simp; omega) | (simp [World.drew]; done) | (simp [World.drew]; omega))))))
    (first
      | (go_at_call 11
         refine (HSSum.out _ _ ?_ ?_).mono ?_
         · refine HLW.out.keep ?_
           repeat' (first | with_reducible exact Below.refl _ _ | with_reducible assumption | with_reducible exact From.out (by with_reducible assumption) | with_reducible refine Below.drew ?_ | with_reducible refine Below.setCell ?_ ?_ _ | with_reducible refine Below.alloc ?_ ?_ _ | with_reducible exact Nat.le_refl _ | omega | (simp; done) | (simp; omega) | (simp [World.drew]; done) | (simp [World.drew]; omega))
         · refine parts_bs (u := 22) (v := Value.slice s n cap) (HBW.out.keep (C := W.heap.size) ?_ (Nat.le_refl _)) ?_ ?_
           · repeat' (first | with_reducible exact Below.refl _ _ | with_reducible assumption | with_reducible exact From.out (by with_reducible assumption) | with_reducible refine Below.drew ?_ | with_reducible refine Below.setCell ?_ ?_ _ | with_reducible refine Below.alloc ?_ ?_ _ | with_reducible exact Nat.le_refl _ | omega | (simp; done) | (simp; omega) | (simp [World.drew]; done) | (simp [World.drew]; omega))
           · first | omega | (simp; done) | (simp; omega) | (simp [World.drew]; done) | (simp [World.drew]; omega)
           · repeat' (first | with_reducible assumption | with_reducible exact Bk.new _ _ _ | with_reducible refine Bk.new' _ _ _ ?_ | with_reducible refine Bk.alloc ?_ _ | with_reducible refine Bk.drew ?_ | (with_reducible refine Bk.keep ?_ (by with_reducible assumption)) | (simp; done) | (simp; omega) | (simp [World.drew]; done) | (simp [World.drew]; omega))
         rintro e w6 ⟨rfl, hb6⟩
         have hE6 : From W w6 := by
           refine below_step ?_ ?_ hb6
           · repeat' (first | with_reducible exact Below.refl _ _ | with_reducible assumption | with_reducible exact From.out (by with_reducible assumption) | with_reducible refine Below.drew ?_ | with_reducible refine Below.setCell ?_ ?_ _ | with_reducible refine Below.alloc ?_ ?_ _ | with_reducible exact Nat.le_refl _ | omega | (simp; done) | (simp; omega) | (simp [World.drew]; done) | (simp [World.drew]; omega))
           · first | omega | (simp; done) | (simp; omega) | (simp [World.drew]; done) | (simp [World.drew]; omega)
         have z6 := hE6.out.size)
      | (go_at_call 12
         refine (HRSum.out _).mono ?_
         rintro e w7 ⟨rfl, hb7⟩
         have hE7 : From W w7 := by
           refine below_step ?_ ?_ hb7
           · repeat' (first | with_reducible exact Below.refl _ _ | with_reducible assumption | with_reducible exact From.out (by with_reducible assumption) | with_reducible refine Below.drew ?_ | with_reducible refine Below.setCell ?_ ?_ _ | with_reducible refine Below.alloc ?_ ?_ _ | with_reducible exact Nat.le_refl _ | omega | (simp; done) | (simp; omega) | (simp [World.drew]; done) | (simp [World.drew]; omega))
           · first | omega | (simp; done) | (simp; omega) | (simp [World.drew]; done) | (simp [World.drew]; omega)
         have z7 := hE7.out.size)
      | (go_at_call 13
         refine (HSTwice.out _ _ ?_ ?_).mono ?_
         · refine HLW.out.keep ?_
           repeat' (first | with_reducible exact Below.refl _ _ | with_reducible assumption | with_reducible exact From.out (by with_reducible assumption) | with_reducible refine Below.drew ?_ | with_reducible refine Below.setCell ?_ ?_ _ | with_reducible refine Below.alloc ?_ ?_ _ | with_reducible exact Nat.le_refl _ | omega | (simp; done) | (simp; omega) | (simp [World.drew]; done) | (simp [World.drew]; omega))
         · refine parts_bs (u := 22) (v := Value.slice s n cap) (HBW.out.keep (C := W.heap.size) ?_ (Nat.le_refl _)) ?_ ?_
           · repeat' (first | with_reducible exact Below.refl _ _ | with_reducible assumption | with_reducible exact From.out (by with_reducible assumption) | with_reducible refine Below.drew ?_ | with_reducible refine Below.setCell ?_ ?_ _ | with_reducible refine Below.alloc ?_ ?_ _ | with_reducible exact Nat.le_refl _ | omega | (simp; done) | (simp; omega) | (simp [World.drew]; done) | (simp [World.drew]; omega))
           · first | omega | (simp; done) | (simp; omega) | (simp [World.drew]; done) | (simp [World.drew]; omega)
           · repeat' (first | with_reducible assumption | with_reducible exact Bk.new _ _ _ | with_reducible refine Bk.new' _ _ _ ?_ | with_reducible refine Bk.alloc ?_ _ | with_reducible refine Bk.drew ?_ | (with_reducible refine Bk.keep ?_ (by with_reducible assumption)) | (simp; done) | (simp; omega) | (simp [World.drew]; done) | (simp [World.drew]; omega))
         rintro e w8 ⟨rfl, hb8⟩
         have hE8 : From W w8 := by
           refine below_step ?_ ?_ hb8
           · repeat' (first | with_reducible exact Below.refl _ _ | with_reducible assumption | with_reducible exact From.out (by with_reducible assumption) | with_reducible refine Below.drew ?_ | with_reducible refine Below.setCell ?_ ?_ _ | with_reducible refine Below.alloc ?_ ?_ _ | with_reducible exact Nat.le_refl _ | omega | (simp; done) | (simp; omega) | (simp [World.drew]; done) | (simp [World.drew]; omega))
           · first | omega | (simp; done) | (simp; omega) | (simp [World.drew]; done) | (simp [World.drew]; omega)
         have z8 := hE8.out.size)
      | (go_at_call 14
         refine (HRTwice.out _).mono ?_
         rintro e w9 ⟨rfl, hb9⟩
         have hE9 : From W w9 := by
           refine below_step ?_ ?_ hb9
           · repeat' (first | with_reducible exact Below.refl _ _ | with_reducible assumption | with_reducible exact From.out (by with_reducible assumption) | with_reducible refine Below.drew ?_ | with_reducible refine Below.setCell ?_ ?_ _ | with_reducible refine Below.alloc ?_ ?_ _ | with_reducible exact Nat.le_refl _ | omega | (simp; done) | (simp; omega) | (simp [World.drew]; done) | (simp [World.drew]; omega))
           · first | omega | (simp; done) | (simp; omega) | (simp [World.drew]; done) | (simp [World.drew]; omega)
         have z9 := hE9.out.size))
  all_goals exact hQ _ _ _ _ _ _ _ _ _ _ _ _ _ _ _ _ _ (by repeat' (first | with_reducible exact Below.refl _ _ | with_reducible assumption | with_reducible exact From.out (by with_reducible assumption) | with_reducible refine Below.drew ?_ | with_reducible refine Below.setCell ?_ ?_ _ | with_reducible refine Below.alloc ?_ ?_ _ | with_reducible exact Nat.le_refl _ | omega | (simp; done) | (simp; omega) | (simp [World.drew]; done) | (simp [World.drew]; omega)))

set_option maxRecDepth 100000 in
set_option maxHeartbeats 1000000 in
theorem walk_big (s : Option Addr) (len cap : Nat) (w : World) (hL : Laid w) (h : 300 < len) :
    Calls Tryd.prog 3 #[.slice s len cap] w fun e w' => e = .returned (.bool true) ∧ Below w.heap.size w w' := by
  have hz : (300 : Int) < (len : Int) := by omega
  go_enter Tryd.func3, Tryd.ntmps3
  go_wp2_with fail
  refine (known_any _ hL).mono ?_
  rintro e w1 ⟨rfl, hb1⟩
  go_wp2_with fail
  go_ret
  exact ⟨rfl, hb1⟩

set_option maxRecDepth 100000 in
set_option maxHeartbeats 1000000 in
theorem walk (xs : List Nat) (v : Value) (w : World) (hL : Laid w) (hb : BsV w w.heap.size v xs) :
    Calls Tryd.prog 3 #[v] w fun e w' => e = .returned (.bool true) ∧ Below w.heap.size w w' := by
  have hb0 := hb
  obtain ⟨s, cap, rfl, hc1, hc2, hx, hsrc⟩ := hb
  rcases Nat.lt_or_ge 300 xs.length with h | h
  · exact walk_big _ _ _ w hL h
  obtain ⟨n, hn⟩ : ∃ n, n = xs.length := ⟨_, rfl⟩
  rw [← hn] at hc1 h hb0 ⊢
  have hz : decide ((300 : Int) < (n : Int)) = false := decide_eq_false (by omega)
  have hle : xs.length ≤ 300 := by omega
  have HS : Hid (∀ sp W, Laid W → PartsV W sp [xs] → Calls Tryd.prog 11 #[.slice sp 1 1] W fun e w' => e = .returned (idv (sha xs)) ∧ Below W.heap.size W w') := fun sp W h1 h2 => sum1 xs sp 1 W h1 (by omega) h2
  have HT : Hid (∀ sp W, Laid W → PartsV W sp [xs] → Calls Tryd.prog 13 #[.slice sp 1 1] W fun e w' => e = .returned (idv (sha (sha xs))) ∧ Below W.heap.size W w') := fun sp W h1 h2 => twice1 xs sp 1 W h1 (by omega) h2
  have HRS : Hid (∀ W, Calls Tryd.prog 12 #[.string (strN xs)] W fun e w' => e = .returned (idv (sha xs)) ∧ Below W.heap.size W w') := fun W => rsum_any xs W hx (by omega)
  have HRT : Hid (∀ W, Calls Tryd.prog 14 #[.string (strN xs)] W fun e w' => e = .returned (idv (sha (sha xs))) ∧ Below W.heap.size W w') := fun W => rtwice_any xs W hx (by omega)
  have hol : (sha xs).length = 32 := rfl
  have hql : (sha (sha xs)).length = 32 := rfl
  generalize sha (sha xs) = U at *
  generalize sha xs = O at *
  have HCS := fun (W : World) (h : BsV W W.heap.size (.slice s n cap) xs) => conv_bs h
  generalize strN xs = str at *
  have HCS := Lib.hid HCS
  have HB := Lib.hid hb0
  have HL := Lib.hid hL
  have HOL := Lib.hid hol
  have HQL := Lib.hid hql
  clear hn hL hx hsrc hb0 hol hql hle
  go_enter Tryd.func3, Tryd.ntmps3
  go_wp2_with fail
  refine (known_any _ HL.out).mono ?_
  rintro e w1 ⟨rfl, hb1⟩
  have HB1 := Lib.hid ((HB.out.keep hb1 (Nat.le_refl _)).mono hb1.size)
  go_upto_region 5 with fail
  refine region5 w1 s n cap str xs (O.map byteV) (U.map byteV) _ _ _ _ _ _ _ _ (Lib.hid (HL.out.keep hb1)) HB1 (Lib.hid (fun w' h => HCS.out w' ((HB1.out.keep h (Nat.le_refl _)).mono h.size))) (HCS.out _ HB1.out) (id_guard O O) (id_bin O HOL.out) (id_guard U U) (id_bin U HQL.out) HS HRS HT HRT (fun x8 x9 x10 x11 x12 x13 x14 x15 x16 x17 x18 x19 x20 x21 x22 x23 w' hbc => ?_)
  show Exit.then _ _ Exit.normal _ w'
  go_wp2_with fail
  go_ret
  exact ⟨rfl, below_step hb1 hb1.size hbc⟩
/-- The door's own heap meets the condition. -/
theorem door_met (os : Os) (args : Array Value) : laidMetH Tryd.prog laidL ((World.doorLaid Tryd.prog 19 os).forCall (fun _ _ => 0) ⟨#[], args, []⟩).memory :=
  laidMetH_of_parts3 (fuel := 8) (laidMet_of_run' 8 (by kernel_rfl) (by kernel_rfl)) (by kernel_rfl) (by kernel_rfl)

set_option maxRecDepth 100000 in
theorem lifted (os : Os) (started : os.Started) (H : Type) (enc : TypeId × Value → H) :
    ReturnsInHanded {} Tryd.checked os 3 .any (fun w args => (Rows.hashOfSpec.pre enc Tryd.prog Tryd.f3 [] false w args ∧ laidMetH Tryd.prog laidL w) ∧ sizedMet enc Tryd.prog Tryd.f3 (OpenSpec.ofChange Rows.hashOfSpec) false w args)
      (Rows.hashOfSpec.post enc Tryd.prog Tryd.f3 false true false false) := by
  refine returnsInHanded_of_change_and (C := Tryd.checked) (X := fun w _ => laidMetH Tryd.prog laidL w) (fun _ _ _ hh h => h.of_heap hh) own started (by kernel_rfl) Tryd.func3
    (ChangeSpec.witness_shaped (enc := enc) (C := Tryd.checked) (os := os) (X := fun w _ => laidMetH Tryd.prog laidL w) false (World.doorLaid Tryd.prog 19 os) #[.slice none 0 0] 8 rfl (World.shaped_of_RefB (by kernel_rfl) (by kernel_rfl)) (by kernel_rfl) (by kernel_rfl) (by kernel_rfl) (door_met os _)) ?_
  intro W base args ds gs before hval0 hW _ _ hL _
  have hval : ∀ (j : Nat) t v, Tryd.f3.params[j]? = some t → args[j]? = some v → Value.okWide Tryd.prog W .any base t v := hval0
  have hW' := hW
  obtain ⟨p, q, hA0, hV, rfl, hfz, hnd⟩ := hW
  have hA : DataW.TrodAll enc Tryd.prog W 0 (fun _ => true) true Tryd.f3.params.toList args.toList ds p := hA0
  rw [Tryd.params3] at hA hval
  obtain ⟨v0, vs0, d0, ds0, p0, q0, hargs, rfl, rfl, h0, r0⟩ := trodAll_cons hA
  obtain ⟨rfl, rfl, rfl⟩ := trodAll_nil r0
  obtain rfl : args = #[v0] := by cases args; simp_all
  obtain ⟨rfl, rfl⟩ := trodVars_none hV
  have lt0 : ∀ x ∈ p0, x.block < W.heap.size := by obtain ⟨m, hm⟩ := h0; exact DataW.trod_lt m _ _ _ hm
  obtain ⟨xs, hb⟩ := bytes_arg (hval 0 22 v0 rfl rfl) h0
  have hwalk := walk xs v0 W (of_laid hL) hb
  clear hA0 hval0
  refine hwalk.mono fun e W' ⟨he, bel⟩ => ?_
  subst he
  exact ⟨_, rfl, _, _, _, [], _, [], hW', trodAll_mk1 (shut_bool Tryd.underlying4 _), (trodAll_cons_mk (Below.trod laidOut (by kernel_rfl) (of_decide_eq_true (by kernel_rfl)) h0 bel lt0) trodAll_mk0), rfl, bel.frame _, fun h => by cases h⟩

theorem over : Rows.HashOfSaid :=
  OpenClaim.holds_of_wide 3 Tryd.f3 rfl rfl rfl rfl rfl rfl rfl ⟨rfl, rfl, rfl, rfl, rfl⟩ rfl rfl rfl rfl rfl (by kernel_rfl) Tryd.func3 (by kernel_rfl)
    (of_decide_eq_true (by kernel_rfl)) (by unfold Func.isWrapper; first | (rw [if_pos (by decide +kernel)]; kernel_rfl) | (rw [if_neg (by decide +kernel)]; exact ⟨rfl, rfl⟩))
    (fun os started H enc _ => lifted os started H enc)

theorem proved : Rows.HashOfCardSaid :=
  Claim7.holds_tied_plain_at .later [] [.data, .data] true Rows.hashOfCard.stood.harness false
    over (fun _ h => by cases h) (by kernel_rfl) (fun _ h => by cases h) hashOf_row_tie rfl ⟨rfl, rfl⟩ (by kernel_rfl) rfl
    (fun f fn hf hfn => by
      obtain rfl : f = 3 := Option.some.inj ((show Tryd.prog.funcNamed "tallystick/tallysticklaw01.HashOf" = some 3 by kernel_rfl).symm.trans hf) |>.symm
      obtain rfl : fn = Tryd.f3 := (Option.some.inj (Tryd.func3.symm.trans hfn)).symm
      exact ⟨by kernel_rfl, fun j t ht => by
        rw [Tryd.params3] at ht
        have hm : t ∈ [22] := by simpa using Array.mem_of_getElem? ht
        have hall : ([22].all fun u => !Tryd.prog.wantsStandIn u) = true := by kernel_rfl
        exact (show Tryd.prog.wantsStandIn t = false by simpa using List.all_eq_true.1 hall t hm)⟩)
    (by kernel_rfl)
#print axioms proved
end Go.Proofs.YtiiaijoafahdmaaDoor.hashOf
