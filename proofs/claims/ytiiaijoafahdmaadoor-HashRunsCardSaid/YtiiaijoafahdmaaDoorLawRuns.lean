/-
  What is proved: for every byte and every whole number the law HashRuns returns true; the two listed tables of package hash are taken to hold what the program's text lays in them, and the card ties them to it.
-/
import Derived.Test.YtiiaijoafahdmaaDoorRefU
import Derived.OwnWalk
import Derived.Laws.MakeOwn
import Derived.Test.YtiiaijoafahdmaaDoorTie
import Derived.Test.YtiiaijoafahdmaaDoorCards
import Derived.Stop.Joined
import Derived.Deep.Upon
namespace Go.Proofs.YtiiaijoafahdmaaDoor.hashRuns
open Go.ChangeShapes Go.WideShapes Go.ChangeAt Go.RowKit
set_option linter.unusedVariables false

theorem own : ownKnob Tryd.prog.godebug = none := by kernel_rfl
theorem laidOut : laidOutB Tryd.prog = true := by kernel_rfl
attribute [local go_sem ↓] Go.wp_at_zero Go.wp_at_succ


set_option maxRecDepth 100000 in
set_option maxHeartbeats 20000000 in
theorem region11 (W : World) (s : Option Addr) (n cap : Nat) (str : ByteArray) (xs : List Nat) (LO : List Value) (v0 v1 v2 v3 v4 v6 v7 v8 v9 v10 v11 v12 v13 v14 v15 v16 v17 v18 v19 v20 v21 v22 v23 v24 v25 v26 : Value) (Q : Exit → Act → World → Prop) (HLW : Hid (Laid W)) (HBW : Hid (BsV W W.heap.size (Value.slice s n cap) xs))
    (HCV : Hid (∀ w', Below W.heap.size W w' → (convert 22 9 (Value.slice s n cap)).run Tryd.prog w' = .ok (.string str) w')) (hcv : (convert 22 9 (Value.slice s n cap)).run Tryd.prog W = .ok (.string str) W)
    (hgd0 : ∀ op a b w, (eqGuard op 25 a b (.agg LO.toArray) (.agg LO.toArray)).run Tryd.prog w = .ok () w) (heq0 : ∀ w, (binOp .eql 25 (.agg LO.toArray) (.agg LO.toArray)).run Tryd.prog w = .ok (.bool true) w)
    (HSSum : Hid (∀ sp W, Laid W → PartsV W sp [xs] → Calls Tryd.prog 11 #[.slice sp 1 1] W fun e w' => e = .returned (.agg LO.toArray) ∧ Below W.heap.size W w')) (HRSum : Hid (∀ W, Calls Tryd.prog 12 #[.string str] W fun e w' => e = .returned (.agg LO.toArray) ∧ Below W.heap.size W w'))
    (hQ : ∀ x27 x28 x29 x30 x31 x32 x33 w', Below W.heap.size W w' → Q .normal { tmps := #[v0, v1, v2, v3, Value.bool true, Value.slice s n cap, v6, v7, v8, v9, v10, v11, v12, v13, v14, v15, v16, v17, v18, v19, v20, v21, v22, v23, v24, v25, v26, x27, x28, x29, x30, x31, x32, x33], defers := [] } w') :
    Code.wp Tryd.prog (Code.region 11 #[{ dst := some 27, op := Op.move (Operand.tmp 5), type := 22, pos := "law.go:74", after := #[], guard := none },
{ dst := some 28, op := Op.buildSlice 29 1 #[(0, Operand.tmp 27)], type := 29, pos := "law.go:74", after := #[{ on := 0, ground := Ground.data }], guard := none },
{ dst := some 29, op := Op.call { callee := Callee.value (Operand.func 11), args := #[Operand.tmp 28], argTypes := #[29] }, type := 25, pos := "law.go:74", after := #[{ on := 1, ground := Ground.data }], guard := none },
{ dst := some 30, op := Op.move (Operand.tmp 5), type := 22, pos := "law.go:74", after := #[], guard := none },
{ dst := some 31, op := Op.convert 22 9 (Operand.tmp 30), type := 9, pos := "law.go:74", after := #[{ on := 3, ground := Ground.data }], guard := none },
{ dst := some 32, op := Op.call { callee := Callee.value (Operand.func 12), args := #[Operand.tmp 31], argTypes := #[9] }, type := 24, pos := "law.go:74", after := #[{ on := 4, ground := Ground.data }, { on := 2, ground := Ground.chain }], guard := none },
{ dst := some 33, op := Op.binOp BinOp.eql 25 (Operand.tmp 29) (Operand.tmp 32) 25, type := 4, pos := "law.go:74", after := #[{ on := 2, ground := Ground.data }, { on := 5, ground := Ground.data }], guard := none },
{ dst := some 4, op := Op.assign (Operand.tmp 33), type := 4, pos := "law.go:74", after := #[{ on := 6, ground := Ground.data }, { on := 5, ground := Ground.chain }, { on := 0, ground := Ground.phase }, { on := 1, ground := Ground.phase }, { on := 2, ground := Ground.phase }, { on := 3, ground := Ground.phase }, { on := 4, ground := Ground.phase }, { on := 5, ground := Ground.phase }, { on := 6, ground := Ground.phase }], guard := none }] true) Q { tmps := #[v0, v1, v2, v3, v4, Value.slice s n cap, v6, v7, v8, v9, v10, v11, v12, v13, v14, v15, v16, v17, v18, v19, v20, v21, v22, v23, v24, v25, v26, undef, undef, undef, undef, undef, undef, undef], defers := [] } W := by
  go_region_held3 (fun w' => W.heap.size ≤ w'.heap.size ∧ (convert 22 9 (Value.slice s n cap)).run Tryd.prog w' = .ok (.string str) w') ((refine ⟨?_, ?_⟩; (focus (first | omega | (simp; done) | (simp; omega) | (simp [World.drew]; done) | (simp [World.drew]; omega))); (focus (refine HCV.out _ ?_; repeat' (first | with_reducible exact Below.refl _ _ | with_reducible assumption | with_reducible exact From.out (by with_reducible assumption) | with_reducible refine Below.drew ?_ | with_reducible refine Below.setCell ?_ ?_ _ | with_reducible refine Below.alloc ?_ ?_ _ | with_reducible exact Nat.le_refl _ | omega | (simp; done) | (simp; omega) | (simp [World.drew]; done) | (simp [World.drew]; omega))))))
    (first
      | (go_at_call 11
         refine (HSSum.out _ _ ?_ ?_).mono ?_
         · refine HLW.out.keep ?_
           repeat' (first | with_reducible exact Below.refl _ _ | with_reducible assumption | with_reducible exact From.out (by with_reducible assumption) | with_reducible refine Below.drew ?_ | with_reducible refine Below.setCell ?_ ?_ _ | with_reducible refine Below.alloc ?_ ?_ _ | with_reducible exact Nat.le_refl _ | omega | (simp; done) | (simp; omega) | (simp [World.drew]; done) | (simp [World.drew]; omega))
         · refine parts_bs (u := 22) (v := Value.slice s n cap) (HBW.out.keep (C := W.heap.size) ?_ (Nat.le_refl _)) ?_ ?_
           · repeat' (first | with_reducible exact Below.refl _ _ | with_reducible assumption | with_reducible exact From.out (by with_reducible assumption) | with_reducible refine Below.drew ?_ | with_reducible refine Below.setCell ?_ ?_ _ | with_reducible refine Below.alloc ?_ ?_ _ | with_reducible exact Nat.le_refl _ | omega | (simp; done) | (simp; omega) | (simp [World.drew]; done) | (simp [World.drew]; omega))
           · first | omega | (simp; done) | (simp; omega) | (simp [World.drew]; done) | (simp [World.drew]; omega)
           · repeat' (first | with_reducible assumption | with_reducible exact Bk.new _ _ _ | with_reducible refine Bk.new' _ _ _ ?_ | with_reducible refine Bk.alloc ?_ _ | with_reducible refine Bk.drew ?_ | (with_reducible refine Bk.keep ?_ (by with_reducible assumption)) | (simp; done) | (simp; omega) | (simp [World.drew]; done) | (simp [World.drew]; omega))
         rintro e w6 ⟨rfl, hb6⟩
         have hE6 : From W w6 := by
           refine below_step ?_ ?_ hb6
           · repeat' (first | with_reducible exact Below.refl _ _ | with_reducible assumption | with_reducible exact From.out (by with_reducible assumption) | with_reducible refine Below.drew ?_ | with_reducible refine Below.setCell ?_ ?_ _ | with_reducible refine Below.alloc ?_ ?_ _ | with_reducible exact Nat.le_refl _ | omega | (simp; done) | (simp; omega) | (simp [World.drew]; done) | (simp [World.drew]; omega))
           · first | omega | (simp; done) | (simp; omega) | (simp [World.drew]; done) | (simp [World.drew]; omega)
         have z6 := hE6.out.size)
      | (go_at_call 12
         refine (HRSum.out _).mono ?_
         rintro e w7 ⟨rfl, hb7⟩
         have hE7 : From W w7 := by
           refine below_step ?_ ?_ hb7
           · repeat' (first | with_reducible exact Below.refl _ _ | with_reducible assumption | with_reducible exact From.out (by with_reducible assumption) | with_reducible refine Below.drew ?_ | with_reducible refine Below.setCell ?_ ?_ _ | with_reducible refine Below.alloc ?_ ?_ _ | with_reducible exact Nat.le_refl _ | omega | (simp; done) | (simp; omega) | (simp [World.drew]; done) | (simp [World.drew]; omega))
           · first | omega | (simp; done) | (simp; omega) | (simp [World.drew]; done) | (simp [World.drew]; omega)
         have z7 := hE7.out.size))
  all_goals exact hQ _ _ _ _ _ _ _ _ (by repeat' (first | with_reducible exact Below.refl _ _ | with_reducible assumption | with_reducible exact From.out (by with_reducible assumption) | with_reducible refine Below.drew ?_ | with_reducible refine Below.setCell ?_ ?_ _ | with_reducible refine Below.alloc ?_ ?_ _ | with_reducible exact Nat.le_refl _ | omega | (simp; done) | (simp; omega) | (simp [World.drew]; done) | (simp [World.drew]; omega)))

theorem zero_made (n : Nat) : madeCells (Value.int .u8 0).cells n = idA (zeros n) := by
  have hc : (Value.int .u8 0).cells = #[.int .u8 0] := rfl
  rw [hc]
  unfold madeCells idA zeros byteV
  apply Array.ext
  · simp
  · intro i h1 h2
    simp [Nat.mod_one]
theorem made (n : Nat) (h : n ≤ 1000) (w : World) : (Instr.makeSlice 22 (.int .i64 (n : Int)) (.int .i64 (n : Int))).run Tryd.prog w = .ok (.slice (some ⟨w.heap.size, 0, none⟩) n n) (w.alloc (.cells (idA (zeros n)) 5)) := by
  obtain ⟨i, hi, hz, hs, hby⟩ := byte_info
  have e := run_make (P := Tryd.prog) w 22 5 i _ Tryd.underlying22 hi hz .i64 .i64 (n : Int) (n : Int) (by omega) (by omega) (by rw [hby]; omega) (by omega)
  rw [hs, Nat.mul_one, Int.toNat_natCast, zero_made] at e
  exact e
theorem wpList_mk {ops : Array Oper} {rest : List Oper} {o : Oper} {a : Act} {w W : World} {Q : Exit → Act → World → Prop} {u v r : Value} (hg : o.guard = none) (l c : Operand) (t : TypeId)
    (hop : o.op = Op.makeSlice t l c) (hl : a.eval l = u) (hc : a.eval c = v) (hrun : (Instr.makeSlice t u v).run Tryd.prog w = .ok r W)
    (hK : wpList Tryd.prog ops Q rest (a.put o.dst r) W) : wpList Tryd.prog ops Q (o :: rest) a w := by
  refine wpList_plain hg fun K hK' => ?_
  unfold Oper.wp
  simp [execOp, hop, hl, hc, hrun, Result.andThen]
  exact hK' _ _ hK
def fillL (n x k : Nat) : List Nat := List.replicate k x ++ zeros (n - k)
theorem fillL_length (n x k : Nat) (h : k ≤ n) : (fillL n x k).length = n := by
  unfold fillL
  rw [List.length_append, List.length_replicate, zeros_length]; omega
theorem fillL_step (n x k : Nat) (h : k < n) : (fillL n x k).set k x = fillL n x (k + 1) := by
  have e := fill_set (List.replicate k x) n x (by rw [List.length_replicate]; exact h)
  rw [List.length_append, List.length_replicate, ← List.replicate_succ'] at e
  exact e
theorem fillL_all (n x : Nat) : fillL n x n = List.replicate n x := by
  unfold fillL zeros
  rw [Nat.sub_self]
  simp

set_option maxRecDepth 100000 in
set_option maxHeartbeats 1000000 in
theorem walk_low (x : Nat) (z : Int) (w : World) (hL : Laid w) (h0 : z < 0) :
    Calls Tryd.prog 6 #[.int .u8 (x : Int), .int .i64 z] w fun e w' => e = .returned (.bool true) ∧ Below w.heap.size w w' := by
  go_enter Tryd.func6, Tryd.ntmps6
  go_wp2_with fail
  refine (known_any _ hL).mono ?_
  rintro e w1 ⟨rfl, hb1⟩
  go_wp2_with fail
  go_ret
  exact ⟨rfl, hb1⟩
set_option maxRecDepth 100000 in
set_option maxHeartbeats 1000000 in
theorem walk_high (x : Nat) (z : Int) (w : World) (hL : Laid w) (h0 : ¬ z < 0) (h1 : 200 < z) :
    Calls Tryd.prog 6 #[.int .u8 (x : Int), .int .i64 z] w fun e w' => e = .returned (.bool true) ∧ Below w.heap.size w w' := by
  have hz0 : decide (z < 0) = false := decide_eq_false h0
  clear h0
  go_enter Tryd.func6, Tryd.ntmps6
  go_wp2_with fail
  refine (known_any _ hL).mono ?_
  rintro e w1 ⟨rfl, hb1⟩
  go_wp2_with fail
  go_ret
  exact ⟨rfl, hb1⟩

set_option maxRecDepth 100000 in
set_option maxHeartbeats 1000000 in
theorem walk (x : Nat) (hx : x < 256) (z : Int) (w : World) (hL : Laid w) :
    Calls Tryd.prog 6 #[.int .u8 (x : Int), .int .i64 z] w fun e w' => e = .returned (.bool true) ∧ Below w.heap.size w w' := by
  by_cases h0 : z < 0
  · exact walk_low _ _ w hL h0
  by_cases h1 : 200 < z
  · exact walk_high _ _ w hL h0 h1
  obtain ⟨n, rfl⟩ : ∃ n : Nat, z = (n : Int) := ⟨z.toNat, by omega⟩
  have hn : n ≤ 200 := by omega
  have hz0 : decide ((n : Int) < 0) = false := decide_eq_false h0
  have hz1 : decide ((200 : Int) < (n : Int)) = false := decide_eq_false h1
  have HL := Lib.hid hL
  clear h0 h1 hL
  go_enter Tryd.func6, Tryd.ntmps6
  go_wp2_with fail
  refine (known_any _ HL.out).mono ?_
  rintro e w1 ⟨rfl, hb1⟩
  go_upto_region 6 with (refine wpList_mk rfl (.tmp 15) (.tmp 15) 22 rfl rfl rfl (made n (by omega) _) ?_)
  have K0 : Bk (w1.alloc (.cells (idA (zeros n)) 5)) w1.heap.size 5 (idA (fillL n x 0)) := Bk.new _ _ _
  have hW := hb1.alloc hb1.size (.cells (idA (zeros n)) 5)
  have hg := hb1.size
  refine wp_any (fun W => Below w.heap.size w W ∧ Bk W w1.heap.size 5 (idA (fillL n x 0))) ⟨hW, K0⟩ ?_
  clear K0 hW hb1
  generalize w1.heap.size = g at *
  rintro W ⟨hW, K0⟩
  go_wp2_with fail
  go_loopw [19] (fun i wr => ∃ k : Nat, k ≤ n ∧ i = .int .i64 k ∧ Below w.heap.size w wr ∧ Bk wr g 5 (idA (fillL n x k))) (fun i _ => n - (intOf i).toNat)
  case atStart => exact ⟨0, Nat.zero_le _, rfl, hW, K0⟩
  case round =>
    obtain ⟨k, hk, rfl, hbe, K1⟩ := hrel
    clear hW K0
    by_cases hlt : k < n
    · have hc := (K1.cell k).trans (idA_get _ k (by rw [fillL_length n x k hk]; exact hlt))
      have hf := K1.frozen k
      have hz3 := K1.lt
      have g1 := K1.set_ k (.int .u8 (x : Int))
      rw [idA_set, fillL_step n x k hlt] at g1
      have g2 := hbe.setCell (p := ⟨g, k, none⟩) (by show w.heap.size ≤ g; omega) (.int .u8 (x : Int))
      go_wp2_with fail
      go_roundw
      case rel => first | exact ⟨k + 1, by omega, by go_num, g2, g1⟩ | ((repeat apply Exists.intro); exact ⟨⟨k + 1, by omega, by go_num, g2, g1⟩, rfl⟩)
      case measure => simp [intOf]; omega
    · have hkn : k = n := by omega
      have hdk : decide (k < n) = false := decide_eq_false (by omega)
      rw [hkn, fillL_all] at K1
      have hxs : ∀ y ∈ List.replicate n x, y < 256 := fun y hy => by rw [List.eq_of_mem_replicate hy]; exact hx
      have hxl : (List.replicate n x).length = n := List.length_replicate
      generalize List.replicate n x = xs at *
      have HB0 := bs_row K1 (n := n) (cap := n) (by omega) (Nat.le_refl _) (by omega) hxs
      have et : xs.take n = xs := List.take_of_length_le (by omega)
      rw [et] at HB0
      have HB := Lib.hid HB0
      have HS : Hid (∀ sp W, Laid W → PartsV W sp [xs] → Calls Tryd.prog 11 #[.slice sp 1 1] W fun e w' => e = .returned (idv (sha xs)) ∧ Below W.heap.size W w') := fun sp W h1 h2 => sum1 xs sp 1 W h1 (by omega) h2
      have HRS : Hid (∀ W, Calls Tryd.prog 12 #[.string (strN xs)] W fun e w' => e = .returned (idv (sha xs)) ∧ Below W.heap.size W w') := fun W => rsum_any xs W hxs (by omega)
      have hol : (sha xs).length = 32 := rfl
      generalize sha xs = O at *
      have HCS := fun (W : World) (h : BsV W W.heap.size (.slice (some ⟨g, 0, none⟩) n n) xs) => conv_bs h
      generalize strN xs = str at *
      have HCS := Lib.hid HCS
      have HOL := Lib.hid hol
      clear hxs hxl et HB0 hol K1 hkn hlt hk
      go_upto_region 11 with fail
      refine region11 wr (some ⟨g, 0, none⟩) n n str xs (O.map byteV) _ _ _ _ _ _ _ _ _ _ _ _ _ _ _ _ _ _ _ _ _ _ _ _ _ _ _ (Lib.hid (HL.out.keep hbe)) HB (Lib.hid (fun w' h => HCS.out w' ((HB.out.keep h (Nat.le_refl _)).mono h.size))) (HCS.out _ HB.out) (id_guard O O) (id_bin O HOL.out) HS HRS (fun x27 x28 x29 x30 x31 x32 x33 w' hbc => ?_)
      show Exit.then _ _ Exit.normal _ w'
      go_wp2_with fail
      go_ret
      exact ⟨rfl, below_step hbe hbe.size hbc⟩
/-- The door's own heap meets the condition. -/
theorem door_met (os : Os) (args : Array Value) : laidMetH Tryd.prog laidL ((World.doorLaid Tryd.prog 19 os).forCall (fun _ _ => 0) ⟨#[], args, []⟩).memory :=
  laidMetH_of_parts3 (fuel := 8) (laidMet_of_run' 8 (by kernel_rfl) (by kernel_rfl)) (by kernel_rfl) (by kernel_rfl)

set_option maxRecDepth 100000 in
theorem lifted (os : Os) (started : os.Started) (H : Type) (enc : TypeId × Value → H) :
    ReturnsInHanded {} Tryd.checked os 6 .any (fun w args => (Rows.hashRunsSpec.pre enc Tryd.prog Tryd.f6 [] false w args ∧ laidMetH Tryd.prog laidL w) ∧ sizedMet enc Tryd.prog Tryd.f6 (OpenSpec.ofChange Rows.hashRunsSpec) false w args)
      (Rows.hashRunsSpec.post enc Tryd.prog Tryd.f6 false true false false) := by
  refine returnsInHanded_of_change_and (C := Tryd.checked) (X := fun w _ => laidMetH Tryd.prog laidL w) (fun _ _ _ hh h => h.of_heap hh) own started (by kernel_rfl) Tryd.func6
    (ChangeSpec.witness_shaped (enc := enc) (C := Tryd.checked) (os := os) (X := fun w _ => laidMetH Tryd.prog laidL w) false (World.doorLaid Tryd.prog 19 os) #[.int .u8 0, .int .i64 0] 8 rfl (World.shaped_of_RefB (by kernel_rfl) (by kernel_rfl)) (by kernel_rfl) (by kernel_rfl) (by kernel_rfl) (door_met os _)) ?_
  intro W base args ds gs before hval0 hW _ _ hL _
  have hval : ∀ (j : Nat) t v, Tryd.f6.params[j]? = some t → args[j]? = some v → Value.okWide Tryd.prog W .any base t v := hval0
  have hW' := hW
  obtain ⟨p, q, hA0, hV, rfl, hfz, hnd⟩ := hW
  have hA : DataW.TrodAll enc Tryd.prog W 0 (fun _ => true) true Tryd.f6.params.toList args.toList ds p := hA0
  rw [Tryd.params6] at hA hval
  obtain ⟨v0, vs0, d0, ds0, p0, q0, hargs, rfl, rfl, h0, r0⟩ := trodAll_cons hA
  obtain ⟨v1, vs1, d1, ds1, p1, q1, rfl, rfl, rfl, h1, r1⟩ := trodAll_cons r0
  obtain ⟨rfl, rfl, rfl⟩ := trodAll_nil r1
  obtain rfl : args = #[v0, v1] := by cases args; simp_all
  obtain ⟨rfl, rfl⟩ := trodVars_none hV
  have lt0 : ∀ x ∈ p0, x.block < W.heap.size := by obtain ⟨m, hm⟩ := h0; exact DataW.trod_lt m _ _ _ hm
  have lt1 : ∀ x ∈ p1, x.block < W.heap.size := by obtain ⟨m, hm⟩ := h1; exact DataW.trod_lt m _ _ _ hm
  obtain ⟨z, rfl⟩ := okWide_int (k := .i64) Tryd.underlying3 (hval 1 3 v1 rfl rfl)
  obtain ⟨y, rfl, _, _, hwf⟩ := open_int (k := .u8) Tryd.underlying5 (hval 0 5 v0 rfl rfl) h0
  have hyb := wf_byte hwf
  obtain ⟨x, rfl⟩ := Int.eq_ofNat_of_zero_le hyb.1
  have hwalk := walk x (by omega) z W (of_laid hL)
  clear hA0 hval0
  refine hwalk.mono fun e W' ⟨he, bel⟩ => ?_
  subst he
  exact ⟨_, rfl, _, _, _, [], _, [], hW', trodAll_mk1 (shut_bool Tryd.underlying4 _), (trodAll_cons_mk (Below.trod laidOut (by kernel_rfl) (of_decide_eq_true (by kernel_rfl)) h0 bel lt0) (trodAll_cons_mk (Below.trod laidOut (by kernel_rfl) (of_decide_eq_true (by kernel_rfl)) h1 bel lt1) trodAll_mk0)), rfl, bel.frame _, fun h => by cases h⟩

theorem over : Rows.HashRunsSaid :=
  OpenClaim.holds_of_wide 6 Tryd.f6 rfl rfl rfl rfl rfl rfl rfl ⟨rfl, rfl, rfl, rfl, rfl⟩ rfl rfl rfl rfl rfl (by kernel_rfl) Tryd.func6 (by kernel_rfl)
    (of_decide_eq_true (by kernel_rfl)) (by unfold Func.isWrapper; first | (rw [if_pos (by decide +kernel)]; kernel_rfl) | (rw [if_neg (by decide +kernel)]; exact ⟨rfl, rfl⟩))
    (fun os started H enc _ => lifted os started H enc)

theorem proved : Rows.HashRunsCardSaid :=
  Claim7.holds_tied_plain_at .later [] [.data, .data] true Rows.hashRunsCard.stood.harness false
    over (fun _ h => by cases h) (by kernel_rfl) (fun _ h => by cases h) hashRuns_row_tie rfl ⟨rfl, rfl⟩ (by kernel_rfl) rfl
    (fun f fn hf hfn => by
      obtain rfl : f = 6 := Option.some.inj ((show Tryd.prog.funcNamed "tallystick/tallysticklaw01.HashRuns" = some 6 by kernel_rfl).symm.trans hf) |>.symm
      obtain rfl : fn = Tryd.f6 := (Option.some.inj (Tryd.func6.symm.trans hfn)).symm
      exact ⟨by kernel_rfl, fun j t ht => by
        rw [Tryd.params6] at ht
        have hm : t ∈ [5, 3] := by simpa using Array.mem_of_getElem? ht
        have hall : ([5, 3].all fun u => !Tryd.prog.wantsStandIn u) = true := by kernel_rfl
        exact (show Tryd.prog.wantsStandIn t = false by simpa using List.all_eq_true.1 hall t hm)⟩)
    (by kernel_rfl)
#print axioms proved
end Go.Proofs.YtiiaijoafahdmaaDoor.hashRuns
