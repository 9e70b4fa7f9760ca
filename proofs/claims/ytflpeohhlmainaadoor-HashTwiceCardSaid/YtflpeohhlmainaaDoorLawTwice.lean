/-
  What is proved: for every slice of bytes the law HashTwice returns true, and its argument reads behind the call as it read before; the two listed tables of package hash are taken to hold what the program's text lays in them, and the card ties them to it.
-/
import Derived.Test.YtflpeohhlmainaaDoorHashW
import Derived.Test.YtflpeohhlmainaaDoorTie
import Derived.Test.YtflpeohhlmainaaDoorCards
import Derived.Stop.Joined
namespace Go.Proofs.YtflpeohhlmainaaDoor.hashTwice
open Go.ChangeShapes Go.WideShapes Go.ChangeAt Go.RowKit
set_option linter.unusedVariables false

theorem own : ownKnob Tryd.prog.godebug = none := by kernel_rfl
theorem laidOut : laidOutB Tryd.prog = true := by kernel_rfl
attribute [local go_sem ↓] Go.wp_at_zero Go.wp_at_succ

set_option maxRecDepth 100000 in
set_option maxHeartbeats 1000000 in
theorem walk_big (s : Option Addr) (len cap : Nat) (w : World) (hL : Laid w) (h : 3000 < len) :
    Calls Tryd.prog 5 #[.slice s len cap] w fun e w' => e = .returned (.bool true) ∧ Below w.heap.size w w' := by
  have hz : (3000 : Int) < (len : Int) := by omega
  go_enter Tryd.func5, Tryd.ntmps5
  go_wp2_with fail
  refine (known_any _ hL).mono ?_
  rintro e w1 ⟨rfl, hb1⟩
  go_wp2_with fail
  go_ret
  exact ⟨rfl, hb1⟩

set_option maxRecDepth 100000 in
set_option maxHeartbeats 1000000 in
theorem region6 (T : Nat) (W : World) (s : Option Addr) (n cap : Nat) (xs O : List Nat) (V v1 v2 v4 v5 v6 v7 v8 v9 v10 v11 : Value) (Q : Exit → Act → World → Prop) (HLW : Hid (Laid W)) (HBW : Hid (BsV W W.heap.size (.slice s n cap) xs)) (K : Bk W T 25 (idA O)) (HOL : Hid (O.length = 32)) (HOX : Hid (∀ y ∈ O, y < 256))
    (hgd : ∀ op a b w, (eqGuard op 25 a b V V).run Tryd.prog w = .ok () w) (heq : ∀ w, (binOp .eql 25 V V).run Tryd.prog w = .ok (.bool true) w)
    (HT : Hid (∀ sp W, Laid W → PartsV W sp [xs] → Calls Tryd.prog 13 #[.slice sp 1 1] W fun e w' => e = .returned V ∧ Below W.heap.size W w'))
    (HS2 : Hid (∀ sp W, Laid W → PartsV W sp [O] → Calls Tryd.prog 11 #[.slice sp 1 1] W fun e w' => e = .returned V ∧ Below W.heap.size W w'))
    (hQ : ∀ x12 x13 x14 x15 x16 x17 x18 w', Below W.heap.size W w' → Q .normal { tmps := #[Value.slice s n cap, v1, Value.bool true, Value.pointer (some { block := T, off := 0 }), v4, v5, v6, v7, v8, v9, v10, v11, x12, x13, x14, x15, x16, x17, x18], defers := [] } w') :
    Code.wp Tryd.prog (Code.region 6 #[{ dst := some 12, op := Op.move (Operand.tmp 0), type := 22, pos := "law.go:59", after := #[], guard := none },
{ dst := some 13, op := Op.buildSlice 29 1 #[(0, Operand.tmp 12)], type := 29, pos := "law.go:59",
          after := #[{ on := 0, ground := Ground.data }], guard := none },
{ dst := some 14,
          op := Op.call { callee := Callee.value (Operand.func 13), args := #[Operand.tmp 13], argTypes := #[29] },
          type := 25, pos := "law.go:59", after := #[{ on := 1, ground := Ground.data }], guard := none },
{ dst := some 15, op := Op.slice 25 (Operand.tmp 3) none none none, type := 22, pos := "law.go:59",
          after := #[], guard := none },
{ dst := some 16, op := Op.buildSlice 29 1 #[(0, Operand.tmp 15)], type := 29, pos := "law.go:59",
          after := #[{ on := 3, ground := Ground.data }], guard := none },
{ dst := some 17,
          op := Op.call { callee := Callee.value (Operand.func 11), args := #[Operand.tmp 16], argTypes := #[29] },
          type := 25, pos := "law.go:59",
          after := #[{ on := 4, ground := Ground.data }, { on := 2, ground := Ground.chain }], guard := none },
{ dst := some 18, op := Op.binOp BinOp.eql 25 (Operand.tmp 14) (Operand.tmp 17) 25, type := 4,
          pos := "law.go:59", after := #[{ on := 2, ground := Ground.data }, { on := 5, ground := Ground.data }],
          guard := none },
{ dst := some 2, op := Op.assign (Operand.tmp 18), type := 4, pos := "law.go:59",
          after :=
            #[{ on := 6, ground := Ground.data }, { on := 5, ground := Ground.chain },
              { on := 0, ground := Ground.phase }, { on := 1, ground := Ground.phase },
              { on := 2, ground := Ground.phase }, { on := 3, ground := Ground.phase },
              { on := 4, ground := Ground.phase }, { on := 5, ground := Ground.phase },
              { on := 6, ground := Ground.phase }],
          guard := none }] true) Q { tmps := #[Value.slice s n cap, v1, v2, Value.pointer (some { block := T, off := 0 }), v4, v5, v6, v7, v8, v9, v10, v11, undef, undef, undef, undef, undef, undef, undef], defers := [] } W := by
  go_region_held3 (fun w' => W.heap.size ≤ w'.heap.size) (first | omega | (simp; done) | (simp; omega) | (simp [World.drew]; done) | (simp [World.drew]; omega))
    (first
      | (go_at_call 11
         refine (HS2.out _ _ ?_ ?_).mono ?_
         · refine HLW.out.keep ?_
           repeat' (first | with_reducible exact Below.refl _ _ | with_reducible assumption | with_reducible exact From.out (by with_reducible assumption) | with_reducible refine Below.drew ?_ | with_reducible refine Below.setCell ?_ ?_ _ | with_reducible refine Below.alloc ?_ ?_ _ | with_reducible exact Nat.le_refl _ | omega | (simp; done) | (simp; omega) | (simp [World.drew]; done) | (simp [World.drew]; omega))
         · refine parts_one (g := T) (xs := O) (t := 25) (u := 22) (cap := 32) (v := .slice (some ⟨T, 0, none⟩) 32 32) ?_ ?_ HOX.out ?_ ?_ ?_
           · rw [HOL.out]
           · repeat' (first | with_reducible assumption | with_reducible exact Bk.new _ _ _ | with_reducible refine Bk.new' _ _ _ ?_ | with_reducible refine Bk.alloc ?_ _ | with_reducible refine Bk.drew ?_ | (with_reducible refine Bk.keep ?_ (by with_reducible assumption)) | (simp; done) | (simp; omega) | (simp [World.drew]; done) | (simp [World.drew]; omega))
           · rw [HOL.out]; omega
           · omega
           · repeat' (first | with_reducible assumption | with_reducible exact Bk.new _ _ _ | with_reducible refine Bk.new' _ _ _ ?_ | with_reducible refine Bk.alloc ?_ _ | with_reducible refine Bk.drew ?_ | (with_reducible refine Bk.keep ?_ (by with_reducible assumption)) | (simp; done) | (simp; omega) | (simp [World.drew]; done) | (simp [World.drew]; omega))
         rintro e w6 ⟨rfl, hb6⟩
         have hE6 : From W w6 := by
           refine below_step ?_ ?_ hb6
           · repeat' (first | with_reducible exact Below.refl _ _ | with_reducible assumption | with_reducible exact From.out (by with_reducible assumption) | with_reducible refine Below.drew ?_ | with_reducible refine Below.setCell ?_ ?_ _ | with_reducible refine Below.alloc ?_ ?_ _ | with_reducible exact Nat.le_refl _ | omega | (simp; done) | (simp; omega) | (simp [World.drew]; done) | (simp [World.drew]; omega))
           · first | omega | (simp; done) | (simp; omega) | (simp [World.drew]; done) | (simp [World.drew]; omega)
         have z6 := hE6.out.size
         have K6 := K.keep hE6.out)
      | (go_at_call 13
         refine (HT.out _ _ ?_ ?_).mono ?_
         · refine HLW.out.keep ?_
           repeat' (first | with_reducible exact Below.refl _ _ | with_reducible assumption | with_reducible exact From.out (by with_reducible assumption) | with_reducible refine Below.drew ?_ | with_reducible refine Below.setCell ?_ ?_ _ | with_reducible refine Below.alloc ?_ ?_ _ | with_reducible exact Nat.le_refl _ | omega | (simp; done) | (simp; omega) | (simp [World.drew]; done) | (simp [World.drew]; omega))
         · refine parts_bs (u := 22) (v := .slice s n cap) (HBW.out.keep (C := W.heap.size) ?_ (Nat.le_refl _)) ?_ ?_
           · repeat' (first | with_reducible exact Below.refl _ _ | with_reducible assumption | with_reducible exact From.out (by with_reducible assumption) | with_reducible refine Below.drew ?_ | with_reducible refine Below.setCell ?_ ?_ _ | with_reducible refine Below.alloc ?_ ?_ _ | with_reducible exact Nat.le_refl _ | omega | (simp; done) | (simp; omega) | (simp [World.drew]; done) | (simp [World.drew]; omega))
           · first | omega | (simp; done) | (simp; omega) | (simp [World.drew]; done) | (simp [World.drew]; omega)
           · repeat' (first | with_reducible assumption | with_reducible exact Bk.new _ _ _ | with_reducible refine Bk.new' _ _ _ ?_ | with_reducible refine Bk.alloc ?_ _ | with_reducible refine Bk.drew ?_ | (with_reducible refine Bk.keep ?_ (by with_reducible assumption)) | (simp; done) | (simp; omega) | (simp [World.drew]; done) | (simp [World.drew]; omega))
         rintro e w5 ⟨rfl, hb5⟩
         have hE5 : From W w5 := by
           refine below_step ?_ ?_ hb5
           · repeat' (first | with_reducible exact Below.refl _ _ | with_reducible assumption | with_reducible exact From.out (by with_reducible assumption) | with_reducible refine Below.drew ?_ | with_reducible refine Below.setCell ?_ ?_ _ | with_reducible refine Below.alloc ?_ ?_ _ | with_reducible exact Nat.le_refl _ | omega | (simp; done) | (simp; omega) | (simp [World.drew]; done) | (simp [World.drew]; omega))
           · first | omega | (simp; done) | (simp; omega) | (simp [World.drew]; done) | (simp [World.drew]; omega)
         have z5 := hE5.out.size
         have K5 := K.keep hE5.out))
  all_goals exact hQ _ _ _ _ _ _ _ _ (by repeat' (first | with_reducible exact Below.refl _ _ | with_reducible assumption | with_reducible exact From.out (by with_reducible assumption) | with_reducible refine Below.drew ?_ | with_reducible refine Below.setCell ?_ ?_ _ | with_reducible refine Below.alloc ?_ ?_ _ | with_reducible exact Nat.le_refl _ | omega | (simp; done) | (simp; omega) | (simp [World.drew]; done) | (simp [World.drew]; omega)))

set_option maxRecDepth 100000 in
set_option maxHeartbeats 1000000 in
theorem walk (xs : List Nat) (v : Value) (w : World) (hL : Laid w) (hb : BsV w w.heap.size v xs) :
    Calls Tryd.prog 5 #[v] w fun e w' => e = .returned (.bool true) ∧ Below w.heap.size w w' := by
  have hb0 := hb
  obtain ⟨s, cap, rfl, hc1, hc2, hx, hsrc⟩ := hb
  rcases Nat.lt_or_ge 3000 xs.length with h | h
  · exact walk_big _ _ _ w hL h
  obtain ⟨n, hn⟩ : ∃ n, n = xs.length := ⟨_, rfl⟩
  rw [← hn] at hc1 h hb0 ⊢
  have hz : decide ((3000 : Int) < (n : Int)) = false := decide_eq_false (by omega)
  have HB := Lib.hid hb0
  have HL := Lib.hid hL
  have hol : (sha xs).length = 32 := rfl
  have hox := sha_lt xs
  have hql : (sha (sha xs)).length = 32 := rfl
  have HS : Hid (∀ sp W, Laid W → PartsV W sp [xs] → Calls Tryd.prog 11 #[.slice sp 1 1] W fun e w' => e = .returned (idv (sha xs)) ∧ Below W.heap.size W w') := fun sp W h1 h2 => sum1 xs sp 1 W h1 (by omega) h2
  have HT : Hid (∀ sp W, Laid W → PartsV W sp [xs] → Calls Tryd.prog 13 #[.slice sp 1 1] W fun e w' => e = .returned (idv (sha (sha xs))) ∧ Below W.heap.size W w') := fun sp W h1 h2 => twice1 xs sp 1 W h1 (by omega) h2
  have HS2 : Hid (∀ sp W, Laid W → PartsV W sp [sha xs] → Calls Tryd.prog 11 #[.slice sp 1 1] W fun e w' => e = .returned (idv (sha (sha xs))) ∧ Below W.heap.size W w') := fun sp W h1 h2 => sum1 (sha xs) sp 1 W h1 (by omega) h2
  have hgd := id_guard (sha (sha xs)) (sha (sha xs))
  have heq := id_bin (sha (sha xs)) hql
  generalize sha (sha xs) = Q at *
  generalize idv Q = V at *
  generalize sha xs = O at *
  have HOL := Lib.hid hol
  have HOX := Lib.hid hox
  clear hn hL hx hsrc hol hox hb0 h
  go_enter Tryd.func5, Tryd.ntmps5
  go_wp2_with fail
  refine (known_any _ HL.out).mono ?_
  rintro e w1 ⟨rfl, hb1⟩
  go_wp2_with fail
  have hA : Below w.heap.size w (w1.alloc (.cells #[.slice s n cap] 22)) := hb1.alloc hb1.size _
  refine (HS.out _ _ (HL.out.keep hA) (parts_bs (HB.out.keep hA (Nat.le_refl _)) (by have := hb1.size; simp; omega) (Bk.new _ _ _))).mono ?_
  rintro e w2 ⟨rfl, hb2⟩
  have hW2 := below_step hA (by have := hb1.size; simp; omega) hb2
  clear hA hb1 hb2
  go_upto_region 6 with (refine wpList_store_mid rfl 25 (.tmp 3) (.tmp 11) rfl w2.heap.size 0 (idA O) rfl rfl (by rw [idA_size, HOL.out]; exact (Bk.new w2 25 (idA (zeros 32))).there 32 (by rw [idA_size]; decide)) (by rw [idA_size, HOL.out]; exact id_info') (all_oneCell_toArray (by intro v hv; simp only [List.mem_map] at hv; obtain ⟨x, _, rfl⟩ := hv; rfl)) ?_)
  refine wp_any (fun W => Below w.heap.size w W ∧ Bk W w2.heap.size 25 (idA O)) ⟨Below.setCells hW2.size _ _ _ (hW2.alloc hW2.size _), (Bk.new w2 25 (idA (zeros 32))).setAll (by rw [idA_size, idA_size, HOL.out]; rfl)⟩ ?_
  clear hW2
  generalize w2.heap.size = T at *
  rintro W ⟨hW, K⟩
  have hLW := HL.out.keep hW
  have hBW := (HB.out.keep hW (Nat.le_refl _)).mono hW.size
  have HLW := Lib.hid hLW
  have HBW := Lib.hid hBW
  clear hLW hBW
  go_frame
  refine region6 T W s n cap xs O V _ _ _ _ _ _ _ _ _ _ _ HLW HBW K HOL HOX hgd heq HT HS2 (fun x12 x13 x14 x15 x16 x17 x18 w' hbc => ?_)
  show Exit.then _ _ Exit.normal _ w'
  go_wp2_with fail
  go_ret
  exact ⟨rfl, below_step hW hW.size hbc⟩
/-- The door's own heap meets the condition. -/
theorem door_met (os : Os) (args : Array Value) : laidMetH Tryd.prog laidL ((World.doorLaid Tryd.prog 19 os).forCall (fun _ _ => 0) ⟨#[], args, []⟩).memory :=
  laidMetH_of_parts3 (fuel := 8) (laidMet_of_run' 8 (by kernel_rfl) (by kernel_rfl)) (by kernel_rfl) (by kernel_rfl)

set_option maxRecDepth 100000 in
theorem lifted (os : Os) (started : os.Started) (H : Type) (enc : TypeId × Value → H) :
    ReturnsInHanded {} Tryd.checked os 5 .any (fun w args => (Rows.hashTwiceSpec.pre enc Tryd.prog Tryd.f5 [] false w args ∧ laidMetH Tryd.prog laidL w) ∧ sizedMet enc Tryd.prog Tryd.f5 (OpenSpec.ofChange Rows.hashTwiceSpec) false w args)
      (Rows.hashTwiceSpec.post enc Tryd.prog Tryd.f5 false true false false) := by
  refine returnsInHanded_of_change_and (C := Tryd.checked) (X := fun w _ => laidMetH Tryd.prog laidL w) (fun _ _ _ hh h => h.of_heap hh) own started (by kernel_rfl) Tryd.func5
    (ChangeSpec.witness_shaped (enc := enc) (C := Tryd.checked) (os := os) (X := fun w _ => laidMetH Tryd.prog laidL w) false (World.doorLaid Tryd.prog 19 os) #[.slice none 0 0] 8 rfl (World.shaped_of_RefB (by kernel_rfl) (by kernel_rfl)) (by kernel_rfl) (by kernel_rfl) (by kernel_rfl) (door_met os _)) ?_
  intro W base args ds gs before hval0 hW _ _ hL _
  have hval : ∀ (j : Nat) t v, Tryd.f5.params[j]? = some t → args[j]? = some v → Value.okWide Tryd.prog W .any base t v := hval0
  have hW' := hW
  obtain ⟨p, q, hA0, hV, rfl, hfz, hnd⟩ := hW
  have hA : DataW.TrodAll enc Tryd.prog W 0 (fun _ => true) true Tryd.f5.params.toList args.toList ds p := hA0
  rw [Tryd.params5] at hA hval
  obtain ⟨v0, vs0, d0, ds0, p0, q0, hargs, rfl, rfl, h0, r0⟩ := trodAll_cons hA
  obtain ⟨rfl, rfl, rfl⟩ := trodAll_nil r0
  obtain rfl : args = #[v0] := by cases args; simp_all
  obtain ⟨rfl, rfl⟩ := trodVars_none hV
  have lt0 : ∀ x ∈ p0, x.block < W.heap.size := by obtain ⟨m, hm⟩ := h0; exact DataW.trod_lt m _ _ _ hm
  obtain ⟨xs, hb⟩ := bytes_arg (hval 0 22 v0 rfl rfl) h0
  have hwalk := walk xs v0 W (of_laid hL) hb
  clear hA0 hval0
  refine hwalk.mono fun e W' ⟨he, bel⟩ => ?_
  subst he
  exact ⟨_, rfl, _, _, _, [], _, [], hW', trodAll_mk1 (shut_bool Tryd.underlying4 _), (trodAll_cons_mk (Below.trod laidOut (by kernel_rfl) (of_decide_eq_true (by kernel_rfl)) h0 bel lt0) trodAll_mk0), rfl, bel.frame _, fun h => by cases h⟩

theorem over : Rows.HashTwiceSaid :=
  OpenClaim.holds_of_wide 5 Tryd.f5 rfl rfl rfl rfl rfl rfl rfl ⟨rfl, rfl, rfl, rfl, rfl⟩ rfl rfl rfl rfl rfl (by kernel_rfl) Tryd.func5 (by kernel_rfl)
    (of_decide_eq_true (by kernel_rfl)) (by unfold Func.isWrapper; first | (rw [if_pos (by decide +kernel)]; kernel_rfl) | (rw [if_neg (by decide +kernel)]; exact ⟨rfl, rfl⟩))
    (fun os started H enc _ => lifted os started H enc)

theorem proved : Rows.HashTwiceCardSaid :=
  Claim7.holds_tied_plain_at .later [] [.data, .data] true Rows.hashTwiceCard.stood.harness false
    over (fun _ h => by cases h) (by kernel_rfl) (fun _ h => by cases h) hashTwice_row_tie rfl ⟨rfl, rfl⟩ (by kernel_rfl) rfl
    (fun f fn hf hfn => by
      obtain rfl : f = 5 := Option.some.inj ((show Tryd.prog.funcNamed "tallystick/tallysticklaw01.HashTwice" = some 5 by kernel_rfl).symm.trans hf) |>.symm
      obtain rfl : fn = Tryd.f5 := (Option.some.inj (Tryd.func5.symm.trans hfn)).symm
      exact ⟨by kernel_rfl, fun j t ht => by
        rw [Tryd.params5] at ht
        have hm : t ∈ [22] := by simpa using Array.mem_of_getElem? ht
        have hall : ([22].all fun u => !Tryd.prog.wantsStandIn u) = true := by kernel_rfl
        exact (show Tryd.prog.wantsStandIn t = false by simpa using List.all_eq_true.1 hall t hm)⟩)
    (by kernel_rfl)
#print axioms proved
end Go.Proofs.YtflpeohhlmainaaDoor.hashTwice
