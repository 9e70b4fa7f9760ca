/-
  What is proved: for every script and every number of ticks the law WholeManners returns true, and its arguments read behind the call as they read before it; the three listed tables, two of package hash and one of package msg, are taken to hold what the program's text lays in them, and the card ties them to it.
-/
import Derived.Test.YtkpffjcdalclmaaDoorZMnW
import Derived.Test.YtkpffjcdalclmaaDoorTie
import Derived.Test.YtkpffjcdalclmaaDoorCards
import Derived.Stop.Joined
namespace Go.Proofs.YtkpffjcdalclmaaDoor
open Go.ChangeShapes Go.WideShapes Go.ChangeAt Go.RowKit
set_option linter.unusedVariables false
set_option linter.unusedSimpArgs false
theorem byteArray_ext {a b : ByteArray} (h : a.data.toList = b.data.toList) : a = b := by
  cases a; cases b
  congr 1
  exact Array.ext' h
section
variable {H : Type} {enc : TypeId × Value → H} {P : Program} {w : World} {base : Nat} {sp : Nat → Bool} {held : Bool} {fuel : Nat} {t e : TypeId} {n : Nat} {k : IntKind} {cs : List Value} {ps : List MemPlace}
theorem arr_of_trod (ht : P.underlying t = some (.array n e)) (he : P.underlying e = some (.int k)) (hce : P.cellsOf e = 1) (hct : P.cellsOf t = n) (zs : List Int)
    (h : DataW.trod enc P w base sp held fuel t cs = some (.agg (zs.map fun z => .lit (.int k z)), ps)) : cs = zs.map (Value.int k) := by
  obtain ⟨xs, m, rfl, hx, hcl, hxl, hi⟩ := DataW.trod_array ht h
  simp only [Prod.mk.injEq, DataW.agg.injEq] at hx
  have hzl : zs.length = n := by rw [← hxl, ← List.length_map (f := fun z => (DataW.lit (.int k z) : DataW H)), hx.1, List.length_map]
  apply List.ext_getElem?
  intro i
  by_cases hin : i < n
  · have h1 := hi i hin
    rw [hce, Nat.mul_one, List.getElem?_eq_getElem (by omega)] at h1
    obtain ⟨z, e1, e2, _⟩ := DataW.trod_int he h1
    have h2 : cs[i]? = some (.int k z) := by
      have := congrArg (fun l => l[0]?) e1
      simpa using this
    have h3 : (zs.map fun z => (DataW.lit (.int k z) : DataW H))[i]? = some (.lit (.int k z)) := by
      rw [hx.1, List.getElem?_map, List.getElem?_eq_getElem (by omega), Option.map_some, e2]
    rw [List.getElem?_map] at h3
    rw [h2, List.getElem?_map]
    cases hz : zs[i]? with
    | none => rw [hz] at h3; simp at h3
    | some z' => rw [hz] at h3; simp at h3; subst h3; rfl
  · rw [List.getElem?_eq_none (by omega), List.getElem?_eq_none (by simp; omega)]
end
theorem gStart : Tryd.prog.globalNamed "tallystick/hash.start" = some 2 := by kernel_rfl
theorem gRounds : Tryd.prog.globalNamed "tallystick/hash.rounds" = some 3 := by kernel_rfl
theorem tStart : (Tryd.prog.globals[(2 : Nat)]?).map (·.type) = some 180 := by kernel_rfl
theorem tRounds : (Tryd.prog.globals[(3 : Nat)]?).map (·.type) = some 191 := by kernel_rfl
theorem datum_start {H : Type} : (Rows.laid_tallystick_hash_start : DataW H) = .agg ((sha0.toL.map (Nat.cast : Nat → Int)).map fun z => .lit (.int .u32 z)) := rfl
theorem datum_rounds {H : Type} : (Rows.laid_tallystick_hash_rounds : DataW H) = .agg ((rkL.map (Nat.cast : Nat → Int)).map fun z => .lit (.int .u32 z)) := rfl
theorem wA_of_ints (xs : List Nat) : ((xs.map (Nat.cast : Nat → Int)).map (Value.int .u32)).toArray = wA xs := by
  unfold wA wordV
  rw [List.map_map]; rfl
theorem gWords : Tryd.prog.globalNamed "tallystick/msg.words" = some 0 := by kernel_rfl
theorem tWords : (Tryd.prog.globals[(0 : Nat)]?).map (·.type) = some 109 := by kernel_rfl
abbrev laidL3 : List (String × DataW Unit) := [("tallystick/hash.start", Rows.laid_tallystick_hash_start), ("tallystick/hash.rounds", Rows.laid_tallystick_hash_rounds), ("tallystick/msg.words", Rows.laid_tallystick_msg_words)]
theorem datum_words {H : Type} : (Rows.laid_tallystick_msg_words : DataW H) = .agg (wordsL.map fun l => .lit (.string (strN l).data.toList)) := by
  unfold Rows.laid_tallystick_msg_words
  refine congrArg DataW.agg ?_
  rfl
section
variable {H : Type} {enc : TypeId × Value → H} {P : Program} {w : World} {base : Nat} {sp : Nat → Bool} {held : Bool} {fuel : Nat} {t e : TypeId} {n : Nat} {cs : List Value} {ps : List MemPlace}
theorem strs_of_trod (ht : P.underlying t = some (.array n e)) (he : P.underlying e = some .string) (hce : P.cellsOf e = 1) (hct : P.cellsOf t = n) (zs : List ByteArray)
    (h : DataW.trod enc P w base sp held fuel t cs = some (.agg (zs.map fun z => .lit (.string z.data.toList)), ps)) : cs = zs.map Value.string := by
  obtain ⟨xs, m, rfl, hx, hcl, hxl, hi⟩ := DataW.trod_array ht h
  simp only [Prod.mk.injEq, DataW.agg.injEq] at hx
  have hzl : zs.length = n := by rw [← hxl, ← List.length_map (f := fun z : ByteArray => (DataW.lit (.string z.data.toList) : DataW H)), hx.1, List.length_map]
  apply List.ext_getElem?
  intro i
  by_cases hin : i < n
  · have h1 := hi i hin
    rw [hce, Nat.mul_one, List.getElem?_eq_getElem (by omega)] at h1
    obtain ⟨z, e1, e2, _⟩ := DataW.trod_string he h1
    have h2 : cs[i]? = some (.string z) := by
      have := congrArg (fun l => l[0]?) e1
      simpa using this
    have h3 : (zs.map fun z => (DataW.lit (.string z.data.toList) : DataW H))[i]? = some (.lit (.string z.data.toList)) := by
      rw [hx.1, List.getElem?_map, List.getElem?_eq_getElem (by omega), Option.map_some, e2]
    rw [List.getElem?_map] at h3
    rw [h2, List.getElem?_map]
    cases hz : zs[i]? with
    | none => rw [hz] at h3; simp at h3
    | some z' =>
      rw [hz] at h3
      simp at h3
      have : z' = z := byteArray_ext (congrArg Array.toList h3)
      subst this
      rfl
  · rw [List.getElem?_eq_none (by omega), List.getElem?_eq_none (by simp; omega)]
end
theorem of_laid3 {W : World} (h : laidMetH Tryd.prog laidL3 W) : LaidM W := by
  rw [MakeChecks.laidMetH_plain _ _ _ (by kernel_rfl)] at h
  obtain ⟨ps, ⟨g0, t0, cs0, f0, p0, q0, hg0, ht0, hv0, hd0, ⟨g1, t1, cs1, f1, p1, q1, hg1, ht1, hv1, hd1, ⟨g2, t2, cs2, f2, p2, q2, hg2, ht2, hv2, hd2, hq2, hp2⟩, hp1⟩, hp0⟩, hnd, hfr⟩ := h
  obtain rfl := Option.some.inj (gStart.symm.trans hg0)
  obtain rfl := Option.some.inj (gRounds.symm.trans hg1)
  obtain rfl := Option.some.inj (gWords.symm.trans hg2)
  obtain rfl := Option.some.inj (tStart.symm.trans ht0)
  obtain rfl := Option.some.inj (tRounds.symm.trans ht1)
  obtain rfl := Option.some.inj (tWords.symm.trans ht2)
  have e0 := arr_of_trod (n := 8) (k := .u32) Tryd.underlying180 Tryd.underlying30 (by kernel_rfl) (by kernel_rfl) _ (by rw [datum_start] at hd0; exact hd0)
  have e1 := arr_of_trod (n := 64) (k := .u32) Tryd.underlying191 Tryd.underlying30 (by kernel_rfl) (by kernel_rfl) _ (by rw [datum_rounds] at hd1; exact hd1)
  have e2 := strs_of_trod (n := 11) Tryd.underlying109 Tryd.underlying9 (by kernel_rfl) (by kernel_rfl) (wordsL.map strN) (by rw [datum_words] at hd2; rw [List.map_map]; exact hd2)
  have c0 : cs0 = wA sha0.toL := by rw [← wA_of_ints, ← e0]
  have c1 : cs1 = wA rkL := by rw [← wA_of_ints, ← e1]
  have c2 : cs2 = wordsA := by
    have h : wordsA = ((wordsL.map strN).map Value.string).toArray := by unfold wordsA; rw [List.map_map]; rfl
    rw [h, ← e2]
  subst c0 c1 c2
  have heap_of : ∀ {n : String} {g : Nat} {cs : Array Value}, Tryd.prog.globalNamed n = some g → W.var? Tryd.prog n = some cs → ∃ t f, W.heap[g]? = some (.cells cs t f) := by
    intro n g cs hg hv
    simp only [World.var?, hg, Option.bind_some] at hv
    split at hv
    · rename_i c t f hq
      obtain rfl := Option.some.inj hv
      exact ⟨t, f, hq⟩
    · cases hv
  exact ⟨⟨heap_of gStart hv0, heap_of gRounds hv1⟩, heap_of gWords hv2⟩
end Go.Proofs.YtkpffjcdalclmaaDoor
namespace Go.Proofs.YtkpffjcdalclmaaDoor.wholeManners
open Go.ChangeShapes Go.WideShapes Go.ChangeAt Go.RowKit
set_option linter.unusedVariables false


/-- The door's own heap meets the condition. -/
theorem door_met (os : Os) (args : Array Value) : laidMetH Tryd.prog laidL3 ((World.doorLaid Tryd.prog 19 os).forCall (fun _ _ => 0) ⟨#[], args, []⟩).memory :=
  laidMetH_of_parts3 (fuel := 8) (laidMet_of_run' 8 (by kernel_rfl) (by kernel_rfl)) (by kernel_rfl) (by kernel_rfl)

set_option maxRecDepth 100000 in
theorem lifted (os : Os) (started : os.Started) (H : Type) (enc : TypeId × Value → H) :
    ReturnsInHanded {} Tryd.checked os 9 .any (fun w args => (Rows.wholeMannersSpec.pre enc Tryd.prog Tryd.f9 [] false w args ∧ laidMetH Tryd.prog laidL3 w) ∧ sizedMet enc Tryd.prog Tryd.f9 (OpenSpec.ofChange Rows.wholeMannersSpec) false w args)
      (Rows.wholeMannersSpec.post enc Tryd.prog Tryd.f9 false true false false) := by
  refine returnsInHanded_of_change_and (C := Tryd.checked) (X := fun w _ => laidMetH Tryd.prog laidL3 w) (fun _ _ _ hh h => h.of_heap hh) own started (by kernel_rfl) Tryd.func9
    (ChangeSpec.witness_shaped (enc := enc) (C := Tryd.checked) (os := os) (X := fun w _ => laidMetH Tryd.prog laidL3 w) false (World.doorLaid Tryd.prog 19 os) #[.slice none 0 0, .int .i64 0] 8 rfl (World.shaped_of_RefB (by kernel_rfl) (by kernel_rfl)) (by kernel_rfl) (by kernel_rfl) (by kernel_rfl) (door_met os _)) ?_
  intro W base args ds gs before hval0 hW _ _ hL _
  have hval : ∀ (j : Nat) t v, Tryd.f9.params[j]? = some t → args[j]? = some v → Value.okWide Tryd.prog W .any base t v := hval0
  have hW' := hW
  obtain ⟨p, q, hA0, hV, rfl, hfz, hnd⟩ := hW
  have hA : DataW.TrodAll enc Tryd.prog W 0 (fun _ => true) true Tryd.f9.params.toList args.toList ds p := hA0
  rw [Tryd.params9] at hA hval
  obtain ⟨v0, vs0, d0, ds0, p0, q0, hargs, rfl, rfl, h0, r0⟩ := trodAll_cons hA
  obtain ⟨v1, vs1, d1, ds1, p1, q1, rfl, rfl, rfl, h1, r1⟩ := trodAll_cons r0
  obtain ⟨rfl, rfl, rfl⟩ := trodAll_nil r1
  obtain rfl : args = #[v0, v1] := by cases args; simp_all
  obtain ⟨rfl, rfl⟩ := trodVars_none hV
  have lt0 : ∀ x ∈ p0, x.block < W.heap.size := by obtain ⟨m, hm⟩ := h0; exact DataW.trod_lt m _ _ _ hm
  have lt1 : ∀ x ∈ p1, x.block < W.heap.size := by obtain ⟨m, hm⟩ := h1; exact DataW.trod_lt m _ _ _ hm
  obtain ⟨x0, hb0⟩ := pairs_arg (hval 0 75 v0 rfl rfl) h0
  obtain ⟨y1, rfl, _, _, hwf1⟩ := open_int (k := .i64) Tryd.underlying3 (hval 1 3 v1 rfl rfl) h1
  have hy1 := wf_i64n hwf1
  have hwalk := walk x0 y1 v0 W (of_laid3 hL) hb0.1 hb0.2 hy1
  clear hA0 hval0
  refine hwalk.mono fun e W' ⟨he, bel⟩ => ?_
  subst he
  exact ⟨_, rfl, _, _, _, [], _, [], hW', trodAll_mk1 (shut_bool Tryd.underlying4 _), (trodAll_cons_mk (Below.trod laidOut (by kernel_rfl) (of_decide_eq_true (by kernel_rfl)) h0 bel lt0) (trodAll_cons_mk (Below.trod laidOut (by kernel_rfl) (of_decide_eq_true (by kernel_rfl)) h1 bel lt1) trodAll_mk0)), rfl, bel.frame _, fun h => by cases h⟩

theorem over : Rows.WholeMannersSaid :=
  OpenClaim.holds_of_wide 9 Tryd.f9 rfl rfl rfl rfl rfl rfl rfl ⟨rfl, rfl, rfl, rfl, rfl⟩ rfl rfl rfl rfl rfl (by kernel_rfl) Tryd.func9 (by kernel_rfl)
    (of_decide_eq_true (by kernel_rfl)) (by unfold Func.isWrapper; first | (rw [if_pos (by decide +kernel)]; kernel_rfl) | (rw [if_neg (by decide +kernel)]; exact ⟨rfl, rfl⟩))
    (fun os started H enc _ => lifted os started H enc)

theorem proved : Rows.WholeMannersCardSaid :=
  Claim7.holds_tied_plain_at .later [] [.data, .data, .data] true Rows.wholeMannersCard.stood.harness false
    over (fun _ h => by cases h) (by kernel_rfl) (fun _ h => by cases h) wholeManners_row_tie rfl ⟨rfl, rfl⟩ (by kernel_rfl) rfl
    (fun f fn hf hfn => by
      obtain rfl : f = 9 := Option.some.inj ((show Tryd.prog.funcNamed "tallystick/tallysticktop.WholeManners" = some 9 by kernel_rfl).symm.trans hf) |>.symm
      obtain rfl : fn = Tryd.f9 := (Option.some.inj (Tryd.func9.symm.trans hfn)).symm
      exact ⟨by kernel_rfl, fun j t ht => by
        rw [Tryd.params9] at ht
        have hm : t ∈ [75, 3] := by simpa using Array.mem_of_getElem? ht
        have hall : ([75, 3].all fun u => !Tryd.prog.wantsStandIn u) = true := by kernel_rfl
        exact (show Tryd.prog.wantsStandIn t = false by simpa using List.all_eq_true.1 hall t hm)⟩)
    (by kernel_rfl)
#print axioms proved
end Go.Proofs.YtkpffjcdalclmaaDoor.wholeManners
