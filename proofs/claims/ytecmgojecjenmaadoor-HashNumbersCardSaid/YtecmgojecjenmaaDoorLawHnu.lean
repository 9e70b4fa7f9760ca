/-
  What is proved: for every whole number the law HashNumbers returns true; the two listed tables of package hash are taken to hold what the program's text lays in them, and the card ties them to it.
-/
import Derived.Test.YtecmgojecjenmaaDoorHnuR
import Derived.Test.YtecmgojecjenmaaDoorRefU
import Derived.Test.YtecmgojecjenmaaDoorTie
import Derived.Test.YtecmgojecjenmaaDoorCards
import Derived.Stop.Joined
namespace Go.Proofs.YtecmgojecjenmaaDoor.hashNumbers
open Go.ChangeShapes Go.WideShapes Go.ChangeAt Go.RowKit
set_option linter.unusedVariables false

theorem own : ownKnob Tryd.prog.godebug = none := by kernel_rfl
theorem laidOut : laidOutB Tryd.prog = true := by kernel_rfl
theorem wf_i64 {z : Int} (h : (Lit.int .i64 z).wf = true) : -9223372036854775808 ≤ z ∧ z ≤ 9223372036854775807 := by
  simp [Lit.wf, IntKind.min, IntKind.max, IntKind.signed, IntKind.bits] at h
  omega

set_option linter.unusedSimpArgs false
theorem b3 {V w1 w2 : World} (hb : Below w1.heap.size w1 w2) : Below V.heap.size V w1 → Below V.heap.size V w2 := fun h1 => h1.trans (hb.mono h1.size)
/-- A block of one byte, which is n. -/
def Ob (n : Nat) (w : World) (g : Nat) : Prop := Bk w g 5 #[.int .u8 (n : Int)]
theorem ob_of {n : Nat} {w : World} {g : Nat} (h : Bk w g 5 #[.int .u8 (n : Int)]) : Ob n w g := h
theorem ob_keep (n : Nat) {w1 w2 : World} (hb : Below w1.heap.size w1 w2) (g : Nat) (h : Ob n w1 g) : Ob n w2 g := Bk.keep h hb
theorem ob_alloc (n : Nat) (w : World) (g : Nat) : Ob n (w.alloc (.cells #[.int .u8 (n : Int)] 5)) g = (g = w.heap.size ∨ Ob n w g) := by
  apply propext
  constructor
  · intro h
    by_cases hg : g = w.heap.size
    · exact .inl hg
    · refine .inr ?_
      have h2 : (w.heap.push (.cells #[.int .u8 (n : Int)] 5))[g]? = some (.cells #[.int .u8 (n : Int)] 5 (0, 0)) := h
      rw [Array.getElem?_push, if_neg hg] at h2
      exact h2
  · rintro (h | h)
    · exact Bk.new' w 5 _ h
    · exact Bk.alloc h _
theorem ob_far (n : Nat) (w : World) (g : Nat) (a : Option Addr) (p q : Nat) : Ob n (w.alloc (.cells #[.slice a p q] 29)) g = Ob n w g := by
  apply propext
  constructor
  · intro h
    have h2 : (w.heap.push (.cells #[.slice a p q] 29))[g]? = some (.cells #[.int .u8 (n : Int)] 5 (0, 0)) := h
    rw [Array.getElem?_push] at h2
    by_cases hg : g = w.heap.size
    · rw [if_pos hg] at h2
      simp at h2
    · rw [if_neg hg] at h2
      exact h2
  · exact fun h => Bk.alloc h _
theorem bk_one {W : World} {g : Nat} {t : TypeId} {v : Value} (h : Bk W g t #[v]) : W.cell? ⟨g, 0, none⟩ = some v := h.cell 0
theorem keepf {p q : Prop} (h : p) (k : p → q) : q := k h
theorem bkc {w1 w2 : World} (hb : Below w1.heap.size w1 w2) (g : Nat) (u : Value) (h : w1.cell? ⟨g, 0, none⟩ = some u) : w2.cell? ⟨g, 0, none⟩ = some u := (hb.cell (p := ⟨g, 0, none⟩) (World.block_lt_of_cell? w1 _ h)).trans h
set_option maxRecDepth 100000 in
set_option maxHeartbeats 2000000 in
theorem walk_low (z : Int) (w : World) (hL : Laid w) (h0 : z < 0) : Calls Tryd.prog 3 #[.int .i64 z] w fun e w' => e = .returned (.bool true) ∧ Below w.heap.size w w' := by
  go_enter Tryd.func3, Tryd.ntmps3
  go_wp2_with fail
  refine (known_any _ hL).mono ?_
  rintro e w1 ⟨rfl, hb1⟩
  go_wp2_with fail
  go_ret
  exact ⟨rfl, hb1⟩
set_option maxRecDepth 100000 in
set_option maxHeartbeats 2000000 in
theorem walk_high (z : Int) (w : World) (hL : Laid w) (h0 : ¬ z < 0) (h1 : 63 < z) : Calls Tryd.prog 3 #[.int .i64 z] w fun e w' => e = .returned (.bool true) ∧ Below w.heap.size w w' := by
  have hz0 : decide (z < 0) = false := decide_eq_false h0
  clear h0
  go_enter Tryd.func3, Tryd.ntmps3
  go_wp2_with fail
  refine (known_any _ hL).mono ?_
  rintro e w1 ⟨rfl, hb1⟩
  go_wp2_with fail
  go_ret
  exact ⟨rfl, hb1⟩
set_option maxRecDepth 100000 in
set_option maxHeartbeats 4000000 in
theorem walk (z : Int) (w : World) (hL : Laid w) : Calls Tryd.prog 3 #[.int .i64 z] w fun e w' => e = .returned (.bool true) ∧ Below w.heap.size w w' := by
  by_cases h0 : z < 0
  · exact walk_low _ w hL h0
  by_cases h1 : 63 < z
  · exact walk_high _ w hL h0 h1
  obtain ⟨n, rfl⟩ : ∃ n : Nat, z = (n : Int) := ⟨z.toNat, by omega⟩
  have hn : n < 64 := by omega
  have hz0 : decide ((n : Int) < 0) = false := decide_eq_false h0
  have hz1 : decide ((63 : Int) < (n : Int)) = false := decide_eq_false h1
  have HL := Lib.hid hL
  clear h0 h1 hL
  go_enter Tryd.func3, Tryd.ntmps3
  go_wp2_with fail
  refine (known_any _ HL.out).mono ?_
  rintro e w1 ⟨rfl, hb1⟩
  have hB := Lib.hid hb1
  clear hb1
  go_wp2_with fail
  refine (rlist_any _).mono ?_
  rintro e w2 ⟨rfl, hb2, KL⟩
  have hB := Lib.hid (hB.out.trans (hb2.mono hB.out.size))
  obtain ⟨gl, hgl⟩ : ∃ gl, gl = w1.heap.size := ⟨_, rfl⟩
  rw [← hgl] at KL ⊢
  clear hb2 hgl
  go_wp2_with fail
  refine (rounds_any _).mono ?_
  rintro e w3 ⟨v3, rfl, M3, hb3⟩
  have KL := KL.keep hb3
  have hB := Lib.hid (hB.out.trans (hb3.mono hB.out.size))
  obtain ⟨T, cap, rfl, hcap, _, hT⟩ := minew_row M3 (by decide)
  have e64 : rkL.length = 64 := rfl
  rw [e64] at hcap ⊢
  have cL := (KL.cell n).trans (wA_get rkL n hn)
  have cT := hT.2 n hn
  clear hb3 M3
  have HT := Lib.hid hT
  have HKL := Lib.hid KL
  clear hT KL e64
  obtain ⟨x, hx⟩ : ∃ x, x = nth rkL n := ⟨_, rfl⟩
  rw [← hx] at cL cT
  clear hx
  have HS : Hid (∀ sp W, Laid W → PartsV W sp [[n]] → Calls Tryd.prog 10 #[.slice sp 1 1] W fun e w' => e = .returned (idv (sha [n])) ∧ Below W.heap.size W w') := fun sp W h1 h2 => sum1 [n] sp 1 W h1 (by simp) h2
  have HRS : Hid (∀ W, Calls Tryd.prog 11 #[.string (strN [n])] W fun e w' => e = .returned (idv (sha [n])) ∧ Below W.heap.size W w') := fun W => rsum_any [n] W (by intro y hy; rw [List.mem_singleton.1 hy]; omega) (by simp)
  have HCV : Hid (∀ (W : World) (g : Nat), Bk W g 5 #[.int .u8 (n : Int)] → (convert 29 9 (.slice (some ⟨g, 0, none⟩) 1 1)).run Tryd.prog W = .ok (.string (strN [n])) W) := fun W g hc => conv_bs (B := g + 1) ⟨_, 1, rfl, Nat.le_refl _, by omega, by intro y hy; rw [List.mem_singleton.1 hy]; omega, fun _ => ⟨g, 0, rfl, by omega, fun i hi => by
    have : i = 0 := by simpa using hi
    subst this
    exact Bk.cell hc 0⟩⟩
  have PA : Hid (∀ (W : World) (h g : Nat), Bk W h 29 #[.slice (some ⟨g, 0, none⟩) 1 1] → Bk W g 5 #[.int .u8 (n : Int)] → PartsV W (some ⟨h, 0, none⟩) [[n]]) := fun W h g k2 k1 => parts_row (g := g) (h := h) (xs := [n]) (cap := 1) (v := .slice (some ⟨g, 0, none⟩) 1 1) (t := 5) rfl k1 (by intro y hy; rw [List.mem_singleton.1 hy]; omega) (by simp) (by omega) k2
  have HCL : Hid (∀ w' : World, Below w3.heap.size w3 w' → w'.cell? ⟨gl, n, none⟩ = some (.int .u32 (x : Int)) ∧ w'.cell? ⟨T, n, none⟩ = some (.int .u32 (x : Int))) := fun w' h => ⟨(h.cell (p := ⟨gl, n, none⟩) HKL.out.lt).trans cL, (h.cell (p := ⟨T, n, none⟩) HT.out.1).trans cT⟩
  have HLw := Lib.hid (HL.out.below hB.out HL.out.size)
  have HJ : Hid ((0 : Int) ≤ (n : Int) ∧ (n : Int) < 64 ∧ IntKind.u8.wrap (n : Int) = (n : Int) ∧ 64 ≤ cap) := ⟨by omega, by omega, by rw [IntKind.wrap_u8]; omega, hcap⟩
  clear cL cT
  go_upto_region 6 with fail
  refine region6 gl T n x cap w3 (sha [n]) (strN [n]) _ _ _ _ _ _ _ _ _ _ _ _ _ _ _ _ _ _ _ _ _ _ _ _ _ _ _ _ _ _ _ _ _ _ _ _ _ _ _ _ _ _ _ _ _ HLw HJ rfl HCL HCV PA HS HRS (fun x15 x16 x17 x18 x19 x20 x21 x22 x23 x24 x25 x26 x27 x28 x29 x30 x31 x32 x33 x34 x35 x36 x37 x38 x39 x40 x41 x42 x43 x44 x45 x46 w' hb => ?_)
  go_wp2_with fail
  go_ret
  exact ⟨rfl, hB.out.trans (hb.mono hB.out.size)⟩

/-- The door's own heap meets the condition. -/
theorem door_met (os : Os) (args : Array Value) : laidMetH Tryd.prog laidL ((World.doorLaid Tryd.prog 19 os).forCall (fun _ _ => 0) ⟨#[], args, []⟩).memory :=
  laidMetH_of_parts3 (fuel := 8) (laidMet_of_run' 8 (by kernel_rfl) (by kernel_rfl)) (by kernel_rfl) (by kernel_rfl)

set_option maxRecDepth 100000 in
theorem lifted (os : Os) (started : os.Started) (H : Type) (enc : TypeId × Value → H) :
    ReturnsInHanded {} Tryd.checked os 3 .any (fun w args => (Rows.hashNumbersSpec.pre enc Tryd.prog Tryd.f3 [] false w args ∧ laidMetH Tryd.prog laidL w) ∧ sizedMet enc Tryd.prog Tryd.f3 (OpenSpec.ofChange Rows.hashNumbersSpec) false w args)
      (Rows.hashNumbersSpec.post enc Tryd.prog Tryd.f3 false true false false) := by
  refine returnsInHanded_of_change_and (C := Tryd.checked) (X := fun w _ => laidMetH Tryd.prog laidL w) (fun _ _ _ hh h => h.of_heap hh) own started (by kernel_rfl) Tryd.func3
    (ChangeSpec.witness_shaped (enc := enc) (C := Tryd.checked) (os := os) (X := fun w _ => laidMetH Tryd.prog laidL w) false (World.doorLaid Tryd.prog 19 os) #[.int .i64 0] 8 rfl (World.shaped_of_RefB (by kernel_rfl) (by kernel_rfl)) (by kernel_rfl) (by kernel_rfl) (by kernel_rfl) (door_met os _)) ?_
  intro W base args ds gs before hval0 hW _ _ hL _
  have hval : ∀ (j : Nat) t v, Tryd.f3.params[j]? = some t → args[j]? = some v → Value.okWide Tryd.prog W .any base t v := hval0
  have hW' := hW
  obtain ⟨p, q, hA0, hV, rfl, hfz, hnd⟩ := hW
  have hA : DataW.TrodAll enc Tryd.prog W 0 (fun _ => true) true Tryd.f3.params.toList args.toList ds p := hA0
  rw [Tryd.params3] at hA hval
  obtain ⟨v0, vs0, d0, ds0, p0, q0, hargs, rfl, rfl, h0, r0⟩ := trodAll_cons hA
  obtain ⟨rfl, rfl, rfl⟩ := trodAll_nil r0
  obtain rfl : args = #[v0] := by cases args; simp_all
  obtain ⟨rfl, rfl⟩ := trodVars_none hV
  have lt0 : ∀ x ∈ p0, x.block < W.heap.size := by obtain ⟨m, hm⟩ := h0; exact DataW.trod_lt m _ _ _ hm
  obtain ⟨y0, rfl, _, _, hwf0⟩ := open_int (k := .i64) Tryd.underlying3 (hval 0 3 v0 rfl rfl) h0
  have hy0 := wf_i64 hwf0
  have hwalk := walk y0 W (of_laid hL)
  clear hA0 hval0
  refine hwalk.mono fun e W' ⟨he, bel⟩ => ?_
  subst he
  exact ⟨_, rfl, _, _, _, [], _, [], hW', trodAll_mk1 (shut_bool Tryd.underlying4 _), (trodAll_cons_mk (Below.trod laidOut (by kernel_rfl) (of_decide_eq_true (by kernel_rfl)) h0 bel lt0) trodAll_mk0), rfl, bel.frame _, fun h => by cases h⟩

theorem over : Rows.HashNumbersSaid :=
  OpenClaim.holds_of_wide 3 Tryd.f3 rfl rfl rfl rfl rfl rfl rfl ⟨rfl, rfl, rfl, rfl, rfl⟩ rfl rfl rfl rfl rfl (by kernel_rfl) Tryd.func3 (by kernel_rfl)
    (of_decide_eq_true (by kernel_rfl)) (by unfold Func.isWrapper; first | (rw [if_pos (by decide +kernel)]; kernel_rfl) | (rw [if_neg (by decide +kernel)]; exact ⟨rfl, rfl⟩))
    (fun os started H enc _ => lifted os started H enc)

theorem proved : Rows.HashNumbersCardSaid :=
  Claim7.holds_tied_plain_at .later [] [.data, .data] true Rows.hashNumbersCard.stood.harness false
    over (fun _ h => by cases h) (by kernel_rfl) (fun _ h => by cases h) hashNumbers_row_tie rfl ⟨rfl, rfl⟩ (by kernel_rfl) rfl
    (fun f fn hf hfn => by
      obtain rfl : f = 3 := Option.some.inj ((show Tryd.prog.funcNamed "tallystick/tallysticklaw01.HashNumbers" = some 3 by kernel_rfl).symm.trans hf) |>.symm
      obtain rfl : fn = Tryd.f3 := (Option.some.inj (Tryd.func3.symm.trans hfn)).symm
      exact ⟨by kernel_rfl, fun j t ht => by
        rw [Tryd.params3] at ht
        have hm : t ∈ [3] := by simpa using Array.mem_of_getElem? ht
        have hall : ([3].all fun u => !Tryd.prog.wantsStandIn u) = true := by kernel_rfl
        exact (show Tryd.prog.wantsStandIn t = false by simpa using List.all_eq_true.1 hall t hm)⟩)
    (by kernel_rfl)
#print axioms proved
end Go.Proofs.YtecmgojecjenmaaDoor.hashNumbers
