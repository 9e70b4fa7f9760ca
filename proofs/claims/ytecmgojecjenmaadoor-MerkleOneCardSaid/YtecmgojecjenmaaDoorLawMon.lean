/-
  What is proved: for every two lists of names the law MerkleOne returns true, and its arguments read behind the call as they read before; the two listed tables of package hash are taken to hold what the program's text lays in them, and the card ties them to it.
-/
import Derived.Test.YtecmgojecjenmaaDoorMerJ
import Derived.Test.YtecmgojecjenmaaDoorMonC
import Derived.Test.YtecmgojecjenmaaDoorMonT
import Derived.Test.YtecmgojecjenmaaDoorIdArg
import Derived.Test.YtecmgojecjenmaaDoorTie
import Derived.Test.YtecmgojecjenmaaDoorCards
import Derived.Stop.Joined
namespace Go.Proofs.YtecmgojecjenmaaDoor.merkleOne
open Go.ChangeShapes Go.WideShapes Go.ChangeAt Go.RowKit
set_option linter.unusedVariables false

theorem own : ownKnob Tryd.prog.godebug = none := by kernel_rfl
theorem laidOut : laidOutB Tryd.prog = true := by kernel_rfl
theorem wf_i64 {z : Int} (h : (Lit.int .i64 z).wf = true) : -9223372036854775808 ≤ z ∧ z ≤ 9223372036854775807 := by
  simp [Lit.wf, IntKind.min, IntKind.max, IntKind.signed, IntKind.bits] at h
  omega

open Go.Proofs.YtecmgojecjenmaaDoor.merkleOther
set_option linter.unusedSimpArgs false
set_option maxRecDepth 100000 in
set_option maxHeartbeats 1000000 in
theorem walk_out (s s2 : Option Addr) (n c m c2 : Nat) (w : World) (hL : Laid w) (h : n ≠ m ∨ n = m ∧ 16 < n) :
    Calls Tryd.prog 5 #[.slice s n c, .slice s2 m c2] w fun e w' => e = .returned (.bool true) ∧ Below w.heap.size w w' := by
  have HJ := Lib.hid (joins_any _ hL)
  clear hL
  rcases h with h | ⟨h0, h⟩
  · have hd : decide (n = m) = false := decide_eq_false h
    have hd2 : decide ((n : Int) = (m : Int)) = false := decide_eq_false (by omega)
    go_enter Tryd.func5, Tryd.ntmps5
    go_wp2_with fail
    refine HJ.out.mono ?_
    rintro e w1 ⟨rfl, hb1⟩
    clear HJ
    go_wp2_with fail
    go_ret
    exact ⟨rfl, hb1⟩
  · subst h0
    have hd : decide ((16 : Int) < (n : Int)) = true := decide_eq_true (by omega)
    go_enter Tryd.func5, Tryd.ntmps5
    go_wp2_with fail
    refine HJ.out.mono ?_
    rintro e w1 ⟨rfl, hb1⟩
    clear HJ
    go_wp2_with fail
    go_ret
    exact ⟨rfl, hb1⟩
set_option maxRecDepth 100000 in
set_option maxHeartbeats 8000000 in
theorem walk_inn (A B : List (List Nat)) (s s2 : Option Addr) (c c2 : Nat) (w : World) (hL : Laid w) (hv : IdsV w w.heap.size (.slice s A.length c) A) (hu : IdsV w w.heap.size (.slice s2 B.length c2) B) (hl : A.length = B.length) (hn : ¬ 16 < A.length) :
    Calls Tryd.prog 5 #[.slice s A.length c, .slice s2 B.length c2] w fun e w' => e = .returned (.bool true) ∧ Below w.heap.size w w' := by
  have HL := Lib.hid hL
  have HJ := Lib.hid (joins_any _ hL)
  have hba : ∀ W, Below w.heap.size w W → IdsV W W.heap.size (.slice s A.length c) A := fun W h => (hv.keep h (Nat.le_refl _)).mono h.size
  have hbb : ∀ W, Below w.heap.size w W → IdsV W W.heap.size (.slice s2 B.length c2) B := fun W h => (hu.keep h (Nat.le_refl _)).mono h.size
  have HRA := Lib.hid (fun W (h : Below w.heap.size w W) => root_any _ A W (hL.below h hL.size) (hba W h) (by omega))
  have HRB := Lib.hid (fun W (h : Below w.heap.size w W) => root_any _ B W (hL.below h hL.size) (hbb W h) (by omega))
  have HRW : Hid ((rootV A).1 = (rootV B).1 → A ≠ B → (rootW A false).1 = (rootW B false).1) := fun e hne => by
    have h0 : A.length ≠ 0 := fun h0 => hne ((List.eq_nil_of_length_eq_zero h0).trans (List.eq_nil_of_length_eq_zero (by omega)).symm)
    unfold rootV at e
    rwa [if_neg h0, if_neg (by omega)] at e
  have HCL : Hid (A ≠ B → (rootW A false).1 = (rootW B false).1 → ∀ W, Below w.heap.size w W → Calls Tryd.prog 16 #[.slice s A.length c, .slice s2 B.length c2] W fun e w' => e = .returned (.bool true) ∧ Below W.heap.size W w') := fun h1 h2 W h => clash_any A B _ _ W (hL.below h hL.size) (hba W h) (hbb W h) hl h1 h2 (by omega)
  have hatA := hv.at_
  have hatB := hu.at_
  have HAT : Hid (∀ k, k < A.length → ∃ bA oA bB oB, s = some ⟨bA, oA, none⟩ ∧ s2 = some ⟨bB, oB, none⟩ ∧ bA < w.heap.size ∧ bB < w.heap.size ∧ w.rangeAt bA (oA + k * 32) (idA (nthI A k)).toList ∧ w.rangeAt bB (oB + k * 32) (idA (nthI B k)).toList) := fun k hk => by
    obtain ⟨bA, oA, e1, h1, _, r1⟩ := hatA (fun h => by rw [h] at hk; simp at hk)
    obtain ⟨bB, oB, e2, h2, _, r2⟩ := hatB (fun h => by rw [hl, h] at hk; simp at hk)
    exact ⟨bA, oA, bB, oB, e1, e2, h1, h2, r1 k _ (nthI_get hk), r2 k _ (nthI_get (by omega))⟩
  have hia := hv.ids
  have hib := hu.ids
  have HID : Hid (∀ k, k < A.length → IsId (nthI A k) ∧ IsId (nthI B k)) := fun k hk => ⟨nthI_id hia hk, nthI_id hib (by omega)⟩
  have HQ := Lib.hid (rootV_id A hia)
  have HR := Lib.hid (rootV_id B hib)
  have HEX : Hid ((∀ j, j < A.length → nthI A j = nthI B j) → A = B) := fun h => nthI_ext A B hl h
  clear hba hbb hatA hatB hv hu hL
  generalize (rootV A).1 = q at *
  generalize (rootV A).2 = tq at *
  generalize (rootV B).1 = r at *
  generalize (rootV B).2 = tr at *
  rw [← hl] at HRB HCL ⊢
  obtain ⟨n, hnn⟩ : ∃ n, n = A.length := ⟨_, rfl⟩
  rw [← hnn] at HRA HRB HCL HAT HID HEX hn ⊢
  have hd1 : decide ((16 : Int) < (n : Int)) = false := decide_eq_false (by omega)
  have hql := HQ.out.1
  have hrl := HR.out.1
  clear hnn hia hib hl
  go_enter Tryd.func5, Tryd.ntmps5
  go_wp2_with fail
  refine HJ.out.mono ?_
  rintro e w1 ⟨rfl, hb1⟩
  have HRA1 := Lib.hid (HRA.out w1 hb1)
  have hW := Lib.hid hb1
  clear hb1 HJ HRA
  go_wp2_with fail
  refine HRA1.out.mono ?_
  rintro e w2 ⟨rfl, hb⟩
  have hW := Lib.hid (hW.out.trans (hb.mono hW.out.size))
  have N0 := Bk.new w2 27 (idA (zeros 32))
  clear hb HRA1
  go_upto_region 6 with (refine wpList_store_mid rfl 27 (.tmp 5) (.tmp 26) rfl w2.heap.size 0 (idA q) rfl rfl (by rw [idA_size, hql]; exact N0.there 32 (by rw [idA_size]; decide)) (by rw [idA_size, hql]; exact id_info') (id_ones _) ?_)
  have hA3 : Below w2.heap.size w2 ((w2.alloc (.cells (idA (zeros 32)) 27)).setCells w2.heap.size 0 (idA q).toList) := Below.setCells (Nat.le_refl _) _ _ _ ((Below.refl _ _).alloc (Nat.le_refl _) _)
  refine wp_any (fun V => Below w.heap.size w V ∧ Bk V w2.heap.size 27 (idA q)) ⟨hW.out.trans (hA3.mono hW.out.size), N0.setAll (by rw [idA_size, idA_size, hql]; rfl)⟩ ?_
  generalize w2.heap.size = g5 at *
  clear N0 hA3 hW
  rintro V ⟨hW, K5⟩
  have HRB1 := Lib.hid (HRB.out V hW)
  have hW := Lib.hid hW
  clear HRB
  go_wp2_with fail
  refine HRB1.out.mono ?_
  rintro e w3 ⟨rfl, hb⟩
  have K5 := K5.keep hb
  have hW := Lib.hid (hW.out.trans (hb.mono hW.out.size))
  have N0 := Bk.new w3 27 (idA (zeros 32))
  clear hb HRB1
  have z5 := K5.lt
  go_upto_region 7 with (refine wpList_store_mid rfl 27 (.tmp 7) (.tmp 31) rfl w3.heap.size 0 (idA r) rfl rfl (by rw [idA_size, hrl]; exact N0.there 32 (by rw [idA_size]; decide)) (by rw [idA_size, hrl]; exact id_info') (id_ones _) ?_)
  have hA3 : Below w3.heap.size w3 ((w3.alloc (.cells (idA (zeros 32)) 27)).setCells w3.heap.size 0 (idA r).toList) := Below.setCells (Nat.le_refl _) _ _ _ ((Below.refl _ _).alloc (Nat.le_refl _) _)
  refine wp_any (fun V => Below w.heap.size w V ∧ Bk V g5 27 (idA q) ∧ Bk V w3.heap.size 27 (idA r)) ⟨hW.out.trans (hA3.mono hW.out.size), K5.keep hA3, N0.setAll (by rw [idA_size, idA_size, hrl]; rfl)⟩ ?_
  generalize w3.heap.size = g7 at *
  clear N0 hA3 hW K5 z5
  rintro V ⟨hW, K5, K7⟩
  have HW := Lib.hid hW
  clear hW
  have heq : ∀ W, (Op.equalIn 10000 27 (.agg (idA q)) (.agg (idA r))).run Tryd.prog W = .ok (decide (q = r)) W := fun W => id_eql q r hql hrl W
  by_cases eqr : q = r
  rotate_left
  · rw [decide_eq_false eqr] at heq
    go_wp2_with (first | (refine wpList_load_mid rfl 27 (.tmp 5) rfl g5 0 rfl (idA q).toList _ K5.range0 Tryd.underlying27 rfl (by rw [Array.length_toList, idA_size, hql]; exact id_info') ?_) | (refine wpList_load_mid rfl 27 (.tmp 7) rfl g7 0 rfl (idA r).toList _ K7.range0 Tryd.underlying27 rfl (by rw [Array.length_toList, idA_size, hrl]; exact id_info') ?_))
    go_ret
    exact ⟨rfl, HW.out⟩
  rw [decide_eq_true eqr] at heq
  have HRW2 := Lib.hid (HRW.out eqr)
  clear eqr HRW
  go_upto_region 9 with (first | (refine wpList_load_mid rfl 27 (.tmp 5) rfl g5 0 rfl (idA q).toList _ K5.range0 Tryd.underlying27 rfl (by rw [Array.length_toList, idA_size, hql]; exact id_info') ?_) | (refine wpList_load_mid rfl 27 (.tmp 7) rfl g7 0 rfl (idA r).toList _ K7.range0 Tryd.underlying27 rfl (by rw [Array.length_toList, idA_size, hrl]; exact id_info') ?_))
  clear heq K5 K7
  go_wp2_with fail
  go_loopw [9, 38] (fun sv iv wr => ∃ (k : Nat) (b : Bool), k ≤ n ∧ .bool b = sv ∧ .int .i64 (k : Int) = iv ∧ Hid (b = true ↔ ∀ j, j < k → nthI A j = nthI B j) ∧ Hid (Below w.heap.size w wr)) (fun _ iv _ => n - (intOf iv).toNat)
  case atStart => exact ⟨0, true, Nat.zero_le _, rfl, rfl, ⟨fun _ j h => absurd h (Nat.not_lt_zero _), fun _ => rfl⟩, HW.out⟩
  case round =>
    clear HW
    obtain ⟨k, b, hk, e1, e2, HB, hWr⟩ := hrel
    subst e1
    subst e2
    by_cases hlt : k < n
    · have hdk : decide ((k : Int) < (n : Int)) = true := decide_eq_true (by omega)
      have hdk' : decide (k < n) = true := decide_eq_true hlt
      obtain ⟨bA, oA, bB, oB, rfl, rfl, l1, l2, r1, r2⟩ := HAT.out k hlt
      have HR2 : Hid (bA < wr.heap.size ∧ bB < wr.heap.size ∧ wr.rangeAt bA (oA + k * 32) (idA (nthI A k)).toList ∧ wr.rangeAt bB (oB + k * 32) (idA (nthI B k)).toList) :=
        ⟨Nat.lt_of_lt_of_le l1 hWr.out.size, Nat.lt_of_lt_of_le l2 hWr.out.size, idr_below r1 hWr.out l1, idr_below r2 hWr.out l2⟩
      have HI := Lib.hid (HID.out k hlt)
      have HJ : Hid ((0 : Int) ≤ (k : Int) ∧ (k : Int) < (n : Int)) := ⟨by omega, by omega⟩
      have HE : Hid (∀ W, (Op.equalIn 10000 27 (.agg (idA (nthI A k))) (.agg (idA (nthI B k)))).run Tryd.prog W = .ok (decide (nthI A k = nthI B k)) W) := fun W => id_eql _ _ HI.out.1.1 HI.out.2.1 W
      have hk1 : k + 1 ≤ n := by omega
      clear r1 r2
      rcases b with _ | _
      · have HB2 : Hid (false = true ↔ ∀ j, j < k + 1 → nthI A j = nthI B j) := ⟨fun h => (by cases h), fun h => HB.out.2 (fun j hj => h j (by omega))⟩
        go_upto_region 13 with fail
        refine region13f bA oA c bB oB c2 n k wr (nthI A k) (nthI B k) false _ _ _ _ _ _ _ _ _ _ _ _ _ _ _ _ _ _ _ _ _ _ _ _ _ _ _ _ _ _ _ _ _ _ _ _ _ _ _ _ _ _ _ _ _ _ _ _ _ _ _ _ _ _ _ _ _ HI HJ HR2 rfl trivial (fun x41 x42 x43 x44 x45 x46 x47 x48 x49 x50 x51 x52 wd hbd => ?_)
        have hWd := Lib.hid (hWr.out.trans (hbd.mono hWr.out.size))
        clear hbd
        go_wp2_with fail
        go_roundw
        case rel =>
          have hi : Value.int .i64 ((k + 1 : Nat) : Int) = .int .i64 ((k : Int) + 1) := by go_num
          first | exact ⟨k + 1, false, hk1, rfl, hi, HB2, hWd⟩ | ((repeat apply Exists.intro); exact ⟨⟨k + 1, false, hk1, rfl, hi, HB2, hWd⟩, rfl⟩)
        case measure => simp [intOf] <;> omega
      · have HB2 : Hid (decide (nthI A k = nthI B k) = true ↔ ∀ j, j < k + 1 → nthI A j = nthI B j) := by
          show _ ↔ _
          rw [decide_eq_true_eq]
          constructor
          · intro e j hj
            by_cases h : j < k
            · exact HB.out.1 rfl j h
            · obtain rfl : j = k := by omega
              exact e
          · exact fun h => h k (by omega)
        go_upto_region 13 with fail
        refine region13t bA oA c bB oB c2 n k wr (nthI A k) (nthI B k) _ _ _ _ _ _ _ _ _ _ _ _ _ _ _ _ _ _ _ _ _ _ _ _ _ _ _ _ _ _ _ _ _ _ _ _ _ _ _ _ _ _ _ _ _ _ _ _ _ _ _ _ _ _ _ _ _ _ HI HJ HR2 trivial HE (fun x41 x42 x43 x44 x45 x46 x47 x48 x49 x50 x51 x52 wd hbd => ?_)
        have hWd := Lib.hid (hWr.out.trans (hbd.mono hWr.out.size))
        generalize decide (nthI A k = nthI B k) = bb at *
        clear hbd HE
        go_wp2_with fail
        go_roundw
        case rel =>
          have hi : Value.int .i64 ((k + 1 : Nat) : Int) = .int .i64 ((k : Int) + 1) := by go_num
          first | exact ⟨k + 1, bb, hk1, rfl, hi, HB2, hWd⟩ | ((repeat apply Exists.intro); exact ⟨⟨k + 1, bb, hk1, rfl, hi, HB2, hWd⟩, rfl⟩)
        case measure => simp [intOf] <;> omega
    · have hdk : decide ((k : Int) < (n : Int)) = false := decide_eq_false (by omega)
      have hdk' : decide (k < n) = false := decide_eq_false hlt
      obtain rfl : k = n := by omega
      rcases b with _ | _
      · have hne : A ≠ B := fun e => by
          have := HB.out.2 (fun j _ => by rw [e])
          cases this
        have HC := Lib.hid (HCL.out hne (HRW2.out hne) wr hWr.out)
        clear hne HCL hlt
        go_wp2_with fail
        refine HC.out.mono ?_
        rintro e w9 ⟨rfl, hb⟩
        have hW9 := Lib.hid (hWr.out.trans (hb.mono hWr.out.size))
        clear hb HC
        go_wp2_with fail
        go_ret
        exact ⟨rfl, hW9.out⟩
      · clear hlt
        go_wp2_with fail
        go_ret
        exact ⟨rfl, hWr.out⟩
theorem walk (v u : Value) (A B : List (List Nat)) (w : World) (hL : Laid w) (hv : IdsV w w.heap.size v A) (hu : IdsV w w.heap.size u B) :
    Calls Tryd.prog 5 #[v, u] w fun e w' => e = .returned (.bool true) ∧ Below w.heap.size w w' := by
  obtain ⟨s, c, rfl⟩ := hv.slice
  obtain ⟨s2, c2, rfl⟩ := hu.slice
  by_cases h : A.length = B.length
  · by_cases h0 : 16 < A.length
    · exact walk_out s s2 _ c _ c2 w hL (.inr ⟨h, h0⟩)
    · exact walk_inn A B s s2 c c2 w hL hv hu h h0
  · exact walk_out s s2 _ c _ c2 w hL (.inl h)

/-- The door's own heap meets the condition. -/
theorem door_met (os : Os) (args : Array Value) : laidMetH Tryd.prog laidL ((World.doorLaid Tryd.prog 19 os).forCall (fun _ _ => 0) ⟨#[], args, []⟩).memory :=
  laidMetH_of_parts3 (fuel := 8) (laidMet_of_run' 8 (by kernel_rfl) (by kernel_rfl)) (by kernel_rfl) (by kernel_rfl)

set_option maxRecDepth 100000 in
theorem lifted (os : Os) (started : os.Started) (H : Type) (enc : TypeId × Value → H) :
    ReturnsInHanded {} Tryd.checked os 5 .any (fun w args => (Rows.merkleOneSpec.pre enc Tryd.prog Tryd.f5 [] false w args ∧ laidMetH Tryd.prog laidL w) ∧ sizedMet enc Tryd.prog Tryd.f5 (OpenSpec.ofChange Rows.merkleOneSpec) false w args)
      (Rows.merkleOneSpec.post enc Tryd.prog Tryd.f5 false true false false) := by
  refine returnsInHanded_of_change_and (C := Tryd.checked) (X := fun w _ => laidMetH Tryd.prog laidL w) (fun _ _ _ hh h => h.of_heap hh) own started (by kernel_rfl) Tryd.func5
    (ChangeSpec.witness_shaped (enc := enc) (C := Tryd.checked) (os := os) (X := fun w _ => laidMetH Tryd.prog laidL w) false (World.doorLaid Tryd.prog 19 os) #[.slice none 0 0, .slice none 0 0] 8 rfl (World.shaped_of_RefB (by kernel_rfl) (by kernel_rfl)) (by kernel_rfl) (by kernel_rfl) (by kernel_rfl) (door_met os _)) ?_
  intro W base args ds gs before hval0 hW _ _ hL _
  have hval : ∀ (j : Nat) t v, Tryd.f5.params[j]? = some t → args[j]? = some v → Value.okWide Tryd.prog W .any base t v := hval0
  have hW' := hW
  obtain ⟨p, q, hA0, hV, rfl, hfz, hnd⟩ := hW
  have hA : DataW.TrodAll enc Tryd.prog W 0 (fun _ => true) true Tryd.f5.params.toList args.toList ds p := hA0
  rw [Tryd.params5] at hA hval
  obtain ⟨v0, vs0, d0, ds0, p0, q0, hargs, rfl, rfl, h0, r0⟩ := trodAll_cons hA
  obtain ⟨v1, vs1, d1, ds1, p1, q1, rfl, rfl, rfl, h1, r1⟩ := trodAll_cons r0
  obtain ⟨rfl, rfl, rfl⟩ := trodAll_nil r1
  obtain rfl : args = #[v0, v1] := by cases args; simp_all
  obtain ⟨rfl, rfl⟩ := trodVars_none hV
  have lt0 : ∀ x ∈ p0, x.block < W.heap.size := by obtain ⟨m, hm⟩ := h0; exact DataW.trod_lt m _ _ _ hm
  have lt1 : ∀ x ∈ p1, x.block < W.heap.size := by obtain ⟨m, hm⟩ := h1; exact DataW.trod_lt m _ _ _ hm
  obtain ⟨x0, hb0⟩ := ids_arg (hval 0 32 v0 rfl rfl) h0
  obtain ⟨x1, hb1⟩ := ids_arg (hval 1 32 v1 rfl rfl) h1
  have hwalk := walk v0 v1 x0 x1 W (of_laid hL) hb0 hb1
  clear hA0 hval0
  refine hwalk.mono fun e W' ⟨he, bel⟩ => ?_
  subst he
  exact ⟨_, rfl, _, _, _, [], _, [], hW', trodAll_mk1 (shut_bool Tryd.underlying4 _), (trodAll_cons_mk (Below.trod laidOut (by kernel_rfl) (of_decide_eq_true (by kernel_rfl)) h0 bel lt0) (trodAll_cons_mk (Below.trod laidOut (by kernel_rfl) (of_decide_eq_true (by kernel_rfl)) h1 bel lt1) trodAll_mk0)), rfl, bel.frame _, fun h => by cases h⟩

theorem over : Rows.MerkleOneSaid :=
  OpenClaim.holds_of_wide 5 Tryd.f5 rfl rfl rfl rfl rfl rfl rfl ⟨rfl, rfl, rfl, rfl, rfl⟩ rfl rfl rfl rfl rfl (by kernel_rfl) Tryd.func5 (by kernel_rfl)
    (of_decide_eq_true (by kernel_rfl)) (by unfold Func.isWrapper; first | (rw [if_pos (by decide +kernel)]; kernel_rfl) | (rw [if_neg (by decide +kernel)]; exact ⟨rfl, rfl⟩))
    (fun os started H enc _ => lifted os started H enc)

theorem proved : Rows.MerkleOneCardSaid :=
  Claim7.holds_tied_plain_at .later [] [.data, .data] true Rows.merkleOneCard.stood.harness false
    over (fun _ h => by cases h) (by kernel_rfl) (fun _ h => by cases h) merkleOne_row_tie rfl ⟨rfl, rfl⟩ (by kernel_rfl) rfl
    (fun f fn hf hfn => by
      obtain rfl : f = 5 := Option.some.inj ((show Tryd.prog.funcNamed "tallystick/tallysticklaw04.MerkleOne" = some 5 by kernel_rfl).symm.trans hf) |>.symm
      obtain rfl : fn = Tryd.f5 := (Option.some.inj (Tryd.func5.symm.trans hfn)).symm
      exact ⟨by kernel_rfl, fun j t ht => by
        rw [Tryd.params5] at ht
        have hm : t ∈ [32, 32] := by simpa using Array.mem_of_getElem? ht
        have hall : ([32, 32].all fun u => !Tryd.prog.wantsStandIn u) = true := by kernel_rfl
        exact (show Tryd.prog.wantsStandIn t = false by simpa using List.all_eq_true.1 hall t hm)⟩)
    (by kernel_rfl)
#print axioms proved
end Go.Proofs.YtecmgojecjenmaaDoor.merkleOne
