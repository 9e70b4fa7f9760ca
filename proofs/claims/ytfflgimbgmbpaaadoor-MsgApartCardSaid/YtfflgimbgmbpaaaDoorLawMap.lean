/-
  What is proved: for every two messages the law MsgApart returns true, and its arguments read behind the call as they read before it; the three listed tables, two of package hash and one of package msg, are taken to hold what the program's text lays in them, and the card ties them to it.
-/
import Derived.Test.YtfflgimbgmbpaaaDoorMsU
import Derived.Test.YtfflgimbgmbpaaaDoorBkZ
import Derived.Test.YtfflgimbgmbpaaaDoorTie
import Derived.Test.YtfflgimbgmbpaaaDoorCards
import Derived.Stop.Joined
namespace Go.Proofs.YtfflgimbgmbpaaaDoor.msgApart
open Go.ChangeShapes Go.WideShapes Go.ChangeAt Go.RowKit
set_option linter.unusedVariables false

theorem own : ownKnob Tryd.prog.godebug = none := by kernel_rfl
theorem laidOut : laidOutB Tryd.prog = true := by kernel_rfl
theorem wf_i64 {z : Int} (h : (Lit.int .i64 z).wf = true) : -9223372036854775808 ≤ z ∧ z ≤ 9223372036854775807 := by
  simp [Lit.wf, IntKind.min, IntKind.max, IntKind.signed, IntKind.bits] at h
  omega
set_option maxRecDepth 100000
set_option linter.unusedSimpArgs false
theorem enc_inj {a b : List Nat} {d e : List Nat} (ha : WordOk a) (hb : WordOk b) (h : encL a d = encL b e) : a = b ∧ d = e := by
  have h1 := encL_word a d ha []
  have h2 := encL_word b e hb []
  have h3 := encL_rest a d ha.2.1 []
  have h4 := encL_rest b e hb.2.1 []
  rw [h] at h1 h3
  exact ⟨h1.symm.trans h2, by
    have h5 := h3.symm.trans h4
    rw [List.append_nil, List.append_nil] at h5
    exact h5⟩
theorem enc_same {a b : MsM} (ha : msE a = 0) (hb : msE b = 0) : encL (kindL a.kd.toNat) (dataL a) = encL (kindL b.kd.toNat) (dataL b) ↔ a.kd = b.kd ∧ dataL a = dataL b := by
  have h1 : 1 ≤ a.kd ∧ a.kd ≤ 10 := by
    unfold msE at ha
    split at ha
    · cases ha
    · omega
  have h2 : 1 ≤ b.kd ∧ b.kd ≤ 10 := by
    unfold msE at hb
    split at hb
    · cases hb
    · omega
  constructor
  · intro h
    obtain ⟨e1, e2⟩ := enc_inj (kind_ok (by omega) (by omega)) (kind_ok (by omega) (by omega)) h
    have e3 := congrArg kindN e1
    rw [kindN_of (by omega) (by omega), kindN_of (by omega) (by omega)] at e3
    exact ⟨by omega, e2⟩
  · rintro ⟨e1, e2⟩
    rw [e1, e2]
set_option maxHeartbeats 16000000 in
theorem walk (a b : MsM) (w : World) (hL : LaidM w) (hVa : MsV w w.heap.size a) (hVb : MsV w w.heap.size b) :
    Calls Tryd.prog 7 #[.agg (msL a).toArray, .agg (msL b).toArray] w fun e w' => e = .returned (.bool true) ∧ Below w.heap.size w w' := by
  have HSY : Hid (∀ W, Below w.heap.size w W → Calls Tryd.prog 22 #[] W fun r w' => r = .returned (.bool true) ∧ Below W.heap.size W w') := fun W h => says_any W (hL.below h hL.size)
  have HFA : Hid (∀ W, Below w.heap.size w W → Calls Tryd.prog 24 #[.agg (msL a).toArray] W fun r w' => ∃ bb, r = .returned (.bool bb) ∧ (bb = true → MsFit a) ∧ Below W.heap.size W w') := fun W h => mfits_any a W ((hVa.keep h (Nat.le_refl _)).mono h.size)
  have HFB : Hid (∀ W, Below w.heap.size w W → Calls Tryd.prog 24 #[.agg (msL b).toArray] W fun r w' => ∃ bb, r = .returned (.bool bb) ∧ (bb = true → MsFit b) ∧ Below W.heap.size W w') := fun W h => mfits_any b W ((hVb.keep h (Nat.le_refl _)).mono h.size)
  have HEA : Hid (MsFit a → ∀ W, Below w.heap.size w W → Calls Tryd.prog 23 #[.agg (msL a).toArray] W fun r w' => EncM W w' a r) := fun hf W h => mencode_any a W ((hVa.keep h (Nat.le_refl _)).mono h.size) hf (hL.below h hL.size)
  have HEB : Hid (MsFit b → ∀ W, Below w.heap.size w W → Calls Tryd.prog 23 #[.agg (msL b).toArray] W fun r w' => EncM W w' b r) := fun hf W h => mencode_any b W ((hVb.keep h (Nat.le_refl _)).mono h.size) hf (hL.below h hL.size)
  have HPA : Hid (∀ W, Calls Tryd.prog 28 #[.agg (msL a).toArray] W fun r w' => r = .returned (.agg (msL a).toArray) ∧ Below W.heap.size W w') := fun W => mplain_any a W hVa.1.2.2.2
  have HPB : Hid (∀ W, Calls Tryd.prog 28 #[.agg (msL b).toArray] W fun r w' => r = .returned (.agg (msL b).toArray) ∧ Below W.heap.size W w') := fun W => mplain_any b W hVb.1.2.2.2
  have HDA : Hid (MsFit a → ∀ W, Below w.heap.size w W → Calls Tryd.prog 27 #[.agg (msL a).toArray] W fun r w' => r = .returned (.tuple #[.string (strN (datS a)), .int .i64 ((msE a : Nat) : Int)]) ∧ Below W.heap.size W w') := fun hf W h => refdata_any a W ((hVa.keep h (Nat.le_refl _)).mono h.size) hf
  have HDB : Hid (MsFit b → ∀ W, Below w.heap.size w W → Calls Tryd.prog 27 #[.agg (msL b).toArray] W fun r w' => r = .returned (.tuple #[.string (strN (datS b)), .int .i64 ((msE b : Nat) : Int)]) ∧ Below W.heap.size W w') := fun hf W h => refdata_any b W ((hVb.keep h (Nat.le_refl _)).mono h.size) hf
  have HXA := Lib.hid (dataL_lt hVa)
  have HXB := Lib.hid (dataL_lt hVb)
  have hla : ∀ (W : World) (g : Nat), Bk W g 63 (msL a).toArray → (loadCellsFrom ⟨g, 0, none⟩ 0 106 #[]).run Tryd.prog W = .ok (msL a).toArray W := fun W g K => by
    have h := load_rowM W g 0 (msL a) (hd_range K)
    rw [msL_len hVa.1.2.2.2] at h
    exact h
  have hlb : ∀ (W : World) (g : Nat), Bk W g 63 (msL b).toArray → (loadCellsFrom ⟨g, 0, none⟩ 0 106 #[]).run Tryd.prog W = .ok (msL b).toArray W := fun W g K => by
    have h := load_rowM W g 0 (msL b) (hd_range K)
    rw [msL_len hVb.1.2.2.2] at h
    exact h
  have ha0 := msL_0 a
  have hb0 := msL_0 b
  obtain ⟨A, hA⟩ : ∃ A, A = (msL a).toArray := ⟨_, rfl⟩
  rw [← hA] at HFA HEA HPA HDA hla ha0 ⊢
  obtain ⟨B, hB⟩ : ∃ A, A = (msL b).toArray := ⟨_, rfl⟩
  rw [← hB] at HFB HEB HPB HDB hlb hb0 ⊢
  obtain ⟨ka, hka⟩ : ∃ k, k = a.kd := ⟨_, rfl⟩
  obtain ⟨kb, hkb⟩ : ∃ k, k = b.kd := ⟨_, rfl⟩
  rw [← hka] at ha0
  rw [← hkb] at hb0
  have HKA := Lib.hid hka
  have HKB := Lib.hid hkb
  have HA0 := Lib.hid ha0
  have HB0 := Lib.hid hb0
  obtain ⟨tl, htl⟩ : ∃ tl : TypeId, tl = 63 := ⟨_, rfl⟩
  obtain ⟨sz, hsz⟩ : ∃ sz : Nat, sz = 106 := ⟨_, rfl⟩
  have hag : ∀ w, (isAgg tl).run Tryd.prog w = .ok true w := by rw [htl]; exact ms_agg
  have hszl : ∀ w, (sizeOf tl).run Tryd.prog w = .ok sz w := by rw [htl, hsz]; exact ms_size
  have HTT := Lib.hid htl
  rw [← hsz] at hla hlb
  have HLA := Lib.hid hla
  have HLB := Lib.hid hlb
  clear hL hVa hVb hA hB hla hlb ha0 hb0 hka hkb htl hsz
  go_enter Tryd.func7, Tryd.ntmps7
  go_upto_region 1 with fail
  refine wp_any (fun W => Below w.heap.size w W ∧ Bk W w.heap.size 63 A ∧ Bk W (w.heap.size + 1) 63 B) ⟨((Below.refl _ _).alloc (Nat.le_refl _) _).alloc (by simp) _, (Bk.new _ _ _).alloc _, Bk.new' _ _ _ (by simp)⟩ ?_
  obtain ⟨g2, hg2⟩ : ∃ g, g = w.heap.size := ⟨_, rfl⟩
  obtain ⟨g3, hg3⟩ : ∃ g, g = w.heap.size + 1 := ⟨_, rfl⟩
  rintro W ⟨hW, K2, K3⟩
  rw [← hg2] at K2
  rw [← hg3] at K3
  rw [← hg3]
  rw [show (some ⟨w.heap.size, 0, none⟩ : Option Addr) = some ⟨g2, 0, none⟩ by rw [hg2]]
  have HW := Lib.hid hW
  have HK := Lib.hid (show Bk W g2 63 A ∧ Bk W g3 63 B from ⟨K2, K3⟩)
  have HC := Lib.hid (HSY.out W hW)
  clear hg2 hg3 hW K2 K3 HSY
  go_wp2_with fail
  refine HC.out.mono ?_
  rintro e W1 ⟨rfl, hb1⟩
  have HW1 := Lib.hid (below_step HW.out HW.out.size hb1)
  have HK1 := Lib.hid (show Bk W1 g2 63 A ∧ Bk W1 g3 63 B from ⟨HK.out.1.keep hb1, HK.out.2.keep hb1⟩)
  have HC := Lib.hid (HFA.out W1 HW1.out)
  have hl := HLA.out W1 g2 HK1.out.1
  have z2 := HK1.out.1.lt
  clear hb1 HFA
  go_upto_region 3 with fail
  simp only [show ∀ z, Op.load 63 z = Op.load tl z from fun z => by rw [HTT.out]]
  go_wp2_with fail
  refine HC.out.mono ?_
  rintro e W2 ⟨ba, rfl, hfa, hb2⟩
  have HW2 := Lib.hid (below_step HW1.out HW1.out.size hb2)
  have HK2 := Lib.hid (show Bk W2 g2 63 A ∧ Bk W2 g3 63 B from ⟨HK1.out.1.keep hb2, HK1.out.2.keep hb2⟩)
  have HC := Lib.hid (HFB.out W2 HW2.out)
  clear hb2 hl z2 HFB
  cases ba with
  | false =>
    clear hfa
    go_wp2_with fail
    go_ret
    exact ⟨rfl, HW2.out⟩
  | true =>
    have HFA := Lib.hid (hfa rfl)
    have hl := HLB.out W2 g3 HK2.out.2
    have z3 := HK2.out.2.lt
    clear hfa
    go_wp2_with fail
    refine HC.out.mono ?_
    rintro e W3 ⟨bb, rfl, hfb, hb3⟩
    have HW3 := Lib.hid (below_step HW2.out HW2.out.size hb3)
    have HK3 := Lib.hid (show Bk W3 g2 63 A ∧ Bk W3 g3 63 B from ⟨HK2.out.1.keep hb3, HK2.out.2.keep hb3⟩)
    clear hb3 hl z3
    cases bb with
    | false =>
      clear hfb
      go_wp2_with fail
      go_ret
      exact ⟨rfl, HW3.out⟩
    | true =>
      have HFB := Lib.hid (hfb rfl)
      have HC := Lib.hid (HEA.out HFA.out W3 HW3.out)
      have hl := HLA.out W3 g2 HK3.out.1
      have z2 := HK3.out.1.lt
      clear hfb
      go_upto_region 5 with fail
      simp only [show ∀ z, Op.load 63 z = Op.load tl z from fun z => by rw [HTT.out]]
      go_wp2_with fail
      refine HC.out.mono ?_
      rintro e W4 ⟨v4, rfl, hb4, hM4, _⟩
      have HW4 := Lib.hid (below_step HW3.out HW3.out.size hb4)
      have HK4 := Lib.hid (show Bk W4 g2 63 A ∧ Bk W4 g3 63 B from ⟨HK3.out.1.keep hb4, HK3.out.2.keep hb4⟩)
      have HM4 := Lib.hid hM4
      have HC := Lib.hid (HEB.out HFB.out W4 HW4.out)
      have hl := HLB.out W4 g3 HK4.out.2
      have z3 := HK4.out.2.lt
      obtain ⟨ea, hea⟩ : ∃ e, e = msE a := ⟨_, rfl⟩
      rw [← hea]
      have HEA0 := Lib.hid hea
      clear hb4 hM4 z2 hea
      go_upto_region 6 with fail
      simp only [show ∀ z, Op.load 63 z = Op.load tl z from fun z => by rw [HTT.out]]
      go_wp2_with fail
      refine HC.out.mono ?_
      rintro e W5 ⟨v5, rfl, hb5, hM5, _⟩
      have HW5 := Lib.hid (below_step HW4.out HW4.out.size hb5)
      have HK5 := Lib.hid (show Bk W5 g2 63 A ∧ Bk W5 g3 63 B from ⟨HK4.out.1.keep hb5, HK4.out.2.keep hb5⟩)
      have HM5 := Lib.hid hM5
      have HB45 := Lib.hid hb5
      obtain ⟨eb, heb⟩ : ∃ e, e = msE b := ⟨_, rfl⟩
      rw [← heb]
      have HEB0 := Lib.hid heb
      clear hb5 hM5 z3 heb hl
      by_cases h1 : ea = 0
      · subst h1
        by_cases h2 : eb = 0
        · subst h2
          have hMa := HM4.out HEA0.out.symm
          have hMb := HM5.out HEB0.out.symm
          have hxa := encL_lt _ _ (kind_lt a.kd.toNat) HXA.out
          have hxb := encL_lt _ _ (kind_lt b.kd.toNat) HXB.out
          have HXY := Lib.hid (show _ ∧ _ from ⟨hxa, hxb⟩)
          have hbsa := (hMa.bs hxa).keep HB45.out (Nat.le_refl _)
          have hbsb := hMb.bs hxb
          obtain ⟨s4, c4, rfl⟩ := hMa.slice
          obtain ⟨s5, c5, rfl⟩ := hMb.slice
          have HBA := Lib.hid hbsa
          have HBB := Lib.hid hbsb
          have HEN := Lib.hid (enc_same HEA0.out.symm HEB0.out.symm)
          obtain ⟨X, hX⟩ : ∃ X, X = encL (kindL a.kd.toNat) (dataL a) := ⟨_, rfl⟩
          obtain ⟨Y, hY⟩ : ∃ Y, Y = encL (kindL b.kd.toNat) (dataL b) := ⟨_, rfl⟩
          rw [← hX] at HXY HBA HEN
          rw [← hY] at HXY HBB HEN
          rw [← hX, ← hY]
          obtain ⟨lx, hlx⟩ : ∃ l, l = X.length := ⟨_, rfl⟩
          obtain ⟨ly, hly⟩ : ∃ l, l = Y.length := ⟨_, rfl⟩
          rw [← hlx] at HBA ⊢
          rw [← hly] at HBB ⊢
          have HC := Lib.hid (HPA.out W5)
          have hl := HLA.out W5 g2 HK5.out.1
          have z2 := HK5.out.1.lt
          clear hMa hMb hxa hxb hbsa hbsb hX hY hlx hly HM4 HM5
          go_upto_region 9 with fail
          simp only [show ∀ z, Op.load 63 z = Op.load tl z from fun z => by rw [HTT.out]]
          go_wp2_with fail
          refine HC.out.mono ?_
          rintro e W6 ⟨rfl, hb6⟩
          have HW6 := Lib.hid (below_step HW5.out HW5.out.size hb6)
          have HC := Lib.hid (HDA.out HFA.out W6 HW6.out)
          rw [← HEA0.out] at HC
          clear hl z2
          go_wp2_with fail
          refine HC.out.mono ?_
          rintro e W7 ⟨rfl, hb7⟩
          have HW7 := Lib.hid (below_step HW6.out HW6.out.size hb7)
          have HB7 := Lib.hid (below_step hb6 hb6.size hb7)
          have HK7 := Lib.hid (show Bk W7 g2 63 A ∧ Bk W7 g3 63 B from ⟨HK5.out.1.keep HB7.out, HK5.out.2.keep HB7.out⟩)
          have HC := Lib.hid (HPB.out W7)
          have hl := HLB.out W7 g3 HK7.out.2
          have z3 := HK7.out.2.lt
          clear hb6 hb7
          go_upto_region 10 with fail
          simp only [show ∀ z, Op.load 63 z = Op.load tl z from fun z => by rw [HTT.out]]
          go_wp2_with fail
          refine HC.out.mono ?_
          rintro e W8 ⟨rfl, hb8⟩
          have HW8 := Lib.hid (below_step HW7.out HW7.out.size hb8)
          have HC := Lib.hid (HDB.out HFB.out W8 HW8.out)
          rw [← HEB0.out] at HC
          clear hl z3
          go_wp2_with fail
          refine HC.out.mono ?_
          rintro e W9 ⟨rfl, hb9⟩
          have HW9 := Lib.hid (below_step HW8.out HW8.out.size hb9)
          have HB9 := Lib.hid (below_step (below_step HB7.out HB7.out.size hb8) (Nat.le_trans HB7.out.size hb8.size) hb9)
          have K2 := HK5.out.1.keep HB9.out
          have K3 := HK5.out.2.keep HB9.out
          have c2 := (K2.cell 0).trans HA0.out
          have c3 := (K3.cell 0).trans HB0.out
          have z2 := K2.lt
          have z3 := K3.lt
          have hcx := conv_bs (HBA.out.keep HB9.out HB45.out.size)
          have hcy := conv_bs (HBB.out.keep HB9.out (Nat.le_refl _))
          have heq := str_eqb X Y HXY.out.1 HXY.out.2
          have hda : datS a = dataL a := by unfold datS; rw [if_pos HEA0.out.symm]
          have hdb : datS b = dataL b := by unfold datS; rw [if_pos HEB0.out.symm]
          have hde := str_eqb (dataL a) (dataL b) HXA.out HXB.out
          rw [hda, hdb]
          have HEN2 : Hid (X = Y ↔ ka = kb ∧ dataL a = dataL b) := by show _ ↔ _; rw [HKA.out, HKB.out]; exact HEN.out
          obtain ⟨P, hP⟩ : ∃ P, P = dataL a := ⟨_, rfl⟩
          obtain ⟨Q, hQ⟩ : ∃ P, P = dataL b := ⟨_, rfl⟩
          rw [← hP, ← hQ] at hde HEN2 ⊢
          have HDE := Lib.hid hde
          have HXE := Lib.hid heq
          generalize strN P = up at *
          generalize strN Q = uq at *
          generalize strN X = ux at *
          generalize strN Y = uy at *
          clear hda hdb hb8 hb9 K2 K3 hP hQ hde heq
          by_cases e1 : ka = kb
          · subst e1
            have f1 : (ka == ka) = true := by simp
            by_cases e2 : P = Q
            · have f2 : (up.toList == uq.toList) = true := by rw [HDE.out]; exact decide_eq_true e2
              have f3 : (ux.toList == uy.toList) = true := by rw [HXE.out]; exact decide_eq_true (HEN2.out.2 ⟨rfl, e2⟩)
              clear e2
              go_wp2_with fail
              go_ret
              exact ⟨rfl, HW9.out⟩
            · have f2 : (up.toList == uq.toList) = false := by rw [HDE.out]; exact decide_eq_false e2
              have f3 : (ux.toList == uy.toList) = false := by rw [HXE.out]; exact decide_eq_false (fun h => e2 (HEN2.out.1 h).2)
              clear e2
              go_wp2_with fail
              go_ret
              exact ⟨rfl, HW9.out⟩
          · have f1 : (ka == kb) = false := by simpa using e1
            have f3 : (ux.toList == uy.toList) = false := by rw [HXE.out]; exact decide_eq_false (fun h => e1 (HEN2.out.1 h).1)
            clear e1
            go_wp2_with fail
            go_ret
            exact ⟨rfl, HW9.out⟩
        · have f2 : (((eb : Nat) : Int) != 0) = true := by simp; omega
          clear h2
          go_wp2_with fail
          go_ret
          exact ⟨rfl, HW5.out⟩
      · have f1 : (((ea : Nat) : Int) != 0) = true := by simp; omega
        clear h1
        go_wp2_with fail
        go_ret
        exact ⟨rfl, HW5.out⟩

/-- The door's own heap meets the condition. -/
theorem door_met (os : Os) (args : Array Value) : laidMetH Tryd.prog laidL3 ((World.doorLaid Tryd.prog 19 os).forCall (fun _ _ => 0) ⟨#[], args, []⟩).memory :=
  laidMetH_of_parts3 (fuel := 8) (laidMet_of_run' 8 (by kernel_rfl) (by kernel_rfl)) (by kernel_rfl) (by kernel_rfl)

set_option maxRecDepth 100000 in
theorem lifted (os : Os) (started : os.Started) (H : Type) (enc : TypeId × Value → H) :
    ReturnsInHanded {} Tryd.checked os 7 .any (fun w args => (Rows.msgApartSpec.pre enc Tryd.prog Tryd.f7 [] false w args ∧ laidMetH Tryd.prog laidL3 w) ∧ sizedMet enc Tryd.prog Tryd.f7 (OpenSpec.ofChange Rows.msgApartSpec) false w args)
      (Rows.msgApartSpec.post enc Tryd.prog Tryd.f7 false true false false) := by
  refine returnsInHanded_of_change_and (C := Tryd.checked) (X := fun w _ => laidMetH Tryd.prog laidL3 w) (fun _ _ _ hh h => h.of_heap hh) own started (by kernel_rfl) Tryd.func7
    (ChangeSpec.witness_shaped (enc := enc) (C := Tryd.checked) (os := os) (X := fun w _ => laidMetH Tryd.prog laidL3 w) false (World.doorLaid Tryd.prog 19 os) #[.agg (msL ms0).toArray, .agg (msL ms0).toArray] 8 rfl (World.shaped_of_RefB (by kernel_rfl) (by kernel_rfl)) (by kernel_rfl) (by kernel_rfl) (by kernel_rfl) (door_met os _)) ?_
  intro W base args ds gs before hval0 hW _ _ hL _
  have hval : ∀ (j : Nat) t v, Tryd.f7.params[j]? = some t → args[j]? = some v → Value.okWide Tryd.prog W .any base t v := hval0
  have hW' := hW
  obtain ⟨p, q, hA0, hV, rfl, hfz, hnd⟩ := hW
  have hA : DataW.TrodAll enc Tryd.prog W 0 (fun _ => true) true Tryd.f7.params.toList args.toList ds p := hA0
  rw [Tryd.params7] at hA hval
  obtain ⟨v0, vs0, d0, ds0, p0, q0, hargs, rfl, rfl, h0, r0⟩ := trodAll_cons hA
  obtain ⟨v1, vs1, d1, ds1, p1, q1, rfl, rfl, rfl, h1, r1⟩ := trodAll_cons r0
  obtain ⟨rfl, rfl, rfl⟩ := trodAll_nil r1
  obtain rfl : args = #[v0, v1] := by cases args; simp_all
  obtain ⟨rfl, rfl⟩ := trodVars_none hV
  have lt0 : ∀ x ∈ p0, x.block < W.heap.size := by obtain ⟨m, hm⟩ := h0; exact DataW.trod_lt m _ _ _ hm
  have lt1 : ∀ x ∈ p1, x.block < W.heap.size := by obtain ⟨m, hm⟩ := h1; exact DataW.trod_lt m _ _ _ hm
  obtain ⟨x0, hb0, rfl⟩ := msg_arg (hval 0 63 v0 rfl rfl) h0
  obtain ⟨x1, hb1, rfl⟩ := msg_arg (hval 1 63 v1 rfl rfl) h1
  have hwalk := walk x0 x1 W (of_laid3 hL) hb0 hb1
  clear hA0 hval0
  refine hwalk.mono fun e W' ⟨he, bel⟩ => ?_
  subst he
  exact ⟨_, rfl, _, _, _, [], _, [], hW', trodAll_mk1 (shut_bool Tryd.underlying4 _), (trodAll_cons_mk (Below.trod laidOut (by kernel_rfl) (of_decide_eq_true (by kernel_rfl)) h0 bel lt0) (trodAll_cons_mk (Below.trod laidOut (by kernel_rfl) (of_decide_eq_true (by kernel_rfl)) h1 bel lt1) trodAll_mk0)), rfl, bel.frame _, fun h => by cases h⟩

theorem over : Rows.MsgApartSaid :=
  OpenClaim.holds_of_wide 7 Tryd.f7 rfl rfl rfl rfl rfl rfl rfl ⟨rfl, rfl, rfl, rfl, rfl⟩ rfl rfl rfl rfl rfl (by kernel_rfl) Tryd.func7 (by kernel_rfl)
    (of_decide_eq_true (by kernel_rfl)) (by unfold Func.isWrapper; first | (rw [if_pos (by decide +kernel)]; kernel_rfl) | (rw [if_neg (by decide +kernel)]; exact ⟨rfl, rfl⟩))
    (fun os started H enc _ => lifted os started H enc)

theorem proved : Rows.MsgApartCardSaid :=
  Claim7.holds_tied_plain_at .later [] [.data, .data, .data] true Rows.msgApartCard.stood.harness false
    over (fun _ h => by cases h) (by kernel_rfl) (fun _ h => by cases h) msgApart_row_tie rfl ⟨rfl, rfl⟩ (by kernel_rfl) rfl
    (fun f fn hf hfn => by
      obtain rfl : f = 7 := Option.some.inj ((show Tryd.prog.funcNamed "tallystick/tallysticklaw09.MsgApart" = some 7 by kernel_rfl).symm.trans hf) |>.symm
      obtain rfl : fn = Tryd.f7 := (Option.some.inj (Tryd.func7.symm.trans hfn)).symm
      exact ⟨by kernel_rfl, fun j t ht => by
        rw [Tryd.params7] at ht
        have hm : t ∈ [63, 63] := by simpa using Array.mem_of_getElem? ht
        have hall : ([63, 63].all fun u => !Tryd.prog.wantsStandIn u) = true := by kernel_rfl
        exact (show Tryd.prog.wantsStandIn t = false by simpa using List.all_eq_true.1 hall t hm)⟩)
    (by kernel_rfl)
#print axioms proved
end Go.Proofs.YtfflgimbgmbpaaaDoor.msgApart
