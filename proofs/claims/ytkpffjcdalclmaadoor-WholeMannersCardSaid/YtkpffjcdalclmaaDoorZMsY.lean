/- Texts in one: MsE, MsK, MsQ, MsS, MsF. -/
import Derived.Test.YtkpffjcdalclmaaDoorZMsZ
import Derived.Test.YtkpffjcdalclmaaDoorZFrI
import Derived.Deep.RegionHeld
import Derived.Test.YtkpffjcdalclmaaDoorZFrJ
namespace Go.Proofs.YtkpffjcdalclmaaDoor
open Go.ChangeShapes Go.WideShapes Go.ChangeAt Go.RowKit
set_option linter.unusedVariables false
set_option linter.unusedSimpArgs false
set_option maxRecDepth 100000
def wordsL : List (List Nat) := [[], kindL 1, kindL 2, kindL 3, kindL 4, kindL 5, kindL 6, kindL 7, kindL 8, kindL 9, kindL 10]
def wordsA : Array Value := (wordsL.map fun l => Value.string (strN l)).toArray
def LaidM (w : World) : Prop := Laid w ∧ ∃ t f, w.heap[(0 : Nat)]? = some (.cells wordsA t f)
theorem LaidM.below {B : Nat} {w w' : World} (h : LaidM w) (hb : Below B w w') (hB : 3 + 1 ≤ B) : LaidM w' := by
  obtain ⟨h1, t, f, h0⟩ := h
  exact ⟨h1.below hb hB, t, f, (hb.block _ (by omega)).trans h0⟩
theorem LaidM.size {w : World} (h : LaidM w) : 3 + 1 ≤ w.heap.size := h.1.size
theorem LaidM.keep {w w' : World} (h : LaidM w) (hb : Below w.heap.size w w') : LaidM w' := h.below hb h.size
theorem LaidM.cell {w : World} (h : LaidM w) (k : Nat) (hk : k ≤ 10) : w.cell? ⟨0, k, none⟩ = some (.string (strN (kindL k))) := by
  obtain ⟨h1, t, f, h0⟩ := h
  unfold World.cell?
  simp only [h0, Option.isSome_none, Bool.false_eq_true, if_false]
  rcases (show k = 0 ∨ k = 1 ∨ k = 2 ∨ k = 3 ∨ k = 4 ∨ k = 5 ∨ k = 6 ∨ k = 7 ∨ k = 8 ∨ k = 9 ∨ k = 10 by omega) with rfl | rfl | rfl | rfl | rfl | rfl | rfl | rfl | rfl | rfl | rfl <;> rfl
theorem kind_ok {k : Nat} (h1 : 1 ≤ k) (h2 : k ≤ 10) : WordOk (kindL k) := by
  rcases (show k = 1 ∨ k = 2 ∨ k = 3 ∨ k = 4 ∨ k = 5 ∨ k = 6 ∨ k = 7 ∨ k = 8 ∨ k = 9 ∨ k = 10 by omega) with rfl | rfl | rfl | rfl | rfl | rfl | rfl | rfl | rfl | rfl <;> (unfold WordOk kindL nth; decide)
theorem kind_lt (k : Nat) : ∀ x ∈ kindL k, x < 256 := by
  unfold kindL
  split <;> decide
theorem kind_len (k : Nat) : (kindL k).length ≤ 10 := by
  unfold kindL
  split <;> decide
section
variable {H : Type} {enc : TypeId × Value → H} {P : Program} {w : World} {base : Nat} {sp : Nat → Bool} {held : Bool} {fuel : Nat} {t e : TypeId} {n : Nat} {cs : List Value} {ps : List MemPlace}
end
theorem long_3 {m : MsM} (h : 3 = m.kd) : MsLong m ↔ 32 < m.nm.length := by unfold MsLong; rw [← h]; omega
theorem long_4 {m : MsM} (h : 4 = m.kd) : MsLong m ↔ 32 < m.hd.length := by unfold MsLong; rw [← h]; omega
theorem long_5 {m : MsM} (h : 5 = m.kd) : MsLong m ↔ 64 < m.nm.length := by unfold MsLong; rw [← h]; omega
theorem long_6 {m : MsM} (h : 6 = m.kd) : MsLong m ↔ 64 < m.nm.length := by unfold MsLong; rw [← h]; omega
theorem long_8 {m : MsM} (h : 8 = m.kd) : MsLong m ↔ 64 < m.nm.length := by unfold MsLong; rw [← h]; omega
theorem long_7 {m : MsM} (h : 7 = m.kd) : MsLong m ↔ 8192 < (blkB m.bk).length := by unfold MsLong; rw [← h]; omega
theorem long_x {m : MsM} {k : Int} (h : k = m.kd) (n : k ≠ 3 ∧ k ≠ 4 ∧ k ≠ 5 ∧ k ≠ 6 ∧ k ≠ 8 ∧ k ≠ 7) : ¬ MsLong m := by unfold MsLong; rw [← h]; omega
theorem kinds6 (k : Int) : k = 3 ∨ k = 4 ∨ k = 5 ∨ k = 6 ∨ k = 8 ∨ k = 7 ∨ (k ≠ 3 ∧ k ≠ 4 ∧ k ≠ 5 ∧ k ≠ 6 ∧ k ≠ 8 ∧ k ≠ 7) := by omega
set_option maxHeartbeats 8000000 in
theorem mtoolong_any (m : MsM) (w : World) (hV : MsV w w.heap.size m) (hF : MsFit m) :
    Calls Tryd.prog 42 #[.agg (msL m).toArray] w fun e w' => e = .returned (.bool (decide (MsLong m))) ∧ Below w.heap.size w w' := by
  have HV := Lib.hid hV
  have HF := Lib.hid hF
  have hms := fun (W : World) (g : Nat) (K : Bk W g 58 (msL m).toArray) => ms_block K
  have HMS := Lib.hid hms
  have h0 := msL_0 m
  have h3 := msL_3 m
  have h36 := msL_36 m
  obtain ⟨kd, hkd⟩ : ∃ kd, kd = m.kd := ⟨_, rfl⟩
  rw [← hkd] at h0
  have HKD := Lib.hid hkd
  unfold MsM.nv at h3
  unfold MsM.hv at h36
  obtain ⟨n3, hn3⟩ : ∃ n, n = m.nm.length := ⟨_, rfl⟩
  obtain ⟨n5, hn5⟩ : ∃ n, n = m.hd.length := ⟨_, rfl⟩
  rw [← hn3] at h3
  rw [← hn5] at h36
  have HN3 := Lib.hid hn3
  have HN5 := Lib.hid hn5
  obtain ⟨A, hA⟩ : ∃ A, A = (msL m).toArray := ⟨_, rfl⟩
  rw [← hA] at h0 h3 h36 HMS ⊢
  have H0 := Lib.hid h0
  have H3 := Lib.hid h3
  have H36 := Lib.hid h36
  obtain ⟨bb, hbb⟩ : ∃ b, b = decide (MsLong m) := ⟨_, rfl⟩
  rw [← hbb]
  have HBB := Lib.hid hbb
  clear hV hF hA hms h0 h3 h36 hkd hn3 hn5 hbb
  go_enter Tryd.func42, Tryd.ntmps42
  go_upto_region 1 with fail
  refine wp_any (fun W => Below w.heap.size w W ∧ Bk W w.heap.size 58 A) ⟨(Below.refl _ _).alloc (Nat.le_refl _) _, Bk.new _ _ _⟩ ?_
  rintro W ⟨hW, K0⟩
  obtain ⟨g0, hg0⟩ : ∃ g0, g0 = w.heap.size := ⟨_, rfl⟩
  rw [← hg0] at K0 ⊢
  have HW : Hid (Below w.heap.size w W) := by rw [← hg0]; exact hg0 ▸ hW
  have c0 := (K0.cell 0).trans H0.out
  have c3 := (K0.cell 3).trans H3.out
  have c36 := (K0.cell 36).trans H36.out
  have z0 := K0.lt
  have hrg := HMS.out W g0 K0
  have HBL := Lib.hid (blkL_len HV.out.1.2.2.2)
  have hps : (Tryd.prog.info? 56).map (·.size) = some (blkL m.bk).length := by rw [HBL.out]; exact blk_infoS
  have HTB0 := Lib.hid (fun h7 : m.kd = 7 => tblock_any m.bk W ⟨HV.out.1.2.2.2, (HV.out.keep HW.out (Nat.le_refl _)).2.2.2.2.1.mono HW.out.size, fun t ht => ((HV.out.keep HW.out (Nat.le_refl _)).2.2.2.2.2 t ht).mono HW.out.size⟩ (HF.out.2.2 h7).2 (HF.out.2.2 h7).1)
  obtain ⟨PL, hPL⟩ : ∃ PL, PL = blkL m.bk := ⟨_, rfl⟩
  rw [← hPL] at hrg hps HTB0
  obtain ⟨l7, hl7⟩ : ∃ l7, l7 = (blkB m.bk).length := ⟨_, rfl⟩
  have HL7 := Lib.hid hl7
  generalize m.ns = mns at *
  generalize m.cn = mcn at *
  generalize m.hs = mhs at *
  generalize m.ch = mch at *
  clear hg0 hW K0 hPL hl7 HMS
  rcases kinds6 kd with rfl | rfl | rfl | rfl | rfl | rfl | hx
  · by_cases hl : 32 < n3
    · have q : decide ((32 : Int) < (n3 : Int)) = true := decide_eq_true (by omega)
      have hb : bb = true := by rw [HBB.out]; exact decide_eq_true (by rw [long_3 HKD.out, ← HN3.out]; exact hl)
      subst hb
      clear hl hrg hps
      go_wp2_with fail
      go_ret
      exact ⟨rfl, HW.out⟩
    · have q : decide ((32 : Int) < (n3 : Int)) = false := decide_eq_false (by omega)
      have hb : bb = false := by rw [HBB.out]; exact decide_eq_false (by rw [long_3 HKD.out, ← HN3.out]; exact hl)
      subst hb
      clear hl hrg hps
      go_wp2_with fail
      go_ret
      exact ⟨rfl, HW.out⟩
  · by_cases hl : 32 < n5
    · have q : decide ((32 : Int) < (n5 : Int)) = true := decide_eq_true (by omega)
      have hb : bb = true := by rw [HBB.out]; exact decide_eq_true (by rw [long_4 HKD.out, ← HN5.out]; exact hl)
      subst hb
      clear hl hrg hps
      go_wp2_with fail
      go_ret
      exact ⟨rfl, HW.out⟩
    · have q : decide ((32 : Int) < (n5 : Int)) = false := decide_eq_false (by omega)
      have hb : bb = false := by rw [HBB.out]; exact decide_eq_false (by rw [long_4 HKD.out, ← HN5.out]; exact hl)
      subst hb
      clear hl hrg hps
      go_wp2_with fail
      go_ret
      exact ⟨rfl, HW.out⟩
  · by_cases hl : 64 < n3
    · have q : decide ((64 : Int) < (n3 : Int)) = true := decide_eq_true (by omega)
      have hb : bb = true := by rw [HBB.out]; exact decide_eq_true (by rw [long_5 HKD.out, ← HN3.out]; exact hl)
      subst hb
      clear hl hrg hps
      go_wp2_with fail
      go_ret
      exact ⟨rfl, HW.out⟩
    · have q : decide ((64 : Int) < (n3 : Int)) = false := decide_eq_false (by omega)
      have hb : bb = false := by rw [HBB.out]; exact decide_eq_false (by rw [long_5 HKD.out, ← HN3.out]; exact hl)
      subst hb
      clear hl hrg hps
      go_wp2_with fail
      go_ret
      exact ⟨rfl, HW.out⟩
  · by_cases hl : 64 < n3
    · have q : decide ((64 : Int) < (n3 : Int)) = true := decide_eq_true (by omega)
      have hb : bb = true := by rw [HBB.out]; exact decide_eq_true (by rw [long_6 HKD.out, ← HN3.out]; exact hl)
      subst hb
      clear hl hrg hps
      go_wp2_with fail
      go_ret
      exact ⟨rfl, HW.out⟩
    · have q : decide ((64 : Int) < (n3 : Int)) = false := decide_eq_false (by omega)
      have hb : bb = false := by rw [HBB.out]; exact decide_eq_false (by rw [long_6 HKD.out, ← HN3.out]; exact hl)
      subst hb
      clear hl hrg hps
      go_wp2_with fail
      go_ret
      exact ⟨rfl, HW.out⟩
  · by_cases hl : 64 < n3
    · have q : decide ((64 : Int) < (n3 : Int)) = true := decide_eq_true (by omega)
      have hb : bb = true := by rw [HBB.out]; exact decide_eq_true (by rw [long_8 HKD.out, ← HN3.out]; exact hl)
      subst hb
      clear hl hrg hps
      go_wp2_with fail
      go_ret
      exact ⟨rfl, HW.out⟩
    · have q : decide ((64 : Int) < (n3 : Int)) = false := decide_eq_false (by omega)
      have hb : bb = false := by rw [HBB.out]; exact decide_eq_false (by rw [long_8 HKD.out, ← HN3.out]; exact hl)
      subst hb
      clear hl hrg hps
      go_wp2_with fail
      go_ret
      exact ⟨rfl, HW.out⟩
  · go_wp2_with (refine wpList_load_mid rfl 56 (.tmp 27) rfl g0 37 rfl PL _ hrg Tryd.underlying56 rfl hps ?_)
    have HTB := Lib.hid (HTB0.out HKD.out.symm)
    refine HTB.out.mono ?_
    rintro e W4 ⟨v4, rfl, M4, hb4⟩
    have HW4 := Lib.hid (below_step HW.out HW.out.size hb4)
    obtain ⟨s4, c4, rfl⟩ := M4.slice
    rw [← HL7.out]
    clear M4 hb4 HTB HTB0 hrg hps
    by_cases hl : 8192 < l7
    · have q : decide ((8192 : Int) < (l7 : Int)) = true := decide_eq_true (by omega)
      have hb : bb = true := by rw [HBB.out]; exact decide_eq_true (by rw [long_7 HKD.out, ← HL7.out]; exact hl)
      subst hb
      clear hl
      go_wp2_with fail
      go_ret
      exact ⟨rfl, HW4.out⟩
    · have q : decide ((8192 : Int) < (l7 : Int)) = false := decide_eq_false (by omega)
      have hb : bb = false := by rw [HBB.out]; exact decide_eq_false (by rw [long_7 HKD.out, ← HL7.out]; exact hl)
      subst hb
      clear hl
      go_wp2_with fail
      go_ret
      exact ⟨rfl, HW4.out⟩
  · have hb : bb = false := by rw [HBB.out]; exact decide_eq_false (long_x HKD.out hx)
    obtain ⟨x3, x4, x5, x6, x8, x7⟩ := hx
    subst hb
    have d3 : (kd == 3) = false := by simpa using x3
    have d4 : (kd == 4) = false := by simpa using x4
    have d5 : (kd == 5) = false := by simpa using x5
    have d6 : (kd == 6) = false := by simpa using x6
    have d8 : (kd == 8) = false := by simpa using x8
    have d7 : (kd == 7) = false := by simpa using x7
    clear x3 x4 x5 x6 x8 x7 hrg hps
    go_wp2_with fail
    go_ret
    exact ⟨rfl, HW.out⟩
def EncM (w w' : World) (m : MsM) (r : Ending) : Prop :=
  ∃ v', r = .returned (.tuple #[v', .int .i64 ((msE m : Nat) : Int)]) ∧ Below w.heap.size w w' ∧ (msE m = 0 → Mine w' w.heap.size v' (encL (kindL m.kd.toNat) (dataL m))) ∧ (msE m ≠ 0 → v' = .slice none 0 0)
theorem ms_agg (w : World) : (isAgg 58).run Tryd.prog w = .ok true w := by kernel_rfl
theorem ms_size (w : World) : (sizeOf 58).run Tryd.prog w = .ok 106 w := by kernel_rfl
theorem load_rowM (w : World) (b o : Nat) (L : List Value) (h : w.rangeAt b o L) : (loadCellsFrom ⟨b, o, none⟩ 0 L.length #[]).run Tryd.prog w = .ok L.toArray w := by
  exact run_loadCells_list (P := Tryd.prog) w ⟨b, o, none⟩ L (fun j v hv => by rw [Addr.add_mid]; exact h j v hv)
theorem msE_bad {m : MsM} (h : m.kd < 1 ∨ 10 < m.kd) : msE m = 90 := by unfold msE; rw [if_pos h]
theorem msE_long {m : MsM} (h : ¬ (m.kd < 1 ∨ 10 < m.kd)) (hl : MsLong m) : msE m = 2 := by unfold msE; rw [if_neg h, if_pos hl]
theorem msE_ok {m : MsM} (h : ¬ (m.kd < 1 ∨ 10 < m.kd)) (hl : ¬ MsLong m) : msE m = 0 := by unfold msE; rw [if_neg h, if_neg hl]
set_option maxHeartbeats 16000000 in
theorem mencode_any (m : MsM) (w : World) (hV : MsV w w.heap.size m) (hF : MsFit m) (hL : LaidM w) :
    Calls Tryd.prog 28 #[.agg (msL m).toArray] w fun r w' => EncM w w' m r := by
  have HTL : Hid (∀ W, Below w.heap.size w W → Calls Tryd.prog 42 #[.agg (msL m).toArray] W fun e w' => e = .returned (.bool (decide (MsLong m))) ∧ Below W.heap.size W w') := fun W h => mtoolong_any m W ((hV.keep h (Nat.le_refl _)).mono h.size) hF
  have HDA : Hid (∀ W, Below w.heap.size w W → Calls Tryd.prog 44 #[.agg (msL m).toArray] W fun e w' => ∃ s c, e = .returned (.slice s (dataL m).length c) ∧ Mine w' W.heap.size (.slice s (dataL m).length c) (dataL m) ∧ Below W.heap.size W w') := fun W h => (mdata_any m W ((hV.keep h (Nat.le_refl _)).mono h.size) hF).mono (by
    rintro e w' ⟨v', rfl, hM, hb⟩
    obtain ⟨s, c, rfl⟩ := hM.slice
    exact ⟨s, c, rfl, hM, hb⟩)
  have HLD := Lib.hid hL
  have HDX := Lib.hid (dataL_lt hV)
  have h0 := msL_0 m
  have h106 := msL_len hV.1.2.2.2
  obtain ⟨kd, hkd⟩ : ∃ kd, kd = m.kd := ⟨_, rfl⟩
  rw [← hkd] at h0
  have HKD := Lib.hid hkd
  have hr : ∀ (W : World) (g : Nat), Bk W g 58 (msL m).toArray → (loadCellsFrom ⟨g, 0, none⟩ 0 106 #[]).run Tryd.prog W = .ok (msL m).toArray W := fun W g K => by
    have h := load_rowM W g 0 (msL m) (hd_range K)
    rw [h106] at h
    exact h
  have HR := Lib.hid hr
  have hsz : (msL m).toArray.size = 106 := h106
  obtain ⟨A, hA⟩ : ∃ A, A = (msL m).toArray := ⟨_, rfl⟩
  rw [← hA] at h0 HTL HDA HR hsz ⊢
  have HAZ := Lib.hid hsz
  have H0 := Lib.hid h0
  clear hV hF hA h0 hL h106 hkd hr hsz
  unfold EncM
  go_enter Tryd.func28, Tryd.ntmps28
  go_upto_region 1 with fail
  refine wp_any (fun W => Below w.heap.size w W ∧ Bk W w.heap.size 58 A) ⟨(Below.refl _ _).alloc (Nat.le_refl _) _, Bk.new _ _ _⟩ ?_
  rintro W ⟨hW, K0⟩
  obtain ⟨g0, hg0⟩ : ∃ g0, g0 = w.heap.size := ⟨_, rfl⟩
  rw [← hg0] at K0 ⊢
  have HW : Hid (Below w.heap.size w W) := by rw [← hg0]; exact hg0 ▸ hW
  have c0 := (K0.cell 0).trans H0.out
  have z0 := K0.lt
  have HK0 := Lib.hid K0
  clear hW K0 hg0
  by_cases hk1 : kd < 1
  · have d1 : decide (kd < 1) = true := decide_eq_true hk1
    have he : msE m = 90 := msE_bad (by rw [← HKD.out]; exact .inl hk1)
    have HE := Lib.hid he
    clear he hk1
    go_wp2_with fail
    go_ret2
    exact ⟨_, by rw [HE.out]; rfl, HW.out, fun h => by rw [HE.out] at h; exact absurd h (by decide), fun _ => rfl⟩
  have d1 : decide (kd < 1) = false := decide_eq_false hk1
  by_cases hk2 : 10 < kd
  · have d2 : decide (10 < kd) = true := decide_eq_true hk2
    have he : msE m = 90 := msE_bad (by rw [← HKD.out]; exact .inr hk2)
    have HE := Lib.hid he
    clear he hk1 hk2
    go_wp2_with fail
    go_ret2
    exact ⟨_, by rw [HE.out]; rfl, HW.out, fun h => by rw [HE.out] at h; exact absurd h (by decide), fun _ => rfl⟩
  have d2 : decide (10 < kd) = false := decide_eq_false hk2
  obtain ⟨k, rfl⟩ : ∃ k : Nat, kd = (k : Int) := ⟨kd.toNat, by omega⟩
  have HK := Lib.hid (show 1 ≤ k ∧ k ≤ 10 by omega)
  have HNK : Hid (¬ (m.kd < 1 ∨ 10 < m.kd)) := by show ¬ _; rw [← HKD.out]; omega
  clear hk1 hk2
  obtain ⟨tl, htl⟩ : ∃ tl : TypeId, tl = 58 := ⟨_, rfl⟩
  obtain ⟨sz, hsz⟩ : ∃ sz : Nat, sz = 106 := ⟨_, rfl⟩
  have hag : ∀ w, (isAgg tl).run Tryd.prog w = .ok true w := by rw [htl]; exact ms_agg
  have hszl : ∀ w, (sizeOf tl).run Tryd.prog w = .ok sz w := by rw [htl, hsz]; exact ms_size
  have HTT := Lib.hid htl
  have HLA : Hid (∀ w', Below W.heap.size W w' → (loadCellsFrom ⟨g0, 0, none⟩ 0 sz #[]).run Tryd.prog w' = .ok A w') := fun w' h => by
    rw [hsz]
    exact HR.out w' g0 (HK0.out.keep h)
  clear hsz htl
  go_upto_region 3 with fail
  simp only [show ∀ z, Op.load 58 z = Op.load tl z from fun z => by rw [HTT.out]]
  have hl1 := HLA.out W (Below.refl _ _)
  obtain ⟨bb, hbb⟩ : ∃ b, b = decide (MsLong m) := ⟨_, rfl⟩
  rw [← hbb] at HTL
  have HBB := Lib.hid hbb
  clear hbb
  go_wp2_with fail
  refine (HTL.out W HW.out).mono ?_
  rintro e W1 ⟨rfl, hb1⟩
  have HW1 := Lib.hid (below_step HW.out HW.out.size hb1)
  cases bb with
  | true =>
    have he : msE m = 2 := msE_long HNK.out (of_decide_eq_true HBB.out.symm)
    have HE := Lib.hid he
    clear he hl1 hb1
    go_wp2_with fail
    go_ret2
    exact ⟨_, by rw [HE.out]; rfl, HW1.out, fun h => by rw [HE.out] at h; exact absurd h (by decide), fun _ => rfl⟩
  | false =>
    have hnl : ¬ MsLong m := of_decide_eq_false HBB.out.symm
    have he : msE m = 0 := msE_ok HNK.out hnl
    have HDL := Lib.hid (dataL_short hnl)
    have hkt : m.kd.toNat = k := by rw [← HKD.out]; rfl
    have HE := Lib.hid he
    have HKT := Lib.hid hkt
    have HK1 := Lib.hid (HK0.out.keep hb1)
    have hj1 : (0 : Int) ≤ (k : Int) := by omega
    have hj2 : (k : Int) < 11 := by have := HK.out; omega
    have hj3 : k < 11 := by have := HK.out; omega
    have hc0 : ∀ w', Below W1.heap.size W1 w' → w'.cell? ⟨g0, 0, none⟩ = some (.int .i64 (k : Int)) := fun w' h => ((HK1.out.keep h).cell 0).trans H0.out
    have hcw : ∀ w', Below W1.heap.size W1 w' → w'.cell? ⟨0, k, none⟩ = some (.string (strN (kindL k))) := fun w' h => ((HLD.out.keep HW1.out).keep h).cell k HK.out.2
    have hla : ∀ w', Below W1.heap.size W1 w' → (loadCellsFrom ⟨g0, 0, none⟩ 0 sz #[]).run Tryd.prog w' = .ok A w' := fun w' h => HLA.out w' (below_step hb1 hb1.size h)
    have HDA1 : Hid (∀ W', Below W1.heap.size W1 W' → Calls Tryd.prog 44 #[.agg A] W' fun e w' => ∃ s c, e = .returned (.slice s (dataL m).length c) ∧ Mine w' W'.heap.size (.slice s (dataL m).length c) (dataL m) ∧ Below W'.heap.size W' w') := fun W' h => HDA.out W' (below_step HW1.out HW1.out.size h)
    have HEN : Hid (∀ W' s c, Below W1.heap.size W1 W' → BsV W' W'.heap.size (.slice s (dataL m).length c) (dataL m) → Calls Tryd.prog 43 #[.agg #[.string (strN (kindL k)), .slice s (dataL m).length c]] W' fun r w' => ∃ v', r = .returned (.tuple #[v', .int .i64 0]) ∧ Below W'.heap.size W' w' ∧ Mine w' W'.heap.size v' (encL (kindL k) (dataL m))) := fun W' s c h hbv => (fencode_any (kindL k) (dataL m) s _ c W' ((HLD.out.keep HW1.out).keep h).1 (kind_lt k) hbv (by have := HDL.out; omega)).mono (by
      rintro r w' ⟨v', rfl, hb, hM, _⟩
      have e0 := encE_of (kind_ok HK.out.1 HK.out.2) (show (dataL m).length ≤ 16384 by have := HDL.out; omega)
      rw [e0]
      exact ⟨v', rfl, hb, hM e0⟩)
    obtain ⟨u, hu⟩ : ∃ u, u = strN (kindL k) := ⟨_, rfl⟩
    rw [← hu] at hcw HEN
    obtain ⟨ld, hld⟩ : ∃ l, l = (dataL m).length := ⟨_, rfl⟩
    rw [← hld] at HEN HDA1
    have HWZ := Lib.hid HW1.out.size
    clear he hl1 hb1 hnl hkt HTL HDA c0 z0 hu hld
    go_upto_region 5 with fail
    have z0 := HK1.out.lt
    have zg : 0 < W1.heap.size := by have := (HLD.out.keep HW1.out).size; omega
    simp only [show ∀ z, Op.load 58 z = Op.load tl z from fun z => by rw [HTT.out]]
    refine wp_region_noPanic ?_
    go_region_held (fun w' => Below W1.heap.size W1 w')
      (first | with_reducible assumption | with_reducible exact Below.refl _ _ | with_reducible exact (Below.refl _ _).drew)
      (first
        | (go_at_call 44
           with_reducible refine (HDA1.out _ (by first | with_reducible assumption | with_reducible exact (Below.refl _ _).drew | with_reducible exact Below.refl _ _)).mono ?_
           rintro e w6 ⟨s6, c6, rfl, hM6, hb6⟩
           have hE6 : Below W1.heap.size W1 w6 := by
             refine below_step ?_ ?_ hb6
             · first | with_reducible exact (Below.refl _ _).drew | with_reducible exact Below.refl _ _ | with_reducible assumption
             · exact Nat.le_refl _
           have hB6 := (hM6.bs HDX.out))
        | (go_at_call 43
           with_reducible refine (HEN.out _ _ _ (by first | with_reducible assumption) hB6).mono ?_
           rintro e w7 ⟨v7, rfl, hb7, hM7⟩
           have hE7 : Below W1.heap.size W1 w7 := below_step hE6 hE6.size hb7
           have hM7 := hM7.mono hE6.size))
    all_goals (
      refine NoPanic.normal ?_
      go_wp2_with fail
      go_ret2
      exact ⟨_, by rw [HE.out]; rfl, HW1.out.trans (hE7.mono HWZ.out), fun _ => by rw [HKT.out]; exact hM7.mono HWZ.out, fun h => absurd HE.out h⟩)
end Go.Proofs.YtkpffjcdalclmaaDoor
namespace Go.Proofs.YtkpffjcdalclmaaDoor
open Go.RowKit
set_option linter.unusedVariables false
set_option linter.unusedSimpArgs false
set_option maxRecDepth 100000
def kindFrom (wd : List Nat) : Nat → Nat → Nat
  | 0, _ => 0
  | n + 1, j => if kindL j = wd then j else kindFrom wd n (j + 1)
def kindN (wd : List Nat) : Nat := kindFrom wd 11 0
theorem words_range {w : World} (h : LaidM w) : w.rangeAt 0 0 wordsA.toList := by
  intro j v hv
  have hj : j < 11 := by
    have := (List.getElem?_eq_some_iff.1 hv).1
    exact this
  rw [Nat.zero_add, h.cell j (by omega)]
  rcases (show j = 0 ∨ j = 1 ∨ j = 2 ∨ j = 3 ∨ j = 4 ∨ j = 5 ∨ j = 6 ∨ j = 7 ∨ j = 8 ∨ j = 9 ∨ j = 10 by omega) with rfl | rfl | rfl | rfl | rfl | rfl | rfl | rfl | rfl | rfl | rfl <;> exact hv
theorem words_index (k : Nat) (h : k < 11) (W : World) : (Instr.index 109 (.agg wordsA) (.int .i64 (k : Int))).run Tryd.prog W = .ok (.string (strN (kindL k))) W := by
  rcases (show k = 0 ∨ k = 1 ∨ k = 2 ∨ k = 3 ∨ k = 4 ∨ k = 5 ∨ k = 6 ∨ k = 7 ∨ k = 8 ∨ k = 9 ∨ k = 10 by omega) with rfl | rfl | rfl | rfl | rfl | rfl | rfl | rfl | rfl | rfl | rfl <;> kernel_rfl
theorem words_info : (Tryd.prog.info? 109).map (·.size) = some 11 := by kernel_rfl
set_option maxHeartbeats 4000000 in
theorem mkind_any (wd : List Nat) (w : World) (hL : LaidM w) (hx : ∀ x ∈ wd, x < 256) : Calls Tryd.prog 58 #[.string (strN wd)] w fun r w' => r = .returned (.int .i64 ((kindN wd : Nat) : Int)) ∧ Below w.heap.size w w' := by
  have hrg := words_range hL
  have HAT := Lib.hid words_index
  have HLN : Hid (wordsA.size = 11) := rfl
  have HEQ : Hid (∀ k, ((strN (kindL k)).toList == (strN wd).toList) = decide (kindL k = wd)) := fun k => str_eqb (kindL k) wd (kind_lt k) hx
  have hps : (Tryd.prog.info? 109).map (·.size) = some wordsA.toList.length := words_info
  obtain ⟨u, hu⟩ : ∃ u, u = strN wd := ⟨_, rfl⟩
  rw [← hu] at HEQ ⊢
  obtain ⟨WA, hWA⟩ : ∃ W, W = wordsA := ⟨_, rfl⟩
  rw [← hWA] at hrg HAT HLN hps
  obtain ⟨r0, hr⟩ : ∃ r, r = kindN wd := ⟨_, rfl⟩
  rw [← hr]
  have HR : Hid (r0 = kindFrom wd 11 0) := hr
  clear hu hWA hL hr
  go_enter Tryd.func58, Tryd.ntmps58
  go_upto_region 2 with (refine wpList_load_mid rfl 109 (.global 0) rfl 0 0 rfl WA.toList _ hrg Tryd.underlying109 rfl hps ?_)
  clear hrg hps
  go_loopw [6] (fun i wr => ∃ k : Nat, k ≤ 11 ∧ i = .int .i64 k ∧ Hid (Below w.heap.size w wr) ∧ Hid (r0 = kindFrom wd (11 - k) k)) (fun i _ => 11 - (intOf i).toNat)
  case atStart => exact ⟨0, Nat.zero_le _, rfl, Below.refl _ _, HR.out⟩
  case round =>
    obtain ⟨k, hk, rfl, HW, HK⟩ := hrel
    by_cases hlt : k < 11
    · have j1 : decide ((k : Int) < 11) = true := decide_eq_true (by omega)
      have hat := HAT.out k hlt
      have heq := HEQ.out k
      have hst : kindFrom wd (11 - k) k = if kindL k = wd then k else kindFrom wd (11 - (k + 1)) (k + 1) := by
        rw [show 11 - k = (11 - (k + 1)) + 1 by omega]
        rfl
      by_cases he : kindL k = wd
      · rw [if_pos he] at hst
        obtain rfl : r0 = k := HK.out.trans hst
        rw [decide_eq_true he] at heq
        generalize strN (kindL r0) = uk at *
        clear hst he HK HR
        go_wp2_with fail
        go_ret
        exact ⟨rfl, HW.out⟩
      · rw [if_neg he] at hst
        have HK2 := Lib.hid (HK.out.trans hst)
        rw [decide_eq_false he] at heq
        generalize strN (kindL k) = uk at *
        clear hst he HK HR
        go_wp2_with fail
        go_roundw
        case rel => exact ⟨k + 1, by omega, by go_num, HW, HK2⟩
        case measure => simp [intOf]; omega
    · obtain rfl : k = 11 := by omega
      have h0 : r0 = 0 := HK.out
      subst h0
      have j1 : decide (((11 : Nat) : Int) < 11) = false := rfl
      clear hlt HR HK
      go_wp2_with fail
      go_ret
      exact ⟨rfl, HW.out⟩
theorem kindN_le (wd : List Nat) : kindN wd ≤ 10 := by
  have h : ∀ n j, kindFrom wd n j < j + n + 1 ∧ (kindFrom wd n j = 0 ∨ kindFrom wd n j < j + n) := by
    intro n
    induction n with
    | zero => intro j; exact ⟨by show 0 < _; omega, .inl rfl⟩
    | succ n ih =>
      intro j
      unfold kindFrom
      split
      · exact ⟨by omega, .inr (by omega)⟩
      · have := ih (j + 1)
        exact ⟨by omega, by omega⟩
  have := (h 11 0).2
  unfold kindN
  omega
end Go.Proofs.YtkpffjcdalclmaaDoor
namespace Go.Proofs.YtkpffjcdalclmaaDoor
open Go.RowKit
set_option linter.unusedVariables false
set_option linter.unusedSimpArgs false
set_option maxRecDepth 100000
theorem msL_lo (m : MsM) (b : BlkM) (i : Nat) (h : i < 37) : (msL { m with bk := b }).toArray[i]? = (msL m).toArray[i]? := by
  rcases (show i = 0 ∨ i = 1 ∨ i = 2 ∨ i = 3 ∨ (4 ≤ i ∧ i < 36) ∨ i = 36 by omega) with rfl | rfl | rfl | rfl | h2 | rfl
  · rfl
  · rfl
  · rfl
  · rfl
  · obtain ⟨j, rfl⟩ : ∃ j, i = 4 + j := ⟨i - 4, by omega⟩
    rw [msL_st m j (by omega), msL_st { m with bk := b } j (by omega)]
  · rw [msL_36, msL_36]
    rfl
theorem ms_bk (m : MsM) (b : BlkM) (h : IsHd m.bk.hd) (h' : IsHd b.hd) : ovr (msL m).toArray 37 (blkL b) = (msL { m with bk := b }).toArray := by
  have e1 : (msL m).toArray.size = 106 := msL_len h
  have e2 : (msL { m with bk := b }).toArray.size = 106 := msL_len (m := { m with bk := b }) h'
  have e3 := blkL_len h'
  apply Array.ext_getElem?
  intro i
  rw [ovr_get, e1, e3]
  by_cases hi : 37 ≤ i ∧ i < 106
  · rw [if_pos ⟨hi.1, by omega, by omega⟩]
    obtain ⟨j, rfl⟩ : ∃ j, i = 37 + j := ⟨i - 37, by omega⟩
    rw [show 37 + j - 37 = j by omega]
    have hj : (blkL b)[j]? = some ((blkL b)[j]'(by omega)) := List.getElem?_eq_getElem (by omega)
    rw [hj]
    exact (msL_bk { m with bk := b } j _ hj).symm
  · rw [if_neg (by omega)]
    rcases (show i < 37 ∨ 106 ≤ i by omega) with h2 | h2
    · exact (msL_lo m b i h2).symm
    · rw [Array.getElem?_eq_none (by omega), Array.getElem?_eq_none (by omega)]
def code7 (xs : List Nat) : Nat := if 8192 < xs.length then 2 else rdEnd (rbSt xs)
theorem readblock_any (s : Option Addr) (n c : Nat) (xs : List Nat) (w : World) (hb : BsV w w.heap.size (.slice s n c) xs) :
    Calls Tryd.prog 78 #[.slice s n c] w fun r w' => ∃ b, r = .returned (.tuple #[.agg (blkL b).toArray, .int .i64 ((code7 xs : Nat) : Int)]) ∧ Below w.heap.size w w' ∧ (code7 xs = 0 → BlkSays xs b) ∧ MineB w' w.heap.size b ∧ (code7 xs ≠ 0 → b = blk0) := by
  have hn : n = xs.length := by obtain ⟨_, _, e, _⟩ := hb; injection e
  have hx : ∀ x ∈ xs, x < 256 := by obtain ⟨_, _, _, _, _, h, _⟩ := hb; exact h
  by_cases h : 8192 < xs.length
  · refine (trb_long s n c w (by omega)).mono ?_
    rintro r w' ⟨rfl, hbel⟩
    unfold code7
    rw [if_pos h]
    exact ⟨blk0, rfl, hbel, fun h => absurd h (by decide), mine_nonb, fun _ => rfl⟩
  · refine (trb_in _ xs w hb (by omega) hx).mono ?_
    rintro r w' ⟨b, rfl, hbel, h1, h2⟩
    unfold code7
    rw [if_neg h]
    refine ⟨b, rfl, hbel, fun h0 => (h1 h0).1, ?_, h2⟩
    by_cases h0 : rdEnd (rbSt xs) = 0
    · exact (h1 h0).2
    · rw [h2 h0]
      exact mine_nonb
theorem MineB.but' {W W' : World} {lo g : Nat} {cs : Array Value} {b : BlkM} (h : MineB W lo b) (hb : But (fun k => k = g) W W') (K : Bk W g 58 cs) : MineB W' lo b :=
  ⟨h.1, h.2.1.but' hb K (by decide), fun t ht => (h.2.2 t ht).butT hb K (by decide) (by decide) (by decide)⟩
theorem MineMs.but' {W W' : World} {lo g : Nat} {cs : Array Value} {m : MsM} (h : MineMs W lo m) (hb : But (fun k => k = g) W W') (K : Bk W g 58 cs) : MineMs W' lo m :=
  ⟨h.1, h.2.1.but' hb K ne_ms_id, h.2.2.1.but' hb K ne_ms_hd, h.2.2.2.but' hb K⟩
theorem MineB.lower {W : World} {lo lo' : Nat} {b : BlkM} (h : MineB W lo b) (hl : lo' ≤ lo) : MineB W lo' b := ⟨h.1, h.2.1.lower hl, fun t ht => (h.2.2 t ht).mono hl⟩
theorem MineMs.lower {W : World} {lo lo' : Nat} {m : MsM} (h : MineMs W lo m) (hl : lo' ≤ lo) : MineMs W lo' m := ⟨h.1, h.2.1.lower hl, h.2.2.1.lower hl, h.2.2.2.lower hl⟩
theorem MineB.keep {W W' : World} {lo : Nat} {b : BlkM} (h : MineB W lo b) (hb : Below W.heap.size W W') : MineB W' lo b := ⟨h.1, h.2.1.keep hb, fun t ht => (h.2.2 t ht).keep hb⟩
theorem MineMs.keep {W W' : World} {lo : Nat} {m : MsM} (h : MineMs W lo m) (hb : Below W.heap.size W W') : MineMs W' lo m := ⟨h.1, h.2.1.keep hb, h.2.2.1.keep hb, h.2.2.2.keep hb⟩
theorem mine_ms0 {W : World} {lo : Nat} : MineMs W lo ms0 := ⟨⟨by decide, by decide, by decide, hd0_is⟩, mine_none, mine_nonh, mine_nonb⟩
def DecSays (k : Nat) (xs : List Nat) (m : MsM) : Prop := if k = 7 then BlkSays xs m.bk ∧ m.nm = [] ∧ m.hd = [] ∧ m.nc = 0 ∧ m.ht = 0 ∧ m.st.1 = zeros 32 else RdSays k xs m
def codeK (k : Nat) (xs : List Nat) : Nat := if k = 7 then code7 xs else rdC k xs
set_option maxHeartbeats 16000000 in
theorem mread7_any (s : Option Addr) (n c : Nat) (xs : List Nat) (w : World) (hb : BsV w w.heap.size (.slice s n c) xs) :
    Calls Tryd.prog 59 #[.int .i64 7, .slice s n c] w fun r w' => ∃ m, r = .returned (.tuple #[.agg (msL m).toArray, .int .i64 ((code7 xs : Nat) : Int)]) ∧ Below w.heap.size w w' ∧ (code7 xs = 0 → BlkSays xs m.bk) ∧ MineMs w' w.heap.size m ∧ m.kd = 7 ∧ m.nm = [] ∧ m.hd = [] ∧ m.nc = 0 ∧ m.ht = 0 ∧ m.st.1 = zeros 32 := by
  have HB := Lib.hid hb
  clear hb
  have hZ : Hid ((msL ms0).toArray.size = 106) := msL_len hd0_is
  obtain ⟨ZC, hZC⟩ : ∃ Z, Z = Tryd.zeroCells58 := ⟨_, rfl⟩
  have HZE := Lib.hid hZC
  have HZC : Hid (ZC = (msL ms0).toArray) := hZC.trans msz
  clear hZC
  go_enter Tryd.func59, Tryd.ntmps59
  go_upto_region 1 with fail
  rw [← HZE.out]
  refine wp_any (fun W => Below w.heap.size w W ∧ Bk W w.heap.size 58 ZC) ⟨(Below.refl _ _).alloc (Nat.le_refl _) _, Bk.new _ _ _⟩ ?_
  obtain ⟨g4, hg4⟩ : ∃ g4, g4 = w.heap.size := ⟨_, rfl⟩
  have HG4 := Lib.hid hg4
  rw [← hg4]
  clear hg4
  rintro W0 ⟨hW0, K4⟩
  have HW0 : Hid (Below w.heap.size w W0) := by rw [← HG4.out]; exact hW0
  obtain ⟨m0, hm0⟩ : ∃ m0 : MsM, m0 = { ms0 with kd := 7 } := ⟨_, rfl⟩
  have HM0 := Lib.hid hm0
  have hmi : IsHd m0.bk.hd := by rw [hm0]; exact hd0_is
  obtain ⟨hst, K6, B6⟩ := row_made msR_ok ⟨m0, hmi⟩ W0 ZC 58 (by rw [HZC.out]; exact hZ.out)
  change (storeCells ⟨W0.heap.size, 0, none⟩ (msL m0)).run Tryd.prog (W0.alloc (.cells ZC 58)) = .ok () ((W0.alloc (.cells ZC 58)).setCells W0.heap.size 0 (msL m0)) at hst
  change Bk ((W0.alloc (.cells ZC 58)).setCells W0.heap.size 0 (msL m0)) W0.heap.size 58 (msL m0).toArray at K6
  change Below W0.heap.size W0 ((W0.alloc (.cells ZC 58)).setCells W0.heap.size 0 (msL m0)) at B6
  have hbd : Tryd.zeroCells58.setIfInBounds 0 (.int .i64 7) = (msL m0).toArray := by rw [msz, hm0]; exact ms_kd ms0 7
  obtain ⟨PL, hPL⟩ : ∃ PL, PL = msL m0 := ⟨_, rfl⟩
  have HPL := Lib.hid hPL
  have hpl : PL.length = 106 := by rw [hPL]; exact msL_len hmi
  rw [← hPL] at hst K6 B6 hbd
  have hW1 := below_step HW0.out HW0.out.size B6
  have K41 := K4.keep B6
  have HX1 := Lib.hid (show Below w.heap.size w ((W0.alloc (.cells ZC 58)).setCells W0.heap.size 0 PL) ∧ Bk ((W0.alloc (.cells ZC 58)).setCells W0.heap.size 0 PL) g4 58 ZC from ⟨hW1, K41⟩)
  rw [HZE.out] at hst HX1 K6
  have hn46 : g4 ≠ W0.heap.size := by have := K4.lt; omega
  clear hm0 hPL K4 K41 B6 hW1 hW0
  go_upto_region 2 with fail
  rw [← HZE.out] at HX1 K6 ⊢
  refine wp_any (fun W => Below w.heap.size w W ∧ Bk W g4 58 ZC ∧ Bk W W0.heap.size 58 PL.toArray) ⟨HX1.out.1, HX1.out.2, K6⟩ ?_
  clear HX1 K6 hst hbd hpl
  have HL4 : Hid (w.heap.size ≤ g4) := by show _ ≤ _; rw [HG4.out]; exact Nat.le_refl _
  have hg6 : w.heap.size ≤ W0.heap.size := HW0.out.size
  have HG6 := Lib.hid hg6
  generalize W0.heap.size = g6 at *
  clear HW0 W0 hg6
  rintro W1 ⟨hW1, K4, K6⟩
  have K6 : Bk W1 g6 58 (msL m0).toArray := by rw [← HPL.out]; exact K6
  have HC := Lib.hid (readblock_any s n c xs W1 ((HB.out.keep hW1 (Nat.le_refl _)).mono hW1.size))
  have HW1 := Lib.hid hW1
  clear hW1
  go_wp2_with fail
  refine HC.out.mono ?_
  rintro e1 W2 ⟨b, rfl, B1, hs, hm, hbad⟩
  have K4 := K4.keep B1
  have K6 := K6.keep B1
  have HW2 := Lib.hid (below_step HW1.out HW1.out.size B1)
  have HSY := Lib.hid hs
  have hbl : (blkL b).length = 69 := blkL_len hm.1
  have HBL := Lib.hid hbl
  have HBM := Lib.hid (hm.lower HW1.out.size)
  have hbo : (blkL b).toArray.all (·.oneCell') = true := blk_ones b
  have HS6 : Hid ((msL m0).toArray.size = 106) := msL_len hmi
  clear B1 hs hm hbad HC
  go_upto_region 5 with (refine wpList_store_mid rfl 56 (.tmp 20) (.tmp 18) rfl g6 37 (blkL b).toArray rfl rfl (by rw [List.size_toArray, HBL.out]; exact there_at K6 37 69 (by rw [HS6.out]; decide)) (by rw [List.size_toArray, HBL.out]; exact blk_infos) hbo ?_)
  have hbt : But (fun k => k = g6) W2 (W2.setCells g6 37 (blkL b).toArray.toList) := But.setCells (S := fun k => k = g6) rfl _ _ _ (But.refl _ _)
  refine wp_any (fun W' => Below w.heap.size w W' ∧ Bk W' g4 58 ZC ∧ Bk W' g6 58 (msL { m0 with bk := b }).toArray ∧ MineB W' w.heap.size b) ⟨Below.setCells HG6.out _ _ _ HW2.out, rowFar K4 hn46 _ _, by
    have h := Bk.ovr_ (w := W2) (blkL b) 37 W2 _ K6
    rw [ms_bk m0 b hmi HBM.out.1] at h
    exact h, HBM.out.but' hbt K6⟩ ?_
  clear HBM K4 K6 hbt hbo hbl HW2
  rintro W4 ⟨hW4, K4, K6, hM⟩
  have HWE := Lib.hid hW4
  obtain ⟨mm, hmm⟩ : ∃ mm, mm = ({ m0 with bk := b } : MsM) := ⟨_, rfl⟩
  have HPC : Hid (∀ W', But (fun k => k = g4) W4 W' → MineMs W' w.heap.size mm) := fun W' h => by
    rw [hmm, HM0.out]
    exact ⟨⟨show (-9223372036854775808 : Int) ≤ 7 ∧ (7 : Int) ≤ 9223372036854775807 by decide, show (0 : Nat) < 18446744073709551616 by decide, show (0 : Nat) < 4294967296 by decide, hM.1⟩, mine_none, mine_nonh, hM.but' h K4⟩
  have HSY2 : Hid (code7 xs = 0 → BlkSays xs mm.bk) := by rw [hmm]; exact HSY.out
  have HFX : Hid (mm.kd = 7 ∧ mm.nm = [] ∧ mm.hd = [] ∧ mm.nc = 0 ∧ mm.ht = 0 ∧ mm.st.1 = zeros 32) := by rw [hmm, HM0.out]; exact ⟨rfl, rfl, rfl, rfl, rfl, rfl⟩
  rw [← hmm] at K6
  have HMI : Hid (IsHd mm.bk.hd) := by rw [hmm]; exact hM.1
  have HK4 := Lib.hid K4
  have HSZ : Hid ((msL mm).toArray.size = 106) := msL_len HMI.out
  have HON : Hid ((msL mm).toArray.all (·.oneCell') = true) := all_oneCell_toArray (msL_one mm)
  have HZS : Hid (ZC.size = 106) := by show ZC.size = 106; rw [HZC.out]; exact hZ.out
  clear hmm K4 hW4 hM
  obtain ⟨MA, hMA⟩ : ∃ MA, MA = (msL mm).toArray := ⟨_, rfl⟩
  rw [← hMA] at K6 HSZ HON
  have HMA := Lib.hid hMA
  clear hMA
  go_wp2_with (first | (refine wpList_load_row rfl 58 (.tmp 6) rfl g6 rfl 58 MA (0, 0) _ K6 Tryd.underlying58 rfl (by rw [HSZ.out]; exact msi_r) ?_) | (refine wpList_store_mid rfl 58 (.tmp 4) (.tmp 21) rfl g4 0 MA rfl rfl (by rw [HSZ.out]; exact HK4.out.there 106 (by rw [HZS.out]; exact Nat.le_refl _)) (by rw [HSZ.out]; exact msi_r) HON.out ?_))
  exact ms_ret (g := g4) (A := MA) rfl rfl rfl rfl HSZ.out (HK4.out.setAll (HSZ.out.trans HZS.out.symm)) ⟨mm, (by rw [← HMA.out]; rfl), Below.setCells HL4.out _ _ _ HWE.out, HSY2.out, HPC.out _ (But.setCells (S := fun k => k = g4) rfl _ _ _ (But.refl _ _)), HFX.out⟩
theorem mreadk_any (k : Nat) (hk : 1 ≤ k ∧ k ≤ 10) (s : Option Addr) (n c : Nat) (xs : List Nat) (w : World) (hb : BsV w w.heap.size (.slice s n c) xs) (hl : xs.length ≤ 900000) :
    Calls Tryd.prog 59 #[.int .i64 (k : Int), .slice s n c] w fun r w' => ∃ m, r = .returned (.tuple #[.agg (msL m).toArray, .int .i64 ((codeK k xs : Nat) : Int)]) ∧ Below w.heap.size w w' ∧ (codeK k xs = 0 → DecSays k xs m) ∧ MineMs w' w.heap.size m ∧ m.kd = (k : Int) := by
  by_cases h : k = 7
  · subst h
    refine (mread7_any s n c xs w hb).mono ?_
    rintro r w' ⟨m, rfl, h1, h2, h3, h4, h5⟩
    exact ⟨m, rfl, h1, fun h => by unfold DecSays; rw [if_pos rfl]; exact ⟨h2 h, h5⟩, h3, h4⟩
  · refine (mread_any k ⟨hk.1, hk.2, h⟩ s n c xs w hb hl).mono ?_
    rintro r w' ⟨m, rfl, h1, h2, h3⟩
    unfold codeK
    rw [if_neg h]
    exact ⟨m, rfl, h1, fun _ => by unfold DecSays; rw [if_neg h]; exact h2, h3, h2.1⟩
def decE (wd da : List Nat) : Nat := if kindN wd = 0 then 90 else codeK (kindN wd) da
set_option maxHeartbeats 16000000 in
theorem mdecode_any (wd da : List Nat) (s : Option Addr) (n c : Nat) (w : World) (hL : LaidM w) (hwx : ∀ x ∈ wd, x < 256) (hb : BsV w w.heap.size (.slice s n c) da) (hl : da.length ≤ 900000) :
    Calls Tryd.prog 34 #[.agg #[.string (strN wd), .slice s n c]] w fun r w' => ∃ m, r = .returned (.tuple #[.agg (msL m).toArray, .int .i64 ((decE wd da : Nat) : Int)]) ∧ Below w.heap.size w w' ∧ (decE wd da = 0 → m.kd = (kindN wd : Int) ∧ DecSays (kindN wd) da m) ∧ (decE wd da ≠ 0 → m = ms0) ∧ MineMs w' w.heap.size m := by
  have HKC : Hid (∀ W, Below w.heap.size w W → Calls Tryd.prog 58 #[.string (strN wd)] W fun r w' => r = .returned (.int .i64 ((kindN wd : Nat) : Int)) ∧ Below W.heap.size W w') := fun W h => mkind_any wd W (hL.below h hL.size) hwx
  have HB := Lib.hid hb
  have HLE := Lib.hid hl
  obtain ⟨k, hk⟩ : ∃ k, k = kindN wd := ⟨_, rfl⟩
  have HKK := Lib.hid hk
  have hk10 : k ≤ 10 := by rw [hk]; exact kindN_le wd
  rw [← hk] at HKC
  obtain ⟨u, hu⟩ : ∃ u, u = strN wd := ⟨_, rfl⟩
  rw [← hu] at HKC ⊢
  clear hb hl hL hk hu
  have HZS : Hid (Tryd.zeroCells58.size = 106) := by show _ = _; rw [msz]; exact msL_len hd0_is
  have HZ0 : Hid (Tryd.zeroCells58 = (msL ms0).toArray) := msz
  have HZO : Hid (Tryd.zeroCells58.all (·.oneCell') = true) := by show _ = _; rw [msz]; exact all_oneCell_toArray (msL_one ms0)
  obtain ⟨ZC, hZC⟩ : ∃ Z, Z = Tryd.zeroCells58 := ⟨_, rfl⟩
  have HZE := Lib.hid hZC
  clear hZC
  go_enter Tryd.func34, Tryd.ntmps34
  go_upto_region 1 with fail
  rw [← HZE.out] at HZS HZ0 HZO ⊢
  refine wp_any (fun W => Below w.heap.size w W ∧ Bk W w.heap.size 93 #[.string u, .slice s n c] ∧ Bk W (w.heap.size + 1) 58 ZC) ⟨((Below.refl _ _).alloc (Nat.le_refl _) _).alloc (by simp) _, (Bk.new _ _ _).alloc _, Bk.new' _ _ _ (by simp)⟩ ?_
  obtain ⟨g1, hg1⟩ : ∃ g1, g1 = w.heap.size := ⟨_, rfl⟩
  obtain ⟨g2, hg2⟩ : ∃ g2, g2 = w.heap.size + 1 := ⟨_, rfl⟩
  have HG := Lib.hid (show g1 = w.heap.size ∧ g2 = w.heap.size + 1 from ⟨hg1, hg2⟩)
  rintro W ⟨hW, K1, K2⟩
  rw [← hg1] at K1
  rw [← hg2] at K2
  rw [← hg2]
  rw [show (some ⟨w.heap.size, 0, none⟩ : Option Addr) = some ⟨g1, 0, none⟩ by rw [hg1]]
  have HW := Lib.hid hW
  have HC := Lib.hid (HKC.out W hW)
  have c0 := K1.cell 0
  have z1 := K1.lt
  have HL2 : Hid (w.heap.size ≤ g2) := by show _ ≤ _; omega
  clear hg1 hg2 hW HKC
  go_wp2_with fail
  refine HC.out.mono ?_
  rintro e W1 ⟨rfl, hb1⟩
  have K1 := K1.keep hb1
  have K2 := K2.keep hb1
  have HW1 := Lib.hid (below_step HW.out HW.out.size hb1)
  have c1 := K1.cell 1
  have z1 := K1.lt
  have HK2 := Lib.hid K2
  clear hb1 HC c0 K1 K2
  by_cases h0 : k = 0
  · have d0 : (((k : Nat) : Int) == 0) = true := by rw [h0]; rfl
    have HE : Hid (decE wd da = 90) := by show _ = _; unfold decE; rw [← HKK.out, if_pos h0]
    have hzc : Tryd.zeroCells58 = ZC := HZE.out.symm
    clear h0
    go_wp2_with (first | (refine wpList_store_mid rfl 58 (.tmp 2) (.tmp 12) rfl g2 0 ZC rfl rfl (by rw [HZS.out]; exact HK2.out.there 106 (by rw [HZS.out]; exact Nat.le_refl _)) (by rw [HZS.out]; exact msi_r) HZO.out ?_))
    exact ms_ret (g := g2) (A := ZC) rfl rfl rfl rfl HZS.out (HK2.out.setAll rfl) ⟨ms0, (by rw [HE.out, HZ0.out]; rfl), Below.setCells HL2.out _ _ _ HW1.out, fun h => by rw [HE.out] at h; exact absurd h (by decide), fun _ => rfl, mine_ms0⟩
  · have d0 : (((k : Nat) : Int) == 0) = false := by simp; omega
    have hE : decE wd da = codeK k da := by unfold decE; rw [← HKK.out, if_neg h0]
    have HRD := Lib.hid (mreadk_any k (by omega) s n c da W1 ((HB.out.keep HW1.out (Nat.le_refl _)).mono HW1.out.size) HLE.out)
    obtain ⟨e0, he0⟩ : ∃ e, e = codeK k da := ⟨_, rfl⟩
    rw [← he0] at HRD hE
    have HE := Lib.hid hE
    clear h0 hE he0
    go_wp2_with fail
    refine HRD.out.mono ?_
    rintro e W2 ⟨m, rfl, hb2, hs, hm, hmk⟩
    have hmi := hm.1.2.2.2
    have HK2 := Lib.hid (HK2.out.keep hb2)
    have HW2 := Lib.hid (below_step HW1.out HW1.out.size hb2)
    have HMS := Lib.hid (hm.lower HW1.out.size)
    have HDS := Lib.hid (show (e0 = 0 → DecSays k da m) ∧ m.kd = (k : Int) from ⟨hs, hmk⟩)
    obtain ⟨hst, K5, B5⟩ := row_made msR_ok ⟨m, hmi⟩ W2 ZC 58 HZS.out
    change (storeCells ⟨W2.heap.size, 0, none⟩ (msL m)).run Tryd.prog (W2.alloc (.cells ZC 58)) = .ok () ((W2.alloc (.cells ZC 58)).setCells W2.heap.size 0 (msL m)) at hst
    change Bk ((W2.alloc (.cells ZC 58)).setCells W2.heap.size 0 (msL m)) W2.heap.size 58 (msL m).toArray at K5
    change Below W2.heap.size W2 ((W2.alloc (.cells ZC 58)).setCells W2.heap.size 0 (msL m)) at B5
    have hpl : (msL m).length = 106 := msL_len hmi
    have HON : Hid ((msL m).toArray.all (·.oneCell') = true) := all_oneCell_toArray (msL_one m)
    obtain ⟨PL, hPL⟩ : ∃ PL, PL = msL m := ⟨_, rfl⟩
    have HPL := Lib.hid hPL
    rw [← hPL] at hst K5 B5 hpl HON ⊢
    have HX := Lib.hid (show Below w.heap.size w ((W2.alloc (.cells ZC 58)).setCells W2.heap.size 0 PL) ∧ Bk ((W2.alloc (.cells ZC 58)).setCells W2.heap.size 0 PL) g2 58 ZC ∧ Bk ((W2.alloc (.cells ZC 58)).setCells W2.heap.size 0 PL) W2.heap.size 58 PL.toArray ∧ MineMs ((W2.alloc (.cells ZC 58)).setCells W2.heap.size 0 PL) w.heap.size m from ⟨below_step HW2.out HW2.out.size B5, HK2.out.keep B5, K5, HMS.out.keep B5⟩)
    rw [HZE.out] at hst
    clear hb2 hs hm hmk hPL K5 B5 HRD HMS HK2
    go_upto_region 5 with fail
    rw [← HZE.out]
    refine wp_any (fun W => Below w.heap.size w W ∧ Bk W g2 58 ZC ∧ Bk W W2.heap.size 58 PL.toArray ∧ MineMs W w.heap.size m) HX.out ?_
    clear HX hst c1 z1
    generalize W2.heap.size = g5 at *
    rintro W3 ⟨hW3, K2, K5, hM3⟩
    have HW3 := Lib.hid hW3
    have HK2 := Lib.hid K2
    have HM3 := Lib.hid hM3
    have HSP : Hid (PL.toArray.size = 106) := hpl
    clear hW3 hM3 K2
    by_cases h0 : e0 = 0
    · have d1 : (((e0 : Nat) : Int) != 0) = false := by rw [h0]; rfl
      have H0 := Lib.hid h0
      clear h0 hpl
      go_wp2_with (first | (refine wpList_load_row rfl 58 (.tmp 5) rfl g5 rfl 58 PL.toArray (0, 0) _ K5 Tryd.underlying58 rfl (by rw [HSP.out]; exact msi_r) ?_) | (refine wpList_store_mid rfl 58 (.tmp 2) (.tmp 24) rfl g2 0 PL.toArray rfl rfl (by rw [HSP.out]; exact HK2.out.there 106 (by rw [HZS.out]; exact Nat.le_refl _)) (by rw [HSP.out]; exact msi_r) HON.out ?_))
      exact ms_ret (g := g2) (A := PL.toArray) rfl rfl rfl rfl HSP.out (HK2.out.setAll (HSP.out.trans HZS.out.symm)) ⟨m, (by rw [HE.out, H0.out, HPL.out]; rfl), Below.setCells HL2.out _ _ _ HW3.out, fun _ => by rw [← HKK.out]; exact ⟨HDS.out.2, HDS.out.1 H0.out⟩, fun h => absurd (HE.out.trans H0.out) h, HM3.out.but' (But.setCells (S := fun k => k = g2) rfl _ _ _ (But.refl _ _)) HK2.out⟩
    · have d1 : (((e0 : Nat) : Int) != 0) = true := by simp; omega
      have H0 := Lib.hid h0
      have hzc : Tryd.zeroCells58 = ZC := HZE.out.symm
      clear h0 hpl
      go_wp2_with (refine wpList_store_mid rfl 58 (.tmp 2) (.tmp 22) rfl g2 0 ZC rfl rfl (by rw [HZS.out]; exact HK2.out.there 106 (by rw [HZS.out]; exact Nat.le_refl _)) (by rw [HZS.out]; exact msi_r) HZO.out ?_)
      exact ms_ret (g := g2) (A := ZC) rfl rfl rfl rfl HZS.out (HK2.out.setAll rfl) ⟨ms0, (by rw [HE.out, HZ0.out]; rfl), Below.setCells HL2.out _ _ _ HW3.out, fun h => absurd (HE.out.symm.trans h) H0.out, fun _ => rfl, mine_ms0⟩
end Go.Proofs.YtkpffjcdalclmaaDoor
namespace Go.Proofs.YtkpffjcdalclmaaDoor
open Go.RowKit
set_option linter.unusedVariables false
set_option linter.unusedSimpArgs false
set_option maxRecDepth 100000
def d9 : List Nat := [7, 0, 0, 0, 0, 0, 0, 0]
end Go.Proofs.YtkpffjcdalclmaaDoor
namespace Go.Proofs.YtkpffjcdalclmaaDoor
open Go.RowKit
set_option linter.unusedVariables false
set_option linter.unusedSimpArgs false
set_option maxRecDepth 100000
end Go.Proofs.YtkpffjcdalclmaaDoor
