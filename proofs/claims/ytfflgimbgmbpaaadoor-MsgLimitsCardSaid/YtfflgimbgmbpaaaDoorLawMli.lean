/-
  What is proved: for every two whole numbers the law MsgLimits returns true, and its arguments read behind the call as they read before it; the three listed tables, two of package hash and one of package msg, are taken to hold what the program's text lays in them, and the card ties them to it.
-/
import Derived.Test.YtfflgimbgmbpaaaDoorMsY
import Derived.Test.YtfflgimbgmbpaaaDoorTie
import Derived.Test.YtfflgimbgmbpaaaDoorCards
import Derived.Stop.Joined
import Derived.Deep.RegionHeld
namespace Go.Proofs.YtfflgimbgmbpaaaDoor.msgLimits
open Go.ChangeShapes Go.WideShapes Go.ChangeAt Go.RowKit
set_option linter.unusedVariables false

theorem own : ownKnob Tryd.prog.godebug = none := by kernel_rfl
theorem laidOut : laidOutB Tryd.prog = true := by kernel_rfl
theorem wf_i64 {z : Int} (h : (Lit.int .i64 z).wf = true) : -9223372036854775808 ≤ z ∧ z ≤ 9223372036854775807 := by
  simp [Lit.wf, IntKind.min, IntKind.max, IntKind.signed, IntKind.bits] at h
  omega
set_option maxRecDepth 100000
set_option linter.unusedSimpArgs false
def mL (k : Int) (n a b : Nat) : MsM := { ms0 with kd := k, ns := some ⟨a, 0, none⟩, cn := n, nm := List.replicate n i0, hs := some ⟨b, 0, none⟩, ch := n, hd := List.replicate n hdi0 }
theorem mL_cells (k : Int) (n a b : Nat) : ((Tryd.zeroCells63.setIfInBounds 0 (.int .i64 k)).setIfInBounds 3 (.slice (some ⟨a, 0, none⟩) n n)).setIfInBounds 36 (.slice (some ⟨b, 0, none⟩) n n) = (msL (mL k n a b)).toArray := by
  rw [msz, ms_kd]
  have h1 := ms_nm { ms0 with kd := k } (some ⟨a, 0, none⟩) n (List.replicate n i0)
  rw [List.length_replicate] at h1
  rw [h1]
  have h2 := ms_hd { ms0 with kd := k, ns := some ⟨a, 0, none⟩, cn := n, nm := List.replicate n i0 } (some ⟨b, 0, none⟩) n (List.replicate n hdi0)
  rw [List.length_replicate] at h2
  rw [h2]
  rfl
def IDS (n : Nat) : Array Value := (idR.flat (List.replicate n idR.z)).toArray
def HDS (n : Nat) : Array Value := (hdR.flat (List.replicate n hdR.z)).toArray
theorem run_mk {α : Type} {R : RowT α} (h : R.Ok) (w : World) (m : Nat) (hm : m ≤ 1000000) :
    (Instr.makeSlice R.t (.int .i64 (m : Int)) (.int .i64 (m : Int))).run Tryd.prog w = .ok (.slice (some ⟨w.heap.size, 0, none⟩) m m) (w.alloc (.cells (R.flat (List.replicate m R.z)).toArray R.e)) := by
  obtain ⟨i, zv, hi, hz, hs, hby, hzc⟩ := h.info
  have hb := h.bys
  have hle : m * R.by_ ≤ 1000000 * 4096 := Nat.mul_le_mul hm hb
  have h1 := run_make (P := Tryd.prog) w R.t R.e i _ h.ht hi hz .i64 .i64 (m : Int) (m : Int) (by omega) (by omega) (by
    rw [hby]
    have e : ((R.by_ : Nat) : Int) * (m : Int) = ((m * R.by_ : Nat) : Int) := by rw [Int.natCast_mul, Int.mul_comm]
    rw [e]
    omega) (by omega)
  have hcs : zv.cells.size = R.k := by rw [hzc, List.size_toArray, h.len]
  have e : madeCells zv.cells (m * R.k) = (R.flat (List.replicate m R.z)).toArray := by rw [← hcs]; exact zero_rows h zv hzc m
  rw [Int.toNat_natCast, hs, e] at h1
  exact h1
theorem mL_v (k : Int) (n a b : Nat) (W : World) (hn : n ≤ 70) (hk : 0 ≤ k ∧ k ≤ 10) (ha : Bk W a 24 (IDS n)) (hb : Bk W b 26 (HDS n)) : MsV W W.heap.size (mL k n a b) := by
  refine ⟨⟨by show -9223372036854775808 ≤ k ∧ k ≤ 9223372036854775807; omega, show (0 : Nat) < 18446744073709551616 by decide, show (0 : Nat) < 4294967296 by decide, hd0_is⟩, ?_, ?_, hd0_is, ⟨none, 0, rfl, Nat.le_refl _, by decide, fun h => absurd rfl h⟩, fun t ht => by cases ht⟩
  · have h := row_built idR_ok (L := List.replicate n idR.z) ha (n := n) (by rw [List.length_replicate]) (by omega)
    show RowV idR W W.heap.size (.slice (some ⟨a, 0, none⟩) (List.replicate n i0).length n) _
    rw [List.length_replicate]
    exact h
  · have h := row_built hdR_ok (L := List.replicate n hdR.z) hb (n := n) (by rw [List.length_replicate]) (by omega)
    show RowV hdR W W.heap.size (.slice (some ⟨b, 0, none⟩) (List.replicate n hdi0).length n) _
    rw [List.length_replicate]
    exact h
def EncLim (n most : Nat) (W : World) (r : Ending) (w' : World) : Prop := ∃ (s : Option Addr) (l c : Nat), r = .returned (.tuple #[.slice s l c, .int .i64 (if n ≤ most then 0 else 2)]) ∧ Below W.heap.size W w' ∧ (n ≤ most → 0 < l) ∧ (¬ n ≤ most → l = 0)
theorem enc_lim (k : Int) (n most a b : Nat) (W : World) (hn : n ≤ 70) (hk : ((k = 3 ∨ k = 4) ∧ most = 32) ∨ ((k = 5 ∨ k = 6 ∨ k = 8) ∧ most = 64)) (ha : Bk W a 24 (IDS n)) (hb : Bk W b 26 (HDS n)) (hL : LaidM W) :
    Calls Tryd.prog 23 #[.agg (((Tryd.zeroCells63.setIfInBounds 0 (.int .i64 k)).setIfInBounds 3 (.slice (some ⟨a, 0, none⟩) n n)).setIfInBounds 36 (.slice (some ⟨b, 0, none⟩) n n))] W (EncLim n most W) := by
  rw [mL_cells]
  refine (mencode_any (mL k n a b) W (mL_v k n a b W hn (by omega) ha hb) ⟨by show (List.replicate n i0).length ≤ 100; rw [List.length_replicate]; omega, by show (List.replicate n hdi0).length ≤ 100; rw [List.length_replicate]; omega, Nat.zero_le _, fun t ht => by cases ht⟩ hL).mono ?_
  rintro r w' ⟨v', rfl, hbel, h1, h2⟩
  have hlong : MsLong (mL k n a b) ↔ ¬ n ≤ most := by
    unfold MsLong
    show ((k = 3 ∧ 32 < (List.replicate n i0).length) ∨ (k = 4 ∧ 32 < (List.replicate n hdi0).length) ∨ ((k = 5 ∨ k = 6 ∨ k = 8) ∧ 64 < (List.replicate n i0).length) ∨ (k = 7 ∧ _)) ↔ _
    rw [List.length_replicate, List.length_replicate]
    constructor
    · rintro (h | h | h | h) <;> omega
    · intro h
      rcases hk with ⟨h3 | h3, _⟩ | ⟨h3, _⟩
      · exact .inl ⟨h3, by omega⟩
      · exact .inr (.inl ⟨h3, by omega⟩)
      · exact .inr (.inr (.inl ⟨h3, by omega⟩))
  have hkd : ¬ ((mL k n a b).kd < 1 ∨ 10 < (mL k n a b).kd) := by show ¬ (k < 1 ∨ 10 < k); omega
  by_cases h : n ≤ most
  · have he : msE (mL k n a b) = 0 := msE_ok hkd (fun hc => (hlong.1 hc) h)
    have hM := h1 he
    obtain ⟨s, c, rfl⟩ := hM.slice
    rw [he]
    refine ⟨s, _, c, by rw [if_pos h]; rfl, hbel, fun _ => ?_, fun hc => absurd h hc⟩
    rw [encL_len _ _ (Nat.le_trans (kind_len _) (by decide))]
    omega
  · have he : msE (mL k n a b) = 2 := msE_long hkd (hlong.2 h)
    have hv := h2 (by rw [he]; decide)
    subst hv
    rw [he]
    exact ⟨none, 0, 0, by rw [if_neg h]; rfl, hbel, fun hc => absurd hc h, fun _ => rfl⟩
set_option maxHeartbeats 8000000 in
theorem walk (kd z : Int) (w : World) (hL : LaidM w) (hk : -9223372036854775808 ≤ kd ∧ kd ≤ 9223372036854775807) (hz : -9223372036854775808 ≤ z ∧ z ≤ 9223372036854775807) :
    Calls Tryd.prog 4 #[.int .i64 kd, .int .i64 z] w fun e w' => e = .returned (.bool true) ∧ Below w.heap.size w w' := by
  have HL := Lib.hid hL
  have HSY := Lib.hid (says_any w hL)
  clear hL hk hz
  go_enter Tryd.func4, Tryd.ntmps4
  go_wp2_with fail
  refine HSY.out.mono ?_
  rintro e w1 ⟨rfl, hb1⟩
  have HW1 := Lib.hid hb1
  clear hb1 HSY
  by_cases h1 : z < 0
  · have d1 : decide (z < 0) = true := decide_eq_true h1
    clear h1
    go_wp2_with fail
    go_ret
    exact ⟨rfl, HW1.out⟩
  have d1 : decide (z < 0) = false := decide_eq_false h1
  by_cases h2 : 70 < z
  · have d2 : decide (70 < z) = true := decide_eq_true h2
    clear h1 h2
    go_wp2_with fail
    go_ret
    exact ⟨rfl, HW1.out⟩
  have d2 : decide (70 < z) = false := decide_eq_false h2
  obtain ⟨n, rfl⟩ : ∃ n : Nat, z = (n : Int) := ⟨z.toNat, by omega⟩
  have HN : Hid (n ≤ 70) := by show n ≤ 70; omega
  have HL1 := Lib.hid (HL.out.keep HW1.out)
  have HEC : Hid (∀ most a b W, Below w1.heap.size w1 W → (((kd = 3 ∨ kd = 4) ∧ most = 32) ∨ ((kd = 5 ∨ kd = 6 ∨ kd = 8) ∧ most = 64)) → Bk W a 24 (IDS n) → Bk W b 26 (HDS n) → Calls Tryd.prog 23 #[.agg (((Tryd.zeroCells63.setIfInBounds 0 (.int .i64 kd)).setIfInBounds 3 (.slice (some ⟨a, 0, none⟩) n n)).setIfInBounds 36 (.slice (some ⟨b, 0, none⟩) n n))] W (EncLim n most W)) := fun most a b W h hk ha hb => enc_lim kd n most a b W HN.out hk ha hb (HL1.out.keep h)
  clear h1 h2
  by_cases hks : kd = 3 ∨ kd = 4 ∨ kd = 5 ∨ kd = 6 ∨ kd = 8
  · rcases hks with rfl | rfl | rfl | rfl | rfl
    · have HE : Hid (∀ a b W, Below w1.heap.size w1 W → Bk W a 24 (IDS n) → Bk W b 26 (HDS n) → Calls Tryd.prog 23 #[.agg (((Tryd.zeroCells63.setIfInBounds 0 (.int .i64 3)).setIfInBounds 3 (.slice (some ⟨a, 0, none⟩) n n)).setIfInBounds 36 (.slice (some ⟨b, 0, none⟩) n n))] W (EncLim n 32 W)) := fun a b W h1 ha hb => HEC.out 32 a b W h1 (by decide) ha hb
      have hm1 : ∀ w' : World, (Instr.makeSlice 43 (.int .i64 (n : Int)) (.int .i64 (n : Int))).run Tryd.prog w' = .ok (.slice (some ⟨w'.heap.size, 0, none⟩) n n) (w'.alloc (.cells (IDS n) 24)) := fun w' => run_mk idR_ok w' n (by have := HN.out; omega)
      have hm2 : ∀ w' : World, (Instr.makeSlice 60 (.int .i64 (n : Int)) (.int .i64 (n : Int))).run Tryd.prog w' = .ok (.slice (some ⟨w'.heap.size, 0, none⟩) n n) (w'.alloc (.cells (HDS n) 26)) := fun w' => run_mk hdR_ok w' n (by have := HN.out; omega)
      obtain ⟨I, hI⟩ : ∃ I, I = IDS n := ⟨_, rfl⟩
      obtain ⟨J, hJ⟩ : ∃ J, J = HDS n := ⟨_, rfl⟩
      rw [← hI, ← hJ] at HE
      rw [← hI] at hm1
      rw [← hJ] at hm2
      clear hI hJ HEC
      by_cases hm : n ≤ 32
      · have HE1 : Hid (Calls Tryd.prog 23 #[.agg (((Tryd.zeroCells63.setIfInBounds 0 (.int .i64 3)).setIfInBounds 3 (.slice (some ⟨w1.heap.size, 0, none⟩) n n)).setIfInBounds 36 (.slice (some ⟨w1.heap.size + 1, 0, none⟩) n n))] ((w1.alloc (.cells I 24)).alloc (.cells J 26)).drew fun r w' => ∃ (s : Option Addr) (l c : Nat), r = .returned (.tuple #[.slice s l c, .int .i64 0]) ∧ Below w1.heap.size w1 w' ∧ 0 < l) := by
          have hB : Below w1.heap.size w1 ((w1.alloc (.cells I 24)).alloc (.cells J 26)).drew := Below.drew (((Below.refl _ _).alloc (Nat.le_refl _) _).alloc (by simp) _)
          refine (HE.out w1.heap.size (w1.heap.size + 1) _ hB (((Bk.new w1 24 I).alloc _).drew) ((Bk.new' _ _ _ (by simp)).drew)).mono ?_
          rintro r w' ⟨s, l, c, rfl, h1, h2, h3⟩
          rw [if_pos hm]
          exact ⟨s, l, c, rfl, below_step hB hB.size h1, h2 hm⟩
        have HE2 : Hid (Calls Tryd.prog 23 #[.agg (((Tryd.zeroCells63.setIfInBounds 0 (.int .i64 3)).setIfInBounds 3 (.slice (some ⟨w1.heap.size + 1, 0, none⟩) n n)).setIfInBounds 36 (.slice (some ⟨w1.heap.size, 0, none⟩) n n))] ((w1.alloc (.cells J 26)).alloc (.cells I 24)).drew fun r w' => ∃ (s : Option Addr) (l c : Nat), r = .returned (.tuple #[.slice s l c, .int .i64 0]) ∧ Below w1.heap.size w1 w' ∧ 0 < l) := by
          have hB : Below w1.heap.size w1 ((w1.alloc (.cells J 26)).alloc (.cells I 24)).drew := Below.drew (((Below.refl _ _).alloc (Nat.le_refl _) _).alloc (by simp) _)
          refine (HE.out (w1.heap.size + 1) w1.heap.size _ hB ((Bk.new' _ _ _ (by simp)).drew) (((Bk.new w1 26 J).alloc _).drew)).mono ?_
          rintro r w' ⟨s, l, c, rfl, h1, h2, h3⟩
          rw [if_pos hm]
          exact ⟨s, l, c, rfl, below_step hB hB.size h1, h2 hm⟩
        have q1 : decide ((n : Int) ≤ (32 : Int)) = true := decide_eq_true (by omega)
        have q2 : decide (n ≤ 32) = true := decide_eq_true (by omega)
        clear hm HE
        go_upto_region 14 with fail
        refine wp_region_noPanic ?_
        go_region_held (fun w' => Below w1.heap.size w1 w')
          ((repeat' (first | with_reducible assumption | with_reducible exact Below.refl _ _ | with_reducible exact (Below.refl _ _).drew | with_reducible refine Below.drew ?_ | with_reducible refine Below.alloc ?_ ?_ _ | exact Nat.le_refl _ | exact Nat.le_succ _ | (simp; done))))
          (first
            | (go_at_call 23
               first
                 | (with_reducible refine HE1.out.mono ?_)
                 | (with_reducible refine HE2.out.mono ?_)
               rintro e w6 ⟨s6, l6, c6, rfl, hb6, hl6⟩))
        all_goals (
          refine NoPanic.normal ?_
          have HB6 := Lib.hid (HW1.out.trans (hb6.mono HW1.out.size))
          have q3 : decide ((0 : Int) < (l6 : Int)) = true := decide_eq_true (by omega)
          have q4 : decide (0 < l6) = true := decide_eq_true hl6
          clear hb6 hl6
          go_wp2_with fail
          go_ret
          exact ⟨rfl, HB6.out⟩)
      · have HE1 : Hid (Calls Tryd.prog 23 #[.agg (((Tryd.zeroCells63.setIfInBounds 0 (.int .i64 3)).setIfInBounds 3 (.slice (some ⟨w1.heap.size, 0, none⟩) n n)).setIfInBounds 36 (.slice (some ⟨w1.heap.size + 1, 0, none⟩) n n))] ((w1.alloc (.cells I 24)).alloc (.cells J 26)).drew fun r w' => ∃ (s : Option Addr) (l c : Nat), r = .returned (.tuple #[.slice s l c, .int .i64 2]) ∧ Below w1.heap.size w1 w' ∧ l = 0) := by
          have hB : Below w1.heap.size w1 ((w1.alloc (.cells I 24)).alloc (.cells J 26)).drew := Below.drew (((Below.refl _ _).alloc (Nat.le_refl _) _).alloc (by simp) _)
          refine (HE.out w1.heap.size (w1.heap.size + 1) _ hB (((Bk.new w1 24 I).alloc _).drew) ((Bk.new' _ _ _ (by simp)).drew)).mono ?_
          rintro r w' ⟨s, l, c, rfl, h1, h2, h3⟩
          rw [if_neg hm]
          exact ⟨s, l, c, rfl, below_step hB hB.size h1, h3 hm⟩
        have HE2 : Hid (Calls Tryd.prog 23 #[.agg (((Tryd.zeroCells63.setIfInBounds 0 (.int .i64 3)).setIfInBounds 3 (.slice (some ⟨w1.heap.size + 1, 0, none⟩) n n)).setIfInBounds 36 (.slice (some ⟨w1.heap.size, 0, none⟩) n n))] ((w1.alloc (.cells J 26)).alloc (.cells I 24)).drew fun r w' => ∃ (s : Option Addr) (l c : Nat), r = .returned (.tuple #[.slice s l c, .int .i64 2]) ∧ Below w1.heap.size w1 w' ∧ l = 0) := by
          have hB : Below w1.heap.size w1 ((w1.alloc (.cells J 26)).alloc (.cells I 24)).drew := Below.drew (((Below.refl _ _).alloc (Nat.le_refl _) _).alloc (by simp) _)
          refine (HE.out (w1.heap.size + 1) w1.heap.size _ hB ((Bk.new' _ _ _ (by simp)).drew) (((Bk.new w1 26 J).alloc _).drew)).mono ?_
          rintro r w' ⟨s, l, c, rfl, h1, h2, h3⟩
          rw [if_neg hm]
          exact ⟨s, l, c, rfl, below_step hB hB.size h1, h3 hm⟩
        have q1 : decide ((n : Int) ≤ (32 : Int)) = false := decide_eq_false (by omega)
        have q2 : decide (n ≤ 32) = false := decide_eq_false (by omega)
        clear hm HE
        go_upto_region 14 with fail
        refine wp_region_noPanic ?_
        go_region_held (fun w' => Below w1.heap.size w1 w')
          ((repeat' (first | with_reducible assumption | with_reducible exact Below.refl _ _ | with_reducible exact (Below.refl _ _).drew | with_reducible refine Below.drew ?_ | with_reducible refine Below.alloc ?_ ?_ _ | exact Nat.le_refl _ | exact Nat.le_succ _ | (simp; done))))
          (first
            | (go_at_call 23
               first
                 | (with_reducible refine HE1.out.mono ?_)
                 | (with_reducible refine HE2.out.mono ?_)
               rintro e w6 ⟨s6, l6, c6, rfl, hb6, hl6⟩))
        all_goals (
          refine NoPanic.normal ?_
          have HB6 := Lib.hid (HW1.out.trans (hb6.mono HW1.out.size))
          subst hl6
          clear hb6
          go_wp2_with fail
          go_ret
          exact ⟨rfl, HB6.out⟩)
    · have HE : Hid (∀ a b W, Below w1.heap.size w1 W → Bk W a 24 (IDS n) → Bk W b 26 (HDS n) → Calls Tryd.prog 23 #[.agg (((Tryd.zeroCells63.setIfInBounds 0 (.int .i64 4)).setIfInBounds 3 (.slice (some ⟨a, 0, none⟩) n n)).setIfInBounds 36 (.slice (some ⟨b, 0, none⟩) n n))] W (EncLim n 32 W)) := fun a b W h1 ha hb => HEC.out 32 a b W h1 (by decide) ha hb
      have hm1 : ∀ w' : World, (Instr.makeSlice 43 (.int .i64 (n : Int)) (.int .i64 (n : Int))).run Tryd.prog w' = .ok (.slice (some ⟨w'.heap.size, 0, none⟩) n n) (w'.alloc (.cells (IDS n) 24)) := fun w' => run_mk idR_ok w' n (by have := HN.out; omega)
      have hm2 : ∀ w' : World, (Instr.makeSlice 60 (.int .i64 (n : Int)) (.int .i64 (n : Int))).run Tryd.prog w' = .ok (.slice (some ⟨w'.heap.size, 0, none⟩) n n) (w'.alloc (.cells (HDS n) 26)) := fun w' => run_mk hdR_ok w' n (by have := HN.out; omega)
      obtain ⟨I, hI⟩ : ∃ I, I = IDS n := ⟨_, rfl⟩
      obtain ⟨J, hJ⟩ : ∃ J, J = HDS n := ⟨_, rfl⟩
      rw [← hI, ← hJ] at HE
      rw [← hI] at hm1
      rw [← hJ] at hm2
      clear hI hJ HEC
      by_cases hm : n ≤ 32
      · have HE1 : Hid (Calls Tryd.prog 23 #[.agg (((Tryd.zeroCells63.setIfInBounds 0 (.int .i64 4)).setIfInBounds 3 (.slice (some ⟨w1.heap.size, 0, none⟩) n n)).setIfInBounds 36 (.slice (some ⟨w1.heap.size + 1, 0, none⟩) n n))] ((w1.alloc (.cells I 24)).alloc (.cells J 26)).drew fun r w' => ∃ (s : Option Addr) (l c : Nat), r = .returned (.tuple #[.slice s l c, .int .i64 0]) ∧ Below w1.heap.size w1 w' ∧ 0 < l) := by
          have hB : Below w1.heap.size w1 ((w1.alloc (.cells I 24)).alloc (.cells J 26)).drew := Below.drew (((Below.refl _ _).alloc (Nat.le_refl _) _).alloc (by simp) _)
          refine (HE.out w1.heap.size (w1.heap.size + 1) _ hB (((Bk.new w1 24 I).alloc _).drew) ((Bk.new' _ _ _ (by simp)).drew)).mono ?_
          rintro r w' ⟨s, l, c, rfl, h1, h2, h3⟩
          rw [if_pos hm]
          exact ⟨s, l, c, rfl, below_step hB hB.size h1, h2 hm⟩
        have HE2 : Hid (Calls Tryd.prog 23 #[.agg (((Tryd.zeroCells63.setIfInBounds 0 (.int .i64 4)).setIfInBounds 3 (.slice (some ⟨w1.heap.size + 1, 0, none⟩) n n)).setIfInBounds 36 (.slice (some ⟨w1.heap.size, 0, none⟩) n n))] ((w1.alloc (.cells J 26)).alloc (.cells I 24)).drew fun r w' => ∃ (s : Option Addr) (l c : Nat), r = .returned (.tuple #[.slice s l c, .int .i64 0]) ∧ Below w1.heap.size w1 w' ∧ 0 < l) := by
          have hB : Below w1.heap.size w1 ((w1.alloc (.cells J 26)).alloc (.cells I 24)).drew := Below.drew (((Below.refl _ _).alloc (Nat.le_refl _) _).alloc (by simp) _)
          refine (HE.out (w1.heap.size + 1) w1.heap.size _ hB ((Bk.new' _ _ _ (by simp)).drew) (((Bk.new w1 26 J).alloc _).drew)).mono ?_
          rintro r w' ⟨s, l, c, rfl, h1, h2, h3⟩
          rw [if_pos hm]
          exact ⟨s, l, c, rfl, below_step hB hB.size h1, h2 hm⟩
        have q1 : decide ((n : Int) ≤ (32 : Int)) = true := decide_eq_true (by omega)
        have q2 : decide (n ≤ 32) = true := decide_eq_true (by omega)
        clear hm HE
        go_upto_region 14 with fail
        refine wp_region_noPanic ?_
        go_region_held (fun w' => Below w1.heap.size w1 w')
          ((repeat' (first | with_reducible assumption | with_reducible exact Below.refl _ _ | with_reducible exact (Below.refl _ _).drew | with_reducible refine Below.drew ?_ | with_reducible refine Below.alloc ?_ ?_ _ | exact Nat.le_refl _ | exact Nat.le_succ _ | (simp; done))))
          (first
            | (go_at_call 23
               first
                 | (with_reducible refine HE1.out.mono ?_)
                 | (with_reducible refine HE2.out.mono ?_)
               rintro e w6 ⟨s6, l6, c6, rfl, hb6, hl6⟩))
        all_goals (
          refine NoPanic.normal ?_
          have HB6 := Lib.hid (HW1.out.trans (hb6.mono HW1.out.size))
          have q3 : decide ((0 : Int) < (l6 : Int)) = true := decide_eq_true (by omega)
          have q4 : decide (0 < l6) = true := decide_eq_true hl6
          clear hb6 hl6
          go_wp2_with fail
          go_ret
          exact ⟨rfl, HB6.out⟩)
      · have HE1 : Hid (Calls Tryd.prog 23 #[.agg (((Tryd.zeroCells63.setIfInBounds 0 (.int .i64 4)).setIfInBounds 3 (.slice (some ⟨w1.heap.size, 0, none⟩) n n)).setIfInBounds 36 (.slice (some ⟨w1.heap.size + 1, 0, none⟩) n n))] ((w1.alloc (.cells I 24)).alloc (.cells J 26)).drew fun r w' => ∃ (s : Option Addr) (l c : Nat), r = .returned (.tuple #[.slice s l c, .int .i64 2]) ∧ Below w1.heap.size w1 w' ∧ l = 0) := by
          have hB : Below w1.heap.size w1 ((w1.alloc (.cells I 24)).alloc (.cells J 26)).drew := Below.drew (((Below.refl _ _).alloc (Nat.le_refl _) _).alloc (by simp) _)
          refine (HE.out w1.heap.size (w1.heap.size + 1) _ hB (((Bk.new w1 24 I).alloc _).drew) ((Bk.new' _ _ _ (by simp)).drew)).mono ?_
          rintro r w' ⟨s, l, c, rfl, h1, h2, h3⟩
          rw [if_neg hm]
          exact ⟨s, l, c, rfl, below_step hB hB.size h1, h3 hm⟩
        have HE2 : Hid (Calls Tryd.prog 23 #[.agg (((Tryd.zeroCells63.setIfInBounds 0 (.int .i64 4)).setIfInBounds 3 (.slice (some ⟨w1.heap.size + 1, 0, none⟩) n n)).setIfInBounds 36 (.slice (some ⟨w1.heap.size, 0, none⟩) n n))] ((w1.alloc (.cells J 26)).alloc (.cells I 24)).drew fun r w' => ∃ (s : Option Addr) (l c : Nat), r = .returned (.tuple #[.slice s l c, .int .i64 2]) ∧ Below w1.heap.size w1 w' ∧ l = 0) := by
          have hB : Below w1.heap.size w1 ((w1.alloc (.cells J 26)).alloc (.cells I 24)).drew := Below.drew (((Below.refl _ _).alloc (Nat.le_refl _) _).alloc (by simp) _)
          refine (HE.out (w1.heap.size + 1) w1.heap.size _ hB ((Bk.new' _ _ _ (by simp)).drew) (((Bk.new w1 26 J).alloc _).drew)).mono ?_
          rintro r w' ⟨s, l, c, rfl, h1, h2, h3⟩
          rw [if_neg hm]
          exact ⟨s, l, c, rfl, below_step hB hB.size h1, h3 hm⟩
        have q1 : decide ((n : Int) ≤ (32 : Int)) = false := decide_eq_false (by omega)
        have q2 : decide (n ≤ 32) = false := decide_eq_false (by omega)
        clear hm HE
        go_upto_region 14 with fail
        refine wp_region_noPanic ?_
        go_region_held (fun w' => Below w1.heap.size w1 w')
          ((repeat' (first | with_reducible assumption | with_reducible exact Below.refl _ _ | with_reducible exact (Below.refl _ _).drew | with_reducible refine Below.drew ?_ | with_reducible refine Below.alloc ?_ ?_ _ | exact Nat.le_refl _ | exact Nat.le_succ _ | (simp; done))))
          (first
            | (go_at_call 23
               first
                 | (with_reducible refine HE1.out.mono ?_)
                 | (with_reducible refine HE2.out.mono ?_)
               rintro e w6 ⟨s6, l6, c6, rfl, hb6, hl6⟩))
        all_goals (
          refine NoPanic.normal ?_
          have HB6 := Lib.hid (HW1.out.trans (hb6.mono HW1.out.size))
          subst hl6
          clear hb6
          go_wp2_with fail
          go_ret
          exact ⟨rfl, HB6.out⟩)
    · have HE : Hid (∀ a b W, Below w1.heap.size w1 W → Bk W a 24 (IDS n) → Bk W b 26 (HDS n) → Calls Tryd.prog 23 #[.agg (((Tryd.zeroCells63.setIfInBounds 0 (.int .i64 5)).setIfInBounds 3 (.slice (some ⟨a, 0, none⟩) n n)).setIfInBounds 36 (.slice (some ⟨b, 0, none⟩) n n))] W (EncLim n 64 W)) := fun a b W h1 ha hb => HEC.out 64 a b W h1 (by decide) ha hb
      have hm1 : ∀ w' : World, (Instr.makeSlice 43 (.int .i64 (n : Int)) (.int .i64 (n : Int))).run Tryd.prog w' = .ok (.slice (some ⟨w'.heap.size, 0, none⟩) n n) (w'.alloc (.cells (IDS n) 24)) := fun w' => run_mk idR_ok w' n (by have := HN.out; omega)
      have hm2 : ∀ w' : World, (Instr.makeSlice 60 (.int .i64 (n : Int)) (.int .i64 (n : Int))).run Tryd.prog w' = .ok (.slice (some ⟨w'.heap.size, 0, none⟩) n n) (w'.alloc (.cells (HDS n) 26)) := fun w' => run_mk hdR_ok w' n (by have := HN.out; omega)
      obtain ⟨I, hI⟩ : ∃ I, I = IDS n := ⟨_, rfl⟩
      obtain ⟨J, hJ⟩ : ∃ J, J = HDS n := ⟨_, rfl⟩
      rw [← hI, ← hJ] at HE
      rw [← hI] at hm1
      rw [← hJ] at hm2
      clear hI hJ HEC
      by_cases hm : n ≤ 64
      · have HE1 : Hid (Calls Tryd.prog 23 #[.agg (((Tryd.zeroCells63.setIfInBounds 0 (.int .i64 5)).setIfInBounds 3 (.slice (some ⟨w1.heap.size, 0, none⟩) n n)).setIfInBounds 36 (.slice (some ⟨w1.heap.size + 1, 0, none⟩) n n))] ((w1.alloc (.cells I 24)).alloc (.cells J 26)).drew fun r w' => ∃ (s : Option Addr) (l c : Nat), r = .returned (.tuple #[.slice s l c, .int .i64 0]) ∧ Below w1.heap.size w1 w' ∧ 0 < l) := by
          have hB : Below w1.heap.size w1 ((w1.alloc (.cells I 24)).alloc (.cells J 26)).drew := Below.drew (((Below.refl _ _).alloc (Nat.le_refl _) _).alloc (by simp) _)
          refine (HE.out w1.heap.size (w1.heap.size + 1) _ hB (((Bk.new w1 24 I).alloc _).drew) ((Bk.new' _ _ _ (by simp)).drew)).mono ?_
          rintro r w' ⟨s, l, c, rfl, h1, h2, h3⟩
          rw [if_pos hm]
          exact ⟨s, l, c, rfl, below_step hB hB.size h1, h2 hm⟩
        have HE2 : Hid (Calls Tryd.prog 23 #[.agg (((Tryd.zeroCells63.setIfInBounds 0 (.int .i64 5)).setIfInBounds 3 (.slice (some ⟨w1.heap.size + 1, 0, none⟩) n n)).setIfInBounds 36 (.slice (some ⟨w1.heap.size, 0, none⟩) n n))] ((w1.alloc (.cells J 26)).alloc (.cells I 24)).drew fun r w' => ∃ (s : Option Addr) (l c : Nat), r = .returned (.tuple #[.slice s l c, .int .i64 0]) ∧ Below w1.heap.size w1 w' ∧ 0 < l) := by
          have hB : Below w1.heap.size w1 ((w1.alloc (.cells J 26)).alloc (.cells I 24)).drew := Below.drew (((Below.refl _ _).alloc (Nat.le_refl _) _).alloc (by simp) _)
          refine (HE.out (w1.heap.size + 1) w1.heap.size _ hB ((Bk.new' _ _ _ (by simp)).drew) (((Bk.new w1 26 J).alloc _).drew)).mono ?_
          rintro r w' ⟨s, l, c, rfl, h1, h2, h3⟩
          rw [if_pos hm]
          exact ⟨s, l, c, rfl, below_step hB hB.size h1, h2 hm⟩
        have q1 : decide ((n : Int) ≤ (64 : Int)) = true := decide_eq_true (by omega)
        have q2 : decide (n ≤ 64) = true := decide_eq_true (by omega)
        clear hm HE
        go_upto_region 14 with fail
        refine wp_region_noPanic ?_
        go_region_held (fun w' => Below w1.heap.size w1 w')
          ((repeat' (first | with_reducible assumption | with_reducible exact Below.refl _ _ | with_reducible exact (Below.refl _ _).drew | with_reducible refine Below.drew ?_ | with_reducible refine Below.alloc ?_ ?_ _ | exact Nat.le_refl _ | exact Nat.le_succ _ | (simp; done))))
          (first
            | (go_at_call 23
               first
                 | (with_reducible refine HE1.out.mono ?_)
                 | (with_reducible refine HE2.out.mono ?_)
               rintro e w6 ⟨s6, l6, c6, rfl, hb6, hl6⟩))
        all_goals (
          refine NoPanic.normal ?_
          have HB6 := Lib.hid (HW1.out.trans (hb6.mono HW1.out.size))
          have q3 : decide ((0 : Int) < (l6 : Int)) = true := decide_eq_true (by omega)
          have q4 : decide (0 < l6) = true := decide_eq_true hl6
          clear hb6 hl6
          go_wp2_with fail
          go_ret
          exact ⟨rfl, HB6.out⟩)
      · have HE1 : Hid (Calls Tryd.prog 23 #[.agg (((Tryd.zeroCells63.setIfInBounds 0 (.int .i64 5)).setIfInBounds 3 (.slice (some ⟨w1.heap.size, 0, none⟩) n n)).setIfInBounds 36 (.slice (some ⟨w1.heap.size + 1, 0, none⟩) n n))] ((w1.alloc (.cells I 24)).alloc (.cells J 26)).drew fun r w' => ∃ (s : Option Addr) (l c : Nat), r = .returned (.tuple #[.slice s l c, .int .i64 2]) ∧ Below w1.heap.size w1 w' ∧ l = 0) := by
          have hB : Below w1.heap.size w1 ((w1.alloc (.cells I 24)).alloc (.cells J 26)).drew := Below.drew (((Below.refl _ _).alloc (Nat.le_refl _) _).alloc (by simp) _)
          refine (HE.out w1.heap.size (w1.heap.size + 1) _ hB (((Bk.new w1 24 I).alloc _).drew) ((Bk.new' _ _ _ (by simp)).drew)).mono ?_
          rintro r w' ⟨s, l, c, rfl, h1, h2, h3⟩
          rw [if_neg hm]
          exact ⟨s, l, c, rfl, below_step hB hB.size h1, h3 hm⟩
        have HE2 : Hid (Calls Tryd.prog 23 #[.agg (((Tryd.zeroCells63.setIfInBounds 0 (.int .i64 5)).setIfInBounds 3 (.slice (some ⟨w1.heap.size + 1, 0, none⟩) n n)).setIfInBounds 36 (.slice (some ⟨w1.heap.size, 0, none⟩) n n))] ((w1.alloc (.cells J 26)).alloc (.cells I 24)).drew fun r w' => ∃ (s : Option Addr) (l c : Nat), r = .returned (.tuple #[.slice s l c, .int .i64 2]) ∧ Below w1.heap.size w1 w' ∧ l = 0) := by
          have hB : Below w1.heap.size w1 ((w1.alloc (.cells J 26)).alloc (.cells I 24)).drew := Below.drew (((Below.refl _ _).alloc (Nat.le_refl _) _).alloc (by simp) _)
          refine (HE.out (w1.heap.size + 1) w1.heap.size _ hB ((Bk.new' _ _ _ (by simp)).drew) (((Bk.new w1 26 J).alloc _).drew)).mono ?_
          rintro r w' ⟨s, l, c, rfl, h1, h2, h3⟩
          rw [if_neg hm]
          exact ⟨s, l, c, rfl, below_step hB hB.size h1, h3 hm⟩
        have q1 : decide ((n : Int) ≤ (64 : Int)) = false := decide_eq_false (by omega)
        have q2 : decide (n ≤ 64) = false := decide_eq_false (by omega)
        clear hm HE
        go_upto_region 14 with fail
        refine wp_region_noPanic ?_
        go_region_held (fun w' => Below w1.heap.size w1 w')
          ((repeat' (first | with_reducible assumption | with_reducible exact Below.refl _ _ | with_reducible exact (Below.refl _ _).drew | with_reducible refine Below.drew ?_ | with_reducible refine Below.alloc ?_ ?_ _ | exact Nat.le_refl _ | exact Nat.le_succ _ | (simp; done))))
          (first
            | (go_at_call 23
               first
                 | (with_reducible refine HE1.out.mono ?_)
                 | (with_reducible refine HE2.out.mono ?_)
               rintro e w6 ⟨s6, l6, c6, rfl, hb6, hl6⟩))
        all_goals (
          refine NoPanic.normal ?_
          have HB6 := Lib.hid (HW1.out.trans (hb6.mono HW1.out.size))
          subst hl6
          clear hb6
          go_wp2_with fail
          go_ret
          exact ⟨rfl, HB6.out⟩)
    · have HE : Hid (∀ a b W, Below w1.heap.size w1 W → Bk W a 24 (IDS n) → Bk W b 26 (HDS n) → Calls Tryd.prog 23 #[.agg (((Tryd.zeroCells63.setIfInBounds 0 (.int .i64 6)).setIfInBounds 3 (.slice (some ⟨a, 0, none⟩) n n)).setIfInBounds 36 (.slice (some ⟨b, 0, none⟩) n n))] W (EncLim n 64 W)) := fun a b W h1 ha hb => HEC.out 64 a b W h1 (by decide) ha hb
      have hm1 : ∀ w' : World, (Instr.makeSlice 43 (.int .i64 (n : Int)) (.int .i64 (n : Int))).run Tryd.prog w' = .ok (.slice (some ⟨w'.heap.size, 0, none⟩) n n) (w'.alloc (.cells (IDS n) 24)) := fun w' => run_mk idR_ok w' n (by have := HN.out; omega)
      have hm2 : ∀ w' : World, (Instr.makeSlice 60 (.int .i64 (n : Int)) (.int .i64 (n : Int))).run Tryd.prog w' = .ok (.slice (some ⟨w'.heap.size, 0, none⟩) n n) (w'.alloc (.cells (HDS n) 26)) := fun w' => run_mk hdR_ok w' n (by have := HN.out; omega)
      obtain ⟨I, hI⟩ : ∃ I, I = IDS n := ⟨_, rfl⟩
      obtain ⟨J, hJ⟩ : ∃ J, J = HDS n := ⟨_, rfl⟩
      rw [← hI, ← hJ] at HE
      rw [← hI] at hm1
      rw [← hJ] at hm2
      clear hI hJ HEC
      by_cases hm : n ≤ 64
      · have HE1 : Hid (Calls Tryd.prog 23 #[.agg (((Tryd.zeroCells63.setIfInBounds 0 (.int .i64 6)).setIfInBounds 3 (.slice (some ⟨w1.heap.size, 0, none⟩) n n)).setIfInBounds 36 (.slice (some ⟨w1.heap.size + 1, 0, none⟩) n n))] ((w1.alloc (.cells I 24)).alloc (.cells J 26)).drew fun r w' => ∃ (s : Option Addr) (l c : Nat), r = .returned (.tuple #[.slice s l c, .int .i64 0]) ∧ Below w1.heap.size w1 w' ∧ 0 < l) := by
          have hB : Below w1.heap.size w1 ((w1.alloc (.cells I 24)).alloc (.cells J 26)).drew := Below.drew (((Below.refl _ _).alloc (Nat.le_refl _) _).alloc (by simp) _)
          refine (HE.out w1.heap.size (w1.heap.size + 1) _ hB (((Bk.new w1 24 I).alloc _).drew) ((Bk.new' _ _ _ (by simp)).drew)).mono ?_
          rintro r w' ⟨s, l, c, rfl, h1, h2, h3⟩
          rw [if_pos hm]
          exact ⟨s, l, c, rfl, below_step hB hB.size h1, h2 hm⟩
        have HE2 : Hid (Calls Tryd.prog 23 #[.agg (((Tryd.zeroCells63.setIfInBounds 0 (.int .i64 6)).setIfInBounds 3 (.slice (some ⟨w1.heap.size + 1, 0, none⟩) n n)).setIfInBounds 36 (.slice (some ⟨w1.heap.size, 0, none⟩) n n))] ((w1.alloc (.cells J 26)).alloc (.cells I 24)).drew fun r w' => ∃ (s : Option Addr) (l c : Nat), r = .returned (.tuple #[.slice s l c, .int .i64 0]) ∧ Below w1.heap.size w1 w' ∧ 0 < l) := by
          have hB : Below w1.heap.size w1 ((w1.alloc (.cells J 26)).alloc (.cells I 24)).drew := Below.drew (((Below.refl _ _).alloc (Nat.le_refl _) _).alloc (by simp) _)
          refine (HE.out (w1.heap.size + 1) w1.heap.size _ hB ((Bk.new' _ _ _ (by simp)).drew) (((Bk.new w1 26 J).alloc _).drew)).mono ?_
          rintro r w' ⟨s, l, c, rfl, h1, h2, h3⟩
          rw [if_pos hm]
          exact ⟨s, l, c, rfl, below_step hB hB.size h1, h2 hm⟩
        have q1 : decide ((n : Int) ≤ (64 : Int)) = true := decide_eq_true (by omega)
        have q2 : decide (n ≤ 64) = true := decide_eq_true (by omega)
        clear hm HE
        go_upto_region 14 with fail
        refine wp_region_noPanic ?_
        go_region_held (fun w' => Below w1.heap.size w1 w')
          ((repeat' (first | with_reducible assumption | with_reducible exact Below.refl _ _ | with_reducible exact (Below.refl _ _).drew | with_reducible refine Below.drew ?_ | with_reducible refine Below.alloc ?_ ?_ _ | exact Nat.le_refl _ | exact Nat.le_succ _ | (simp; done))))
          (first
            | (go_at_call 23
               first
                 | (with_reducible refine HE1.out.mono ?_)
                 | (with_reducible refine HE2.out.mono ?_)
               rintro e w6 ⟨s6, l6, c6, rfl, hb6, hl6⟩))
        all_goals (
          refine NoPanic.normal ?_
          have HB6 := Lib.hid (HW1.out.trans (hb6.mono HW1.out.size))
          have q3 : decide ((0 : Int) < (l6 : Int)) = true := decide_eq_true (by omega)
          have q4 : decide (0 < l6) = true := decide_eq_true hl6
          clear hb6 hl6
          go_wp2_with fail
          go_ret
          exact ⟨rfl, HB6.out⟩)
      · have HE1 : Hid (Calls Tryd.prog 23 #[.agg (((Tryd.zeroCells63.setIfInBounds 0 (.int .i64 6)).setIfInBounds 3 (.slice (some ⟨w1.heap.size, 0, none⟩) n n)).setIfInBounds 36 (.slice (some ⟨w1.heap.size + 1, 0, none⟩) n n))] ((w1.alloc (.cells I 24)).alloc (.cells J 26)).drew fun r w' => ∃ (s : Option Addr) (l c : Nat), r = .returned (.tuple #[.slice s l c, .int .i64 2]) ∧ Below w1.heap.size w1 w' ∧ l = 0) := by
          have hB : Below w1.heap.size w1 ((w1.alloc (.cells I 24)).alloc (.cells J 26)).drew := Below.drew (((Below.refl _ _).alloc (Nat.le_refl _) _).alloc (by simp) _)
          refine (HE.out w1.heap.size (w1.heap.size + 1) _ hB (((Bk.new w1 24 I).alloc _).drew) ((Bk.new' _ _ _ (by simp)).drew)).mono ?_
          rintro r w' ⟨s, l, c, rfl, h1, h2, h3⟩
          rw [if_neg hm]
          exact ⟨s, l, c, rfl, below_step hB hB.size h1, h3 hm⟩
        have HE2 : Hid (Calls Tryd.prog 23 #[.agg (((Tryd.zeroCells63.setIfInBounds 0 (.int .i64 6)).setIfInBounds 3 (.slice (some ⟨w1.heap.size + 1, 0, none⟩) n n)).setIfInBounds 36 (.slice (some ⟨w1.heap.size, 0, none⟩) n n))] ((w1.alloc (.cells J 26)).alloc (.cells I 24)).drew fun r w' => ∃ (s : Option Addr) (l c : Nat), r = .returned (.tuple #[.slice s l c, .int .i64 2]) ∧ Below w1.heap.size w1 w' ∧ l = 0) := by
          have hB : Below w1.heap.size w1 ((w1.alloc (.cells J 26)).alloc (.cells I 24)).drew := Below.drew (((Below.refl _ _).alloc (Nat.le_refl _) _).alloc (by simp) _)
          refine (HE.out (w1.heap.size + 1) w1.heap.size _ hB ((Bk.new' _ _ _ (by simp)).drew) (((Bk.new w1 26 J).alloc _).drew)).mono ?_
          rintro r w' ⟨s, l, c, rfl, h1, h2, h3⟩
          rw [if_neg hm]
          exact ⟨s, l, c, rfl, below_step hB hB.size h1, h3 hm⟩
        have q1 : decide ((n : Int) ≤ (64 : Int)) = false := decide_eq_false (by omega)
        have q2 : decide (n ≤ 64) = false := decide_eq_false (by omega)
        clear hm HE
        go_upto_region 14 with fail
        refine wp_region_noPanic ?_
        go_region_held (fun w' => Below w1.heap.size w1 w')
          ((repeat' (first | with_reducible assumption | with_reducible exact Below.refl _ _ | with_reducible exact (Below.refl _ _).drew | with_reducible refine Below.drew ?_ | with_reducible refine Below.alloc ?_ ?_ _ | exact Nat.le_refl _ | exact Nat.le_succ _ | (simp; done))))
          (first
            | (go_at_call 23
               first
                 | (with_reducible refine HE1.out.mono ?_)
                 | (with_reducible refine HE2.out.mono ?_)
               rintro e w6 ⟨s6, l6, c6, rfl, hb6, hl6⟩))
        all_goals (
          refine NoPanic.normal ?_
          have HB6 := Lib.hid (HW1.out.trans (hb6.mono HW1.out.size))
          subst hl6
          clear hb6
          go_wp2_with fail
          go_ret
          exact ⟨rfl, HB6.out⟩)
    · have HE : Hid (∀ a b W, Below w1.heap.size w1 W → Bk W a 24 (IDS n) → Bk W b 26 (HDS n) → Calls Tryd.prog 23 #[.agg (((Tryd.zeroCells63.setIfInBounds 0 (.int .i64 8)).setIfInBounds 3 (.slice (some ⟨a, 0, none⟩) n n)).setIfInBounds 36 (.slice (some ⟨b, 0, none⟩) n n))] W (EncLim n 64 W)) := fun a b W h1 ha hb => HEC.out 64 a b W h1 (by decide) ha hb
      have hm1 : ∀ w' : World, (Instr.makeSlice 43 (.int .i64 (n : Int)) (.int .i64 (n : Int))).run Tryd.prog w' = .ok (.slice (some ⟨w'.heap.size, 0, none⟩) n n) (w'.alloc (.cells (IDS n) 24)) := fun w' => run_mk idR_ok w' n (by have := HN.out; omega)
      have hm2 : ∀ w' : World, (Instr.makeSlice 60 (.int .i64 (n : Int)) (.int .i64 (n : Int))).run Tryd.prog w' = .ok (.slice (some ⟨w'.heap.size, 0, none⟩) n n) (w'.alloc (.cells (HDS n) 26)) := fun w' => run_mk hdR_ok w' n (by have := HN.out; omega)
      obtain ⟨I, hI⟩ : ∃ I, I = IDS n := ⟨_, rfl⟩
      obtain ⟨J, hJ⟩ : ∃ J, J = HDS n := ⟨_, rfl⟩
      rw [← hI, ← hJ] at HE
      rw [← hI] at hm1
      rw [← hJ] at hm2
      clear hI hJ HEC
      by_cases hm : n ≤ 64
      · have HE1 : Hid (Calls Tryd.prog 23 #[.agg (((Tryd.zeroCells63.setIfInBounds 0 (.int .i64 8)).setIfInBounds 3 (.slice (some ⟨w1.heap.size, 0, none⟩) n n)).setIfInBounds 36 (.slice (some ⟨w1.heap.size + 1, 0, none⟩) n n))] ((w1.alloc (.cells I 24)).alloc (.cells J 26)).drew fun r w' => ∃ (s : Option Addr) (l c : Nat), r = .returned (.tuple #[.slice s l c, .int .i64 0]) ∧ Below w1.heap.size w1 w' ∧ 0 < l) := by
          have hB : Below w1.heap.size w1 ((w1.alloc (.cells I 24)).alloc (.cells J 26)).drew := Below.drew (((Below.refl _ _).alloc (Nat.le_refl _) _).alloc (by simp) _)
          refine (HE.out w1.heap.size (w1.heap.size + 1) _ hB (((Bk.new w1 24 I).alloc _).drew) ((Bk.new' _ _ _ (by simp)).drew)).mono ?_
          rintro r w' ⟨s, l, c, rfl, h1, h2, h3⟩
          rw [if_pos hm]
          exact ⟨s, l, c, rfl, below_step hB hB.size h1, h2 hm⟩
        have HE2 : Hid (Calls Tryd.prog 23 #[.agg (((Tryd.zeroCells63.setIfInBounds 0 (.int .i64 8)).setIfInBounds 3 (.slice (some ⟨w1.heap.size + 1, 0, none⟩) n n)).setIfInBounds 36 (.slice (some ⟨w1.heap.size, 0, none⟩) n n))] ((w1.alloc (.cells J 26)).alloc (.cells I 24)).drew fun r w' => ∃ (s : Option Addr) (l c : Nat), r = .returned (.tuple #[.slice s l c, .int .i64 0]) ∧ Below w1.heap.size w1 w' ∧ 0 < l) := by
          have hB : Below w1.heap.size w1 ((w1.alloc (.cells J 26)).alloc (.cells I 24)).drew := Below.drew (((Below.refl _ _).alloc (Nat.le_refl _) _).alloc (by simp) _)
          refine (HE.out (w1.heap.size + 1) w1.heap.size _ hB ((Bk.new' _ _ _ (by simp)).drew) (((Bk.new w1 26 J).alloc _).drew)).mono ?_
          rintro r w' ⟨s, l, c, rfl, h1, h2, h3⟩
          rw [if_pos hm]
          exact ⟨s, l, c, rfl, below_step hB hB.size h1, h2 hm⟩
        have q1 : decide ((n : Int) ≤ (64 : Int)) = true := decide_eq_true (by omega)
        have q2 : decide (n ≤ 64) = true := decide_eq_true (by omega)
        clear hm HE
        go_upto_region 14 with fail
        refine wp_region_noPanic ?_
        go_region_held (fun w' => Below w1.heap.size w1 w')
          ((repeat' (first | with_reducible assumption | with_reducible exact Below.refl _ _ | with_reducible exact (Below.refl _ _).drew | with_reducible refine Below.drew ?_ | with_reducible refine Below.alloc ?_ ?_ _ | exact Nat.le_refl _ | exact Nat.le_succ _ | (simp; done))))
          (first
            | (go_at_call 23
               first
                 | (with_reducible refine HE1.out.mono ?_)
                 | (with_reducible refine HE2.out.mono ?_)
               rintro e w6 ⟨s6, l6, c6, rfl, hb6, hl6⟩))
        all_goals (
          refine NoPanic.normal ?_
          have HB6 := Lib.hid (HW1.out.trans (hb6.mono HW1.out.size))
          have q3 : decide ((0 : Int) < (l6 : Int)) = true := decide_eq_true (by omega)
          have q4 : decide (0 < l6) = true := decide_eq_true hl6
          clear hb6 hl6
          go_wp2_with fail
          go_ret
          exact ⟨rfl, HB6.out⟩)
      · have HE1 : Hid (Calls Tryd.prog 23 #[.agg (((Tryd.zeroCells63.setIfInBounds 0 (.int .i64 8)).setIfInBounds 3 (.slice (some ⟨w1.heap.size, 0, none⟩) n n)).setIfInBounds 36 (.slice (some ⟨w1.heap.size + 1, 0, none⟩) n n))] ((w1.alloc (.cells I 24)).alloc (.cells J 26)).drew fun r w' => ∃ (s : Option Addr) (l c : Nat), r = .returned (.tuple #[.slice s l c, .int .i64 2]) ∧ Below w1.heap.size w1 w' ∧ l = 0) := by
          have hB : Below w1.heap.size w1 ((w1.alloc (.cells I 24)).alloc (.cells J 26)).drew := Below.drew (((Below.refl _ _).alloc (Nat.le_refl _) _).alloc (by simp) _)
          refine (HE.out w1.heap.size (w1.heap.size + 1) _ hB (((Bk.new w1 24 I).alloc _).drew) ((Bk.new' _ _ _ (by simp)).drew)).mono ?_
          rintro r w' ⟨s, l, c, rfl, h1, h2, h3⟩
          rw [if_neg hm]
          exact ⟨s, l, c, rfl, below_step hB hB.size h1, h3 hm⟩
        have HE2 : Hid (Calls Tryd.prog 23 #[.agg (((Tryd.zeroCells63.setIfInBounds 0 (.int .i64 8)).setIfInBounds 3 (.slice (some ⟨w1.heap.size + 1, 0, none⟩) n n)).setIfInBounds 36 (.slice (some ⟨w1.heap.size, 0, none⟩) n n))] ((w1.alloc (.cells J 26)).alloc (.cells I 24)).drew fun r w' => ∃ (s : Option Addr) (l c : Nat), r = .returned (.tuple #[.slice s l c, .int .i64 2]) ∧ Below w1.heap.size w1 w' ∧ l = 0) := by
          have hB : Below w1.heap.size w1 ((w1.alloc (.cells J 26)).alloc (.cells I 24)).drew := Below.drew (((Below.refl _ _).alloc (Nat.le_refl _) _).alloc (by simp) _)
          refine (HE.out (w1.heap.size + 1) w1.heap.size _ hB ((Bk.new' _ _ _ (by simp)).drew) (((Bk.new w1 26 J).alloc _).drew)).mono ?_
          rintro r w' ⟨s, l, c, rfl, h1, h2, h3⟩
          rw [if_neg hm]
          exact ⟨s, l, c, rfl, below_step hB hB.size h1, h3 hm⟩
        have q1 : decide ((n : Int) ≤ (64 : Int)) = false := decide_eq_false (by omega)
        have q2 : decide (n ≤ 64) = false := decide_eq_false (by omega)
        clear hm HE
        go_upto_region 14 with fail
        refine wp_region_noPanic ?_
        go_region_held (fun w' => Below w1.heap.size w1 w')
          ((repeat' (first | with_reducible assumption | with_reducible exact Below.refl _ _ | with_reducible exact (Below.refl _ _).drew | with_reducible refine Below.drew ?_ | with_reducible refine Below.alloc ?_ ?_ _ | exact Nat.le_refl _ | exact Nat.le_succ _ | (simp; done))))
          (first
            | (go_at_call 23
               first
                 | (with_reducible refine HE1.out.mono ?_)
                 | (with_reducible refine HE2.out.mono ?_)
               rintro e w6 ⟨s6, l6, c6, rfl, hb6, hl6⟩))
        all_goals (
          refine NoPanic.normal ?_
          have HB6 := Lib.hid (HW1.out.trans (hb6.mono HW1.out.size))
          subst hl6
          clear hb6
          go_wp2_with fail
          go_ret
          exact ⟨rfl, HB6.out⟩)
  · have e3 : (kd == 3) = false := by simp; omega
    have e4 : (kd == 4) = false := by simp; omega
    have e5 : (kd == 5) = false := by simp; omega
    have e6 : (kd == 6) = false := by simp; omega
    have e8 : (kd == 8) = false := by simp; omega
    clear hks
    go_wp2_with fail
    go_ret
    exact ⟨rfl, HW1.out⟩

/-- The door's own heap meets the condition. -/
theorem door_met (os : Os) (args : Array Value) : laidMetH Tryd.prog laidL3 ((World.doorLaid Tryd.prog 19 os).forCall (fun _ _ => 0) ⟨#[], args, []⟩).memory :=
  laidMetH_of_parts3 (fuel := 8) (laidMet_of_run' 8 (by kernel_rfl) (by kernel_rfl)) (by kernel_rfl) (by kernel_rfl)

set_option maxRecDepth 100000 in
theorem lifted (os : Os) (started : os.Started) (H : Type) (enc : TypeId × Value → H) :
    ReturnsInHanded {} Tryd.checked os 4 .any (fun w args => (Rows.msgLimitsSpec.pre enc Tryd.prog Tryd.f4 [] false w args ∧ laidMetH Tryd.prog laidL3 w) ∧ sizedMet enc Tryd.prog Tryd.f4 (OpenSpec.ofChange Rows.msgLimitsSpec) false w args)
      (Rows.msgLimitsSpec.post enc Tryd.prog Tryd.f4 false true false false) := by
  refine returnsInHanded_of_change_and (C := Tryd.checked) (X := fun w _ => laidMetH Tryd.prog laidL3 w) (fun _ _ _ hh h => h.of_heap hh) own started (by kernel_rfl) Tryd.func4
    (ChangeSpec.witness_shaped (enc := enc) (C := Tryd.checked) (os := os) (X := fun w _ => laidMetH Tryd.prog laidL3 w) false (World.doorLaid Tryd.prog 19 os) #[.int .i64 0, .int .i64 0] 8 rfl (World.shaped_of_RefB (by kernel_rfl) (by kernel_rfl)) (by kernel_rfl) (by kernel_rfl) (by kernel_rfl) (door_met os _)) ?_
  intro W base args ds gs before hval0 hW _ _ hL _
  have hval : ∀ (j : Nat) t v, Tryd.f4.params[j]? = some t → args[j]? = some v → Value.okWide Tryd.prog W .any base t v := hval0
  have hW' := hW
  obtain ⟨p, q, hA0, hV, rfl, hfz, hnd⟩ := hW
  have hA : DataW.TrodAll enc Tryd.prog W 0 (fun _ => true) true Tryd.f4.params.toList args.toList ds p := hA0
  rw [Tryd.params4] at hA hval
  obtain ⟨v0, vs0, d0, ds0, p0, q0, hargs, rfl, rfl, h0, r0⟩ := trodAll_cons hA
  obtain ⟨v1, vs1, d1, ds1, p1, q1, rfl, rfl, rfl, h1, r1⟩ := trodAll_cons r0
  obtain ⟨rfl, rfl, rfl⟩ := trodAll_nil r1
  obtain rfl : args = #[v0, v1] := by cases args; simp_all
  obtain ⟨rfl, rfl⟩ := trodVars_none hV
  have lt0 : ∀ x ∈ p0, x.block < W.heap.size := by obtain ⟨m, hm⟩ := h0; exact DataW.trod_lt m _ _ _ hm
  have lt1 : ∀ x ∈ p1, x.block < W.heap.size := by obtain ⟨m, hm⟩ := h1; exact DataW.trod_lt m _ _ _ hm
  obtain ⟨y0, rfl, _, _, hwf0⟩ := open_int (k := .i64) Tryd.underlying3 (hval 0 3 v0 rfl rfl) h0
  have hy0 := wf_i64 hwf0
  obtain ⟨y1, rfl, _, _, hwf1⟩ := open_int (k := .i64) Tryd.underlying3 (hval 1 3 v1 rfl rfl) h1
  have hy1 := wf_i64 hwf1
  have hwalk := walk y0 y1 W (of_laid3 hL) hy0 hy1
  clear hA0 hval0
  refine hwalk.mono fun e W' ⟨he, bel⟩ => ?_
  subst he
  exact ⟨_, rfl, _, _, _, [], _, [], hW', trodAll_mk1 (shut_bool Tryd.underlying4 _), (trodAll_cons_mk (Below.trod laidOut (by kernel_rfl) (of_decide_eq_true (by kernel_rfl)) h0 bel lt0) (trodAll_cons_mk (Below.trod laidOut (by kernel_rfl) (of_decide_eq_true (by kernel_rfl)) h1 bel lt1) trodAll_mk0)), rfl, bel.frame _, fun h => by cases h⟩

theorem over : Rows.MsgLimitsSaid :=
  OpenClaim.holds_of_wide 4 Tryd.f4 rfl rfl rfl rfl rfl rfl rfl ⟨rfl, rfl, rfl, rfl, rfl⟩ rfl rfl rfl rfl rfl (by kernel_rfl) Tryd.func4 (by kernel_rfl)
    (of_decide_eq_true (by kernel_rfl)) (by unfold Func.isWrapper; first | (rw [if_pos (by decide +kernel)]; kernel_rfl) | (rw [if_neg (by decide +kernel)]; exact ⟨rfl, rfl⟩))
    (fun os started H enc _ => lifted os started H enc)

theorem proved : Rows.MsgLimitsCardSaid :=
  Claim7.holds_tied_plain_at .later [] [.data, .data, .data] true Rows.msgLimitsCard.stood.harness false
    over (fun _ h => by cases h) (by kernel_rfl) (fun _ h => by cases h) msgLimits_row_tie rfl ⟨rfl, rfl⟩ (by kernel_rfl) rfl
    (fun f fn hf hfn => by
      obtain rfl : f = 4 := Option.some.inj ((show Tryd.prog.funcNamed "tallystick/tallysticklaw09.MsgLimits" = some 4 by kernel_rfl).symm.trans hf) |>.symm
      obtain rfl : fn = Tryd.f4 := (Option.some.inj (Tryd.func4.symm.trans hfn)).symm
      exact ⟨by kernel_rfl, fun j t ht => by
        rw [Tryd.params4] at ht
        have hm : t ∈ [3, 3] := by simpa using Array.mem_of_getElem? ht
        have hall : ([3, 3].all fun u => !Tryd.prog.wantsStandIn u) = true := by kernel_rfl
        exact (show Tryd.prog.wantsStandIn t = false by simpa using List.all_eq_true.1 hall t hm)⟩)
    (by kernel_rfl)
#print axioms proved
end Go.Proofs.YtfflgimbgmbpaaaDoor.msgLimits
