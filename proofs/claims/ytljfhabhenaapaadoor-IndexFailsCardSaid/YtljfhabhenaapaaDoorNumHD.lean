/-
  The contracts of package num's FromID and Num.ID.
-/
import Derived.Test.YtljfhabhenaapaaDoorBasZ
import Derived.Test.YtljfhabhenaapaaDoorNumG
import Derived.Deep.MidRow
namespace Go.Proofs.YtljfhabhenaapaaDoor
open Go.RowKit
set_option maxRecDepth 100000
set_option linter.unusedVariables false

theorem id_info : (Tryd.prog.info? 30).map (·.size) = some 32 := by kernel_rfl

theorem idA_index (xs : List Nat) (hl : xs.length = 32) (k : Nat) (hk : k < 32) (w : World) :
    (Instr.index 30 (idv xs) (.int .i64 (k : Int))).run Tryd.prog w = .ok (.int .u8 ((xs.getD k 0 : Nat) : Int)) w :=
  run_index_arr (t := 30) (e := 5) (len := 32) (k := .u8) (by kernel_rfl) (by kernel_rfl) (by kernel_rfl) (idA xs) k _ hk (idA_get xs k (by omega)) w

set_option maxRecDepth 100000 in
set_option maxHeartbeats 2000000 in
theorem fromID_any (xs : List Nat) (hl : xs.length = 32) (hx : ∀ x ∈ xs, x < 256) (w : World) :
    Calls Tryd.prog 52 #[idv xs] w fun e w' => e = .returned (nv (ofL xs)) ∧ Below w.heap.size w w' := by
  have HL := Lib.hid hl
  have HX := Lib.hid hx
  clear hl hx
  go_enter Tryd.func52, Tryd.ntmps52
  go_wp2_with (refine wpList_load_row rfl 30 (.tmp 1) rfl w.heap.size rfl 30 (idA xs) (0, 0) _ (Bk.alloc (Bk.alloc (Bk.new _ _ _) _) _) Tryd.underlying30 rfl (by rw [idA_size, HL.out]; exact id_info) ?_)
  go_loopw [4, 7] (fun _ i wr => ∃ k : Nat, k ≤ 32 ∧ i = .int .i64 k ∧ Below w.heap.size w wr ∧
    (∃ p : Nat, Hid (p = ofL (xs.take k)) ∧ Bk wr (w.heap.size + 2) 43 (A4 (wd0 p) (wd1 p) (wd2 p) (wd3 p))) ∧ Bk wr (w.heap.size + 1) 43 #[.int .u64 0, .int .u64 0, .int .u64 0, .int .u64 0]) (fun _ i _ => 32 - (intOf i).toNat)
  case atStart =>
    refine ⟨0, by omega, rfl, ?_, ⟨0, by simp [Hid, ofL], Bk.new' _ _ _ (by simp)⟩, (Bk.new' _ _ _ (by simp)).alloc _⟩
    repeat (first | exact Below.refl _ _ | refine Below.drew ?_ | refine Below.alloc ?_ (by first | omega | (simp; done) | (simp; omega)) _)
  case round =>
    obtain ⟨k, hk, rfl, hbe, ⟨p, HP, hS⟩, hR⟩ := hrel
    have s0 : wr.cell? ⟨w.heap.size + 2, 0, none⟩ = some (.int .u64 (wd0 p : Int)) := hS.cell 0
    have s1 : wr.cell? ⟨w.heap.size + 2, 1, none⟩ = some (.int .u64 (wd1 p : Int)) := hS.cell 1
    have s2 : wr.cell? ⟨w.heap.size + 2, 2, none⟩ = some (.int .u64 (wd2 p : Int)) := hS.cell 2
    have s3 : wr.cell? ⟨w.heap.size + 2, 3, none⟩ = some (.int .u64 (wd3 p : Int)) := hS.cell 3
    have f0 := hS.frozen 0
    have f1 := hS.frozen 1
    have f2 := hS.frozen 2
    have f3 := hS.frozen 3
    by_cases hlt : k < 32
    · have hi := idA_index xs HL.out k hlt
      have HXk : Hid (xs.getD k 0 < 256) := HX.out _ (by rw [List.getD, List.getElem?_eq_getElem (by rw [HL.out]; exact hlt)]; exact List.getElem_mem _)
      have HPl : Hid (p < 256 ^ k) := by
        have h := ofL_lt (xs.take k) (fun x hx => HX.out x (List.mem_of_mem_take hx))
        rw [List.length_take, HL.out, Nat.min_eq_left hk, ← HP.out] at h
        exact h
      have HN : Hid (p + 256 ^ k * xs.getD k 0 = ofL (xs.take (k + 1))) := by
        show _ = _
        rw [ofL_take_succ xs k (by rw [HL.out]; exact hlt), ← HP.out]
      have hj : k / 8 = 0 ∨ k / 8 = 1 ∨ k / 8 = 2 ∨ k / 8 = 3 := by omega
      rcases hj with hj | hj | hj | hj
      · have hd : (k : Int) / 8 = 0 := by omega
        have HJ := Lib.hid hj
        clear hj
        have hw := byte_word p (xs.getD k 0) k HPl.out HXk.out
        have o1 := byte_other p (xs.getD k 0) k 1 HPl.out HXk.out (by rw [HJ.out]; omega)
        have o2 := byte_other p (xs.getD k 0) k 2 HPl.out HXk.out (by rw [HJ.out]; omega)
        have o3 := byte_other p (xs.getD k 0) k 3 HPl.out HXk.out (by rw [HJ.out]; omega)
        rw [HJ.out, HN.out, ← wdi_0, ← wdi_0] at hw
        rw [HN.out, ← wdi_1, ← wdi_1] at o1
        rw [HN.out, ← wdi_2, ← wdi_2] at o2
        rw [HN.out, ← wdi_3, ← wdi_3] at o3
        have HW := Lib.hid hw
        have O1 := Lib.hid o1
        have O2 := Lib.hid o2
        have O3 := Lib.hid o3
        clear hw o1 o2 o3
        go_wp2
        go_region
        go_wp2
        refine ⟨⟨k + 1, by omega, by go_num, (hbe.setCell (by show w.heap.size ≤ w.heap.size + 1 + 1; omega) _).drew, ⟨_, rfl, ?_⟩, (hR.far (by show w.heap.size + 1 ≠ w.heap.size + 1 + 1; omega) _).drew⟩, by simp [intOf]; omega⟩
        have e := (hS.set_ 0 (.int .u64 (wd0 (ofL (xs.take (k + 1))) : Int))).drew
        rw [← HW.out] at e
        rw [A4, O1.out, O2.out, O3.out, ← HW.out]
        exact e
      · have hd : (k : Int) / 8 = 1 := by omega
        have HJ := Lib.hid hj
        clear hj
        have hw := byte_word p (xs.getD k 0) k HPl.out HXk.out
        have o0 := byte_other p (xs.getD k 0) k 0 HPl.out HXk.out (by rw [HJ.out]; omega)
        have o2 := byte_other p (xs.getD k 0) k 2 HPl.out HXk.out (by rw [HJ.out]; omega)
        have o3 := byte_other p (xs.getD k 0) k 3 HPl.out HXk.out (by rw [HJ.out]; omega)
        rw [HJ.out, HN.out, ← wdi_1, ← wdi_1] at hw
        rw [HN.out, ← wdi_0, ← wdi_0] at o0
        rw [HN.out, ← wdi_2, ← wdi_2] at o2
        rw [HN.out, ← wdi_3, ← wdi_3] at o3
        have HW := Lib.hid hw
        have O0 := Lib.hid o0
        have O2 := Lib.hid o2
        have O3 := Lib.hid o3
        clear hw o0 o2 o3
        go_wp2
        go_region
        go_wp2
        refine ⟨⟨k + 1, by omega, by go_num, (hbe.setCell (by show w.heap.size ≤ w.heap.size + 1 + 1; omega) _).drew, ⟨_, rfl, ?_⟩, (hR.far (by show w.heap.size + 1 ≠ w.heap.size + 1 + 1; omega) _).drew⟩, by simp [intOf]; omega⟩
        have e := (hS.set_ 1 (.int .u64 (wd1 (ofL (xs.take (k + 1))) : Int))).drew
        rw [← HW.out] at e
        rw [A4, O0.out, O2.out, O3.out, ← HW.out]
        exact e
      · have hd : (k : Int) / 8 = 2 := by omega
        have HJ := Lib.hid hj
        clear hj
        have hw := byte_word p (xs.getD k 0) k HPl.out HXk.out
        have o0 := byte_other p (xs.getD k 0) k 0 HPl.out HXk.out (by rw [HJ.out]; omega)
        have o1 := byte_other p (xs.getD k 0) k 1 HPl.out HXk.out (by rw [HJ.out]; omega)
        have o3 := byte_other p (xs.getD k 0) k 3 HPl.out HXk.out (by rw [HJ.out]; omega)
        rw [HJ.out, HN.out, ← wdi_2, ← wdi_2] at hw
        rw [HN.out, ← wdi_0, ← wdi_0] at o0
        rw [HN.out, ← wdi_1, ← wdi_1] at o1
        rw [HN.out, ← wdi_3, ← wdi_3] at o3
        have HW := Lib.hid hw
        have O0 := Lib.hid o0
        have O1 := Lib.hid o1
        have O3 := Lib.hid o3
        clear hw o0 o1 o3
        go_wp2
        go_region
        go_wp2
        refine ⟨⟨k + 1, by omega, by go_num, (hbe.setCell (by show w.heap.size ≤ w.heap.size + 1 + 1; omega) _).drew, ⟨_, rfl, ?_⟩, (hR.far (by show w.heap.size + 1 ≠ w.heap.size + 1 + 1; omega) _).drew⟩, by simp [intOf]; omega⟩
        have e := (hS.set_ 2 (.int .u64 (wd2 (ofL (xs.take (k + 1))) : Int))).drew
        rw [← HW.out] at e
        rw [A4, O0.out, O1.out, O3.out, ← HW.out]
        exact e
      · have hd : (k : Int) / 8 = 3 := by omega
        have HJ := Lib.hid hj
        clear hj
        have hw := byte_word p (xs.getD k 0) k HPl.out HXk.out
        have o0 := byte_other p (xs.getD k 0) k 0 HPl.out HXk.out (by rw [HJ.out]; omega)
        have o1 := byte_other p (xs.getD k 0) k 1 HPl.out HXk.out (by rw [HJ.out]; omega)
        have o2 := byte_other p (xs.getD k 0) k 2 HPl.out HXk.out (by rw [HJ.out]; omega)
        rw [HJ.out, HN.out, ← wdi_3, ← wdi_3] at hw
        rw [HN.out, ← wdi_0, ← wdi_0] at o0
        rw [HN.out, ← wdi_1, ← wdi_1] at o1
        rw [HN.out, ← wdi_2, ← wdi_2] at o2
        have HW := Lib.hid hw
        have O0 := Lib.hid o0
        have O1 := Lib.hid o1
        have O2 := Lib.hid o2
        clear hw o0 o1 o2
        go_wp2
        go_region
        go_wp2
        refine ⟨⟨k + 1, by omega, by go_num, (hbe.setCell (by show w.heap.size ≤ w.heap.size + 1 + 1; omega) _).drew, ⟨_, rfl, ?_⟩, (hR.far (by show w.heap.size + 1 ≠ w.heap.size + 1 + 1; omega) _).drew⟩, by simp [intOf]; omega⟩
        have e := (hS.set_ 3 (.int .u64 (wd3 (ofL (xs.take (k + 1))) : Int))).drew
        rw [← HW.out] at e
        rw [A4, O0.out, O1.out, O2.out, ← HW.out]
        exact e
    · have hk32 : k = 32 := by omega
      have HK := Lib.hid hk32
      clear hk32
      have t0 : wr.cell? ⟨w.heap.size + 1, 0, none⟩ = some (.int .u64 0) := hR.cell 0
      have t1 : wr.cell? ⟨w.heap.size + 1, 1, none⟩ = some (.int .u64 0) := hR.cell 1
      have t2 : wr.cell? ⟨w.heap.size + 1, 2, none⟩ = some (.int .u64 0) := hR.cell 2
      have t3 : wr.cell? ⟨w.heap.size + 1, 3, none⟩ = some (.int .u64 0) := hR.cell 3
      have g0 := hR.frozen 0
      have g1 := hR.frozen 1
      have g2 := hR.frozen 2
      have g3 := hR.frozen 3
      go_wp2
      refine bodyPost_ret (v := nv p) (by simp [results, Tryd.results52, go_sem, t0, t1, t2, t3]) rfl ⟨?_, Below.set4 hbe (by omega) _ _ _ _⟩
      have e1 : p = ofL xs := by rw [HP.out, HK.out, List.take_of_length_le (by rw [HL.out]; omega)]
      rw [e1]


/-! ### storing a whole array into a block that is known whole -/

/-- The first k bytes of a number, and noughts. -/
def mix (n k : Nat) : List Nat := (List.range 32).map fun i => if i < k then byteOf n i else 0
theorem mix_length (n k : Nat) : (mix n k).length = 32 := by simp [mix]
theorem mix_zero (n : Nat) : mix n 0 = List.replicate 32 0 := by
  unfold mix
  simp only [Nat.not_lt_zero, if_false]
  rfl
theorem mix_succ (n k : Nat) (h : k < 32) : (idA (mix n k)).setIfInBounds k (.int .u8 ((byteOf n k : Nat) : Int)) = idA (mix n (k + 1)) := by
  apply Array.ext_getElem?
  intro i
  by_cases hi : i = k
  · subst hi
    rw [idA_get _ _ (by rw [mix_length]; exact h)]
    simp [idA_size, h, mix]
  · rw [Array.getElem?_setIfInBounds_ne (by omega)]
    by_cases h32 : i < 32
    · rw [idA_get _ _ (by rw [mix_length]; exact h32), idA_get _ _ (by rw [mix_length]; exact h32)]
      by_cases hlt : i < k
      · simp [mix, h32, hlt, Nat.lt_succ_of_lt hlt]
      · have : ¬ i < k + 1 := by omega
        simp [mix, h32, hlt, this]
    · rw [Array.getElem?_eq_none (by rw [idA_size, mix_length]; omega), Array.getElem?_eq_none (by rw [idA_size, mix_length]; omega)]
theorem mix_all (n : Nat) : mix n 32 = toL n 32 := by
  apply List.ext_getElem
  · rw [mix_length, toL_length]
  · intro i h1 h2
    have e := toL_getD 32 n i (by rw [toL_length] at h2; exact h2)
    rw [List.getD, List.getElem?_eq_getElem h2, Option.getD_some] at e
    rw [e]
    rw [mix_length] at h1
    simp [mix, h1]

theorem ID_byte (n k : Nat) (h : k < 32) : IntKind.u8.wrap (((wdi n (k / 8) : Nat) : Int) / 2 ^ (k % 8 * 8)) = ((byteOf n k : Nat) : Int) := by
  rw [shr_word, IntKind.wrap_u8, byteOf_word, Nat.mul_comm 8]
  unfold wdi
  omega

end Go.Proofs.YtljfhabhenaapaaDoor
