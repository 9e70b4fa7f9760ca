/-
  The wire laws' head: what is written is read again.
-/
import Derived.Test.YtfflgimbgmbpaaaRed
import Derived.Test.YtfflgimbgmbpaaaStrP
import Derived.Lib.SlBytesConst
namespace Go.Proofs.Ytfflgimbgmbpaaa
open Go.RowKit
set_option linter.unusedVariables false

theorem Wrote.below {g lo : Nat} {v : Value} {xs ys : List Nat} {w w' : World} {e : Ending} {B : Nat} (h : Wrote g lo v ys w e w') (hM : Mine w lo v xs) (hlo : B ≤ lo) (hg : B ≤ g) (hB : B ≤ w.heap.size) : Below B w w' := by
  obtain ⟨_, _, _, _, h, _⟩ := h
  refine h.below hB (fun k hk => ?_)
  rcases hk with hk | hk
  · omega
  · exact Nat.le_trans hlo (hM.slb_lo hk).1
theorem heap_lt {w : World} {g : Nat} {o : Obj} (h : w.heap[g]? = some o) : g < w.heap.size := by
  rcases Nat.lt_or_ge g w.heap.size with hlt | hge
  · exact hlt
  · rw [Array.getElem?_eq_none hge] at h; cases h
theorem bsn_rowf {w : World} {g n cap : Nat} {t : TypeId} {fr : Nat × Nat} {ys : List Nat} {S : Nat → Prop} (hg : w.heap[g]? = some (.cells (idA ys) t fr)) (hS : ¬ S g) (hn : n = ys.length) (hc : n ≤ cap) (hc2 : cap < 9223372036854775808) (hx : ∀ y ∈ ys, y < 256) : BsN w S (.slice (some ⟨g, 0, none⟩) n cap) ys := by
  subst hn
  refine ⟨some ⟨g, 0, none⟩, cap, rfl, hc, hc2, hx, fun _ => ⟨g, 0, rfl, heap_lt hg, hS, fun i hi => ?_⟩⟩
  rw [Nat.zero_add, cell_of_row w g i _ _ _ hg, idA_get ys i hi]
  rfl
theorem bsn_row {w : World} {g n cap : Nat} {t : TypeId} {ys : List Nat} {S : Nat → Prop} (hg : Bk w g t (idA ys)) (hS : ¬ S g) (hn : n = ys.length) (hc : n ≤ cap) (hc2 : cap < 9223372036854775808) (hx : ∀ y ∈ ys, y < 256) : BsN w S (.slice (some ⟨g, 0, none⟩) n cap) ys := bsn_rowf hg hS hn hc hc2 hx
def L8 : List Nat := [2, 1, 253, 253, 0, 2, 97, 98]
theorem l8_lt : ∀ x ∈ L8, x < 256 := by decide
theorem l8_str : strN L8 = ⟨#[2, 1, 253, 253, 0, 2, 97, 98]⟩ := by decide +kernel
theorem ab_str : strN [97, 98] = ⟨#[97, 98]⟩ := by decide +kernel
theorem w_one : (([] ++ toL 258 (sz8 2)) ++ countL 253) ++ (countL ([97, 98] : List Nat).length ++ [97, 98]) = L8 := by decide
theorem r_num : rdNum (L8, 0) 2 = (258, ([253, 253, 0, 2, 97, 98], 0)) := by decide
theorem r_cnt : rdCount ([253, 253, 0, 2, 97, 98], 0) 300 = (253, ([2, 97, 98], 0)) := by decide
theorem r_txt : rdText ([2, 97, 98], 0) 5 = ([97, 98], ([], 0)) := by decide
theorem r_end : rdEnd ([], 0) = 0 := by decide
theorem ok_small (s : St) (h : s.1.length ≤ 8) (h2 : s.2 = 0) : StOk s := ⟨by omega, by omega⟩
set_option maxRecDepth 100000 in
set_option maxHeartbeats 1000000 in
theorem writes_any (w : World) : Calls Try.prog 4 #[] w fun e w' => e = .returned (.bool true) ∧ Below w.heap.size w w' := by
  have hcc := fun (w : World) (C : Array Value) (n c : Nat) => Lib.run_convert_bytes_const (P := Try.prog) w 24 5 C n c Try.underlying24 Try.underlying5
  go_enter Try.func4, Try.ntmps4
  go_wp2_with fail
  have hA0 : Below w.heap.size w (w.alloc (.cells #[.slice none 0 0] 26)) := (Below.refl _ _).alloc (Nat.le_refl _) _
  have hA : Below w.heap.size w ((w.alloc (.cells #[.slice none 0 0] 26)).alloc (.cells #[.int .u64 258] 27)) := hA0.alloc hA0.size _
  have M0 : Mine ((w.alloc (.cells #[.slice none 0 0] 26)).alloc (.cells #[.int .u64 258] 27)) w.heap.size (.slice none 0 0) [] := .inl ⟨rfl, rfl⟩
  refine (put_any w.heap.size w.heap.size (w.heap.size + 1) 2 258 [] (.slice none 0 0) _ ((Bk.new _ _ _).alloc _) M0 hA.size (Bk.new' _ _ _ (by simp)) (by simp)).mono ?_
  rintro e w1 h
  have hW := hA.trans (h.below M0 (Nat.le_refl _) (Nat.le_refl _) hA.size)
  obtain ⟨rfl, v1, G1, M1, B1, O1⟩ := h
  have M1 := Lib.hid M1
  clear hA0 hA M0 B1 O1
  generalize hgd : w.heap.size = g at *
  go_wp2_with fail
  refine (count_any g g 253 _ v1 w1 G1 M1.out (Nat.le_trans (Nat.le_of_eq hgd.symm) hW.size) (by decide)).mono ?_
  rintro e w2 h
  have hW := hW.trans (h.below M1.out (Nat.le_refl _) (Nat.le_refl _) (Nat.le_trans (Nat.le_of_eq hgd.symm) hW.size))
  obtain ⟨rfl, v2, G2, M2, B2, O2⟩ := h
  have M2 := Lib.hid M2
  clear B2 O2 G1 M1
  go_wp2_with fail
  have hA : Below w2.heap.size w2 (w2.alloc (.cells #[.int .u8 97, .int .u8 98] 5 (2, 3))) := (Below.refl _ _).alloc (Nat.le_refl _) _
  have hg2 := G2.lt
  have hk2 : ¬ (w2.heap.size = g ∨ slb v2 w2.heap.size) := by
    rintro (h | h)
    · omega
    · have := (M2.out.slb_lo h).2.1
      omega
  have hU : BsN (w2.alloc (.cells #[.int .u8 97, .int .u8 98] 5 (2, 3))) (fun k => k = g ∨ slb v2 k) (.slice (some ⟨w2.heap.size, 0, none⟩) 2 2) [97, 98] := bsn_rowf (t := 5) (fr := (2, 3)) (heap_alloc_new w2 _) hk2 rfl (by omega) (by omega) (by decide)
  have M2' := M2.out.keep hA
  refine (text_any g g _ [97, 98] _ v2 _ (G2.alloc _) M2' (Nat.le_trans (Nat.le_trans (Nat.le_of_eq hgd.symm) hW.size) hA.size) (by decide) hU).mono ?_
  rintro e w3 h
  have hW := (hW.alloc (Nat.le_trans (Nat.le_of_eq hgd.symm) hW.size) _).trans (h.below M2' (Nat.le_refl _) (Nat.le_refl _) (Nat.le_trans (Nat.le_trans (Nat.le_of_eq hgd.symm) hW.size) hA.size))
  rw [w_one] at h
  obtain ⟨rfl, v3, G3, M3, B3, O3⟩ := h
  obtain ⟨s3, c3, rfl⟩ := M3.slice
  have M3 := Lib.hid M3
  clear B3 O3 G2 M2 M2' hU hA hk2 hg2
  go_wp2_with fail
  refine (bytes_any g g L8 _ w3 G3 M3.out l8_lt (by decide)).mono ?_
  rintro e w4 ⟨v4, rfl, M4, B4⟩
  obtain ⟨s4, c4, rfl⟩ := M4.slice
  have M4 := Lib.hid M4
  have hW := hW.trans (B4.mono (Nat.le_trans (Nat.le_of_eq hgd.symm) hW.size))
  have G4 := G3.keep B4
  have M4w := Lib.hid (M3.out.keep B4)
  clear B4 G3 M3
  go_wp2_with fail
  refine (read_any L8 _ w4 (M4.out.bs l8_lt) (by decide) l8_lt).mono ?_
  rintro e w5 ⟨p, v5, rfl, R5, B5, hp, hv5⟩
  have R5 := Lib.hid R5
  have hW := hW.trans (B5.mono (Nat.le_trans (Nat.le_of_eq hgd.symm) hW.size))
  have G5 := G4.keep B5
  have M5 := Lib.hid (M4w.out.keep B5)
  have hgp : g ≤ p := Nat.le_trans (Nat.le_of_lt G4.lt) hp
  clear B5 G4 M4w M4 hp hv5
  go_wp2_with fail
  refine (bytes_any g g L8 _ w5 G5 M5.out l8_lt (by decide)).mono ?_
  rintro e w6 ⟨v6, rfl, M6, B6⟩
  have hcv := conv_bs (M6.bs l8_lt)
  rw [l8_str] at hcv
  obtain ⟨s6, c6, rfl⟩ := M6.slice
  have hW := hW.trans (B6.mono (Nat.le_trans (Nat.le_of_eq hgd.symm) hW.size))
  have G6 := G5.keep B6
  have R6 := Lib.hid (R5.out.keep B6)
  clear B6 G5 M5 R5 M6
  go_wp2_with fail
  refine (wlen_any g L8.length s3 c3 w6 G6).mono ?_
  rintro e w7 ⟨rfl, rfl⟩
  clear hcv
  go_wp2_with fail
  have H := num_any p 2 v5 (L8, 0) w7 R6.out (ok_small _ (by decide) rfl)
  rw [r_num] at H
  refine H.mono ?_
  rintro e w8 ⟨rfl, v8, T8⟩
  clear H
  have T8 := Lib.hid T8
  go_wp2_with fail
  have H := rcount_any p 300 v8 _ w8 T8.out.1 (ok_small _ (by decide) rfl)
  rw [r_cnt] at H
  refine H.mono ?_
  rintro e w9 ⟨rfl, v9, T9⟩
  clear H
  have T9 := Lib.hid (T8.out.trans T9)
  clear T8
  go_wp2_with fail
  have H := rtext_any p 5 v9 _ w9 T9.out.1 (ok_small _ (by decide) rfl) (by omega)
  rw [r_txt] at H
  refine H.mono ?_
  rintro e w10 ⟨u10, rfl, M10, v10, T10⟩
  clear H
  have hcv := conv_bs (M10.bs (by decide))
  rw [ab_str] at hcv
  obtain ⟨s10, c10, e10⟩ := M10.slice
  change u10 = .slice s10 2 c10 at e10
  subst e10
  have T10 := Lib.hid (T9.out.trans T10)
  clear T9 M10
  go_wp2_with fail
  have H := end_any p v10 _ w10 T10.out.1
  rw [r_end] at H
  refine H.mono ?_
  rintro e w11 ⟨rfl, rfl⟩
  clear H hcv
  go_wp2_with fail
  go_ret
  refine ⟨rfl, ?_⟩
  rw [hgd]
  refine hW.trans (T10.out.2.1.below (Nat.le_trans (Nat.le_of_eq hgd.symm) hW.size) (fun k hk => ?_))
  have e : k = p := hk
  omega
end Go.Proofs.Ytfflgimbgmbpaaa
