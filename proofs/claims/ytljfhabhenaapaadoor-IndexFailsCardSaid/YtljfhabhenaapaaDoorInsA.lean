/-
  The insertion sort of a row of numbers.
-/
import Derived.Test.YtljfhabhenaapaaDoorIns
namespace Go.Proofs.YtljfhabhenaapaaDoor
open Go.RowKit
set_option linter.unusedVariables false
set_option linter.unusedSimpArgs false
set_option maxRecDepth 100000
theorem u32_flat (l : List Nat) : u32R.flat l = l.map u32V := by
  unfold RowT.flat
  induction l with
  | nil => rfl
  | cons a l ih => rw [List.flatMap_cons, ih]; rfl
/-- The cells of a row and its room. -/
def csU (s : List Nat) (z : Nat) : Array Value := ((s ++ List.replicate z 0).map u32V).toArray
theorem csU_get {s : List Nat} {z j : Nat} (hj : j < s.length) : (csU s z)[j]? = some (.int .u32 ((s.getD j 0 : Nat) : Int)) := by
  unfold csU
  rw [List.getElem?_toArray, List.getElem?_map, List.getElem?_append_left hj, List.getElem?_eq_getElem hj, List.getD_eq_getElem?_getD, List.getElem?_eq_getElem hj]
  rfl
theorem csU_set {s : List Nat} {z j : Nat} (hj : j < s.length) (a : Nat) : (csU s z).setIfInBounds j (.int .u32 (a : Int)) = csU (s.set j a) z := by
  unfold csU
  rw [List.setIfInBounds_toArray, show (.int .u32 (a : Int) : Value) = u32V a from rfl, ← List.map_set, List.set_append_left _ _ hj]
def swapL (s : List Nat) (j : Nat) : List Nat := (s.set j (s.getD (j - 1) 0)).set (j - 1) (s.getD j 0)
theorem swapL_len (s : List Nat) (j : Nat) : (swapL s j).length = s.length := by unfold swapL; simp
theorem swapL_perm {s : List Nat} {j : Nat} (h : j < s.length) : (swapL s j).Perm s := by
  have h2 : j - 1 < s.length := by omega
  have := List.set_set_perm h h2
  unfold swapL
  rw [List.getD_eq_getElem?_getD, List.getD_eq_getElem?_getD, List.getElem?_eq_getElem h, List.getElem?_eq_getElem h2]
  exact this
theorem getD_set (s : List Nat) (k a j : Nat) : (s.set k a).getD j 0 = if k = j ∧ j < s.length then a else s.getD j 0 := by
  rw [List.getD_eq_getElem?_getD, List.getD_eq_getElem?_getD, List.getElem?_set]
  by_cases e : k = j
  · subst e
    by_cases h : k < s.length
    · rw [if_pos rfl, if_pos h, if_pos ⟨rfl, h⟩]; rfl
    · rw [if_pos rfl, if_neg h, if_neg (fun hc => h hc.2), List.getElem?_eq_none (by omega)]
  · rw [if_neg e, if_neg (fun hc => e hc.1)]
theorem swapL_get {s : List Nat} {j : Nat} (h0 : 0 < j) (h : j < s.length) (k : Nat) : (swapL s j).getD k 0 = if k = j then s.getD (j - 1) 0 else if k = j - 1 then s.getD j 0 else s.getD k 0 := by
  unfold swapL
  rw [getD_set, getD_set, List.length_set]
  by_cases e1 : k = j
  · subst e1
    rw [if_neg (by omega), if_pos ⟨rfl, h⟩, if_pos rfl]
  · rw [if_neg e1]
    by_cases e2 : k = j - 1
    · rw [if_pos ⟨e2.symm, by omega⟩, if_pos e2]
    · rw [if_neg (by omega), if_neg (by omega), if_neg e2]
def SP (s : List Nat) (i : Nat) : Prop := ∀ x y, x < y → y < i → s.getD x 0 ≤ s.getD y 0
def SE (s : List Nat) (i j : Nat) : Prop := ∀ x y, x < y → y ≤ i → y ≠ j → s.getD x 0 ≤ s.getD y 0
theorem SP.start {s : List Nat} {i : Nat} (h : SP s i) : SE s i i := fun x y h1 h2 h3 => h x y h1 (by omega)
theorem SE.stop {s : List Nat} {i j : Nat} (h : SE s i j) (hj : j = 0 ∨ s.getD (j - 1) 0 ≤ s.getD j 0) : SP s (i + 1) := fun x y h1 h2 => by
  by_cases e : y = j
  · subst e
    rcases hj with h0 | hj
    · omega
    · by_cases e2 : x = y - 1
      · subst e2; exact hj
      · exact Nat.le_trans (h x (y - 1) (by omega) (by omega) (by omega)) hj
  · exact h x y h1 (by omega) e
theorem SE.swap {s : List Nat} {i j : Nat} (h : SE s i j) (h0 : 0 < j) (hji : j ≤ i) (hi : i < s.length) (hlt : s.getD j 0 < s.getD (j - 1) 0) : SE (swapL s j) i (j - 1) := fun x y h1 h2 h3 => by
  rw [swapL_get h0 (by omega), swapL_get h0 (by omega)]
  by_cases e1 : y = j
  · subst e1
    rw [if_pos rfl, if_neg (by omega)]
    by_cases e2 : x = y - 1
    · rw [if_pos e2]; omega
    · rw [if_neg e2]; exact h x (y - 1) (by omega) (by omega) (by omega)
  · rw [if_neg e1, if_neg h3]
    by_cases e3 : x = j
    · subst e3
      rw [if_pos rfl]
      exact h (x - 1) y (by omega) h2 e1
    · rw [if_neg e3]
      by_cases e4 : x = j - 1
      · rw [if_pos e4]
        by_cases e5 : j < y
        · exact h j y e5 h2 e1
        · omega
      · rw [if_neg e4]; exact h x y h1 h2 e1
theorem SP.sorted {s : List Nat} (h : SP s s.length) : s.Pairwise (· ≤ ·) := by
  rw [List.pairwise_iff_getElem]
  intro i j hi hj hij
  have := h i j hij hj
  rw [List.getD_eq_getElem?_getD, List.getD_eq_getElem?_getD, List.getElem?_eq_getElem hi, List.getElem?_eq_getElem hj] at this
  exact this
structure InsI (w wr : World) (T z : Nat) (s0 s : List Nat) : Prop where
  perm : s.Perm s0
  blk : Bk wr T 28 (csU s z)
  but : But (fun k => k = T) w wr
set_option maxHeartbeats 16000000 in
theorem ins_any (s0 : List Nat) (T z c : Nat) (w : World) (hK : Bk w T 28 (csU s0 z)) (hn : s0.length ≤ 12) :
    Calls Tryd.prog 80 #[.slice (some ⟨T, 0, none⟩) s0.length c, .int .i64 0, .int .i64 (s0.length : Int)] w fun e w' => e = .returned (.tuple #[]) ∧ ∃ s, InsI w w' T z s0 s ∧ s.Pairwise (· ≤ ·) := by
  have HK := Lib.hid hK
  have zT := hK.lt
  obtain ⟨n, hnn⟩ : ∃ n, n = s0.length := ⟨_, rfl⟩
  rw [← hnn] at hn ⊢
  have HN := Lib.hid hnn
  clear hK hnn
  go_enter Tryd.func80, Tryd.ntmps80
  go_wp2_with fail
  go_loopw [6] (fun iv wr => ∃ (i : Nat) (s : List Nat), iv = .int .i64 (i : Int) ∧ 1 ≤ i ∧ i ≤ 13 ∧ Hid (InsI w wr T z s0 s ∧ SP s i)) (fun iv _ => 13 - (intOf iv).toNat)
  case atStart => exact ⟨1, s0, rfl, Nat.le_refl _, by omega, ⟨List.Perm.refl _, HK.out, But.refl _ _⟩, fun x y h1 h2 => by omega⟩
  case round =>
    obtain ⟨i, s, rfl, hi1, hi13, HI⟩ := hrel
    by_cases hlt : i < n
    · have d1 : decide (i < n) = true := decide_eq_true hlt
      have d2 : decide ((i : Int) < (n : Int)) = true := decide_eq_true (by omega)
      rename World => wo
      have HSL : Hid (∀ s' : List Nat, s'.Perm s0 → s'.length = n) := fun s' h => by rw [h.length_eq, HN.out]
      go_upto_region 3 with fail
      go_wp2_with fail
      go_loopw [7] (fun jv wr => ∃ (j : Nat) (s : List Nat), jv = .int .i64 (j : Int) ∧ j ≤ i ∧ Hid (InsI w wr T z s0 s ∧ SE s i j)) (fun jv _ => (intOf jv).toNat)
      case atStart => exact ⟨i, s, rfl, Nat.le_refl _, HI.out.1, HI.out.2.start⟩
      case round =>
        obtain ⟨j, s, rfl, hji, HI⟩ := hrel
        rename World => wq
        have hl : s.length = n := HSL.out s HI.out.1.perm
        rcases Nat.eq_zero_or_pos j with h0 | h0
        · subst h0
          have HNEW : Hid (InsI w wq.drew T z s0 s ∧ SP s (i + 1)) := ⟨⟨HI.out.1.perm, HI.out.1.blk.drew, HI.out.1.but.drew⟩, HI.out.2.stop (.inl rfl)⟩
          go_upto_region 4 with fail
          refine ins4z T n c wq _ _ _ _ _ _ _ _ _ _ _ _ _ _ _ _ _ _ _ _ _ _ _ _ _ _ _ _ _ _ _ _ _ _ _ _ _ _ _ _ _ _ _ _ _ _ _ (Lib.hid (fun x16 x17 x18 x19 x20 x21 x22 x23 x24 x25 x26 x27 x28 x29 w5 h5 => ?_))
          subst h5
          clear HI
          go_wp2_with fail
          go_roundw
          case rel => exact ⟨i + 1, s, by go_num, by omega, by omega, HNEW⟩
          case measure => simp [intOf]; omega
        · obtain ⟨q, rfl⟩ : ∃ q, j = q + 1 := ⟨j - 1, by omega⟩
          have hqs : q < s.length := by omega
          have hjs : q + 1 < s.length := by omega
          have g1 := csU_get (z := z) hqs
          have g2 := csU_get (z := z) hjs
          have K := HI.out.1.blk
          have hwr : IntKind.i64.wrap (((q + 1 : Nat) : Int) - 1) = (q : Int) := by rw [IntWalk.i64_in _ (by omega)]; omega
          obtain ⟨x, hx⟩ : ∃ x, x = s.getD (q + 1) 0 := ⟨_, rfl⟩
          obtain ⟨y, hy⟩ : ∃ y, y = s.getD q 0 := ⟨_, rfl⟩
          rw [← hx] at g2
          rw [← hy] at g1
          have HX := Lib.hid hx
          have HY := Lib.hid hy
          have g3 : ((csU s z).setIfInBounds (q + 1) (.int .u32 (y : Int)))[q]? = some (.int .u32 (y : Int)) := by
            rw [Array.getElem?_setIfInBounds, if_neg (by omega)]; exact g1
          have hcs : ((csU s z).setIfInBounds (q + 1) (.int .u32 (y : Int))).setIfInBounds q (.int .u32 (x : Int)) = csU (swapL s (q + 1)) z := by
            rw [csU_set hjs, csU_set (by rw [List.length_set]; exact hqs)]
            unfold swapL
            rw [hx, hy]
            rfl
          have HCS := Lib.hid hcs
          have HG1 := Lib.hid g1
          have HG2 := Lib.hid g2
          have HG3 := Lib.hid g3
          have HKK := Lib.hid K
          have hql : q < n := by omega
          have hjl : q + 1 < n := by omega
          clear hx hy g1 g2 g3 hcs K hqs hjs
          go_upto_region 4 with fail
          refine ins4 T n c q (q + 1) x y (csU s z) wq _ _ _ _ _ _ _ _ _ _ _ _ _ _ _ _ _ _ _ _ _ _ _ _ _ _ _ _ _ _ _ _ _ _ _ _ _ _ _ _ _ _ _ _ _ _ _ hql hjl (by omega) (by omega) (by omega) hwr HG1.out HG2.out HKK (Lib.hid (fun x16 x17 x18 x19 x20 x21 x22 x23 x24 x25 x26 x27 x28 x29 w5 h5 => ?_))
          subst h5
          by_cases hxy : x < y
          · have d5 : decide (x < y) = true := decide_eq_true hxy
            rw [d5]
            have HSW : Hid (SE (swapL s (q + 1)) i q) := HI.out.2.swap (by omega) hji (by omega) (by have h1 := HX.out; have h2 := HY.out; show s.getD (q + 1) 0 < s.getD q 0; omega)
            have HP : Hid ((swapL s (q + 1)).Perm s0) := (swapL_perm (by omega)).trans HI.out.1.perm
            clear hxy d5
            go_upto_region 6 with fail
            refine ins6 T n c q (q + 1) x y (csU s z) wq.drew _ _ _ _ _ _ _ _ _ _ _ _ _ _ _ _ _ _ _ _ _ _ _ _ _ _ _ _ _ _ _ _ _ _ _ _ _ _ _ _ _ _ _ _ _ _ _ _ HKK.out.lt hql hjl (by omega) (by omega) hwr HG1.out HG2.out HG3.out (Lib.hid HKK.out.drew) (Lib.hid (fun x33 x34 x35 x36 x37 x38 x39 x40 x41 x42 x43 x44 x45 x46 x47 x48 w6 hb6 k6 => ?_))
            rw [HCS.out] at k6
            have HNEW : Hid (InsI w w6 T z s0 (swapL s (q + 1)) ∧ SE (swapL s (q + 1)) i q) := ⟨⟨HP.out, k6, HI.out.1.but.drew.trans hb6 (fun _ _ h => h)⟩, HSW.out⟩
            clear hb6 k6 HI HKK HSW HP
            go_wp2_with fail
            go_roundw
            case rel => exact ⟨q, _, rfl, by omega, HNEW⟩
            case measure => simp [intOf]
          · have d5 : decide (x < y) = false := decide_eq_false hxy
            rw [d5]
            have HNEW : Hid (InsI w wq.drew T z s0 s ∧ SP s (i + 1)) := ⟨⟨HI.out.1.perm, HI.out.1.blk.drew, HI.out.1.but.drew⟩, HI.out.2.stop (.inr (by have h1 := HX.out; have h2 := HY.out; show s.getD q 0 ≤ s.getD (q + 1) 0; omega))⟩
            clear HI HKK hxy d5
            go_wp2_with fail
            go_roundw
            case rel => exact ⟨i + 1, s, by go_num, by omega, by omega, HNEW⟩
            case measure => simp [intOf]; omega
    · have d1 : decide (i < n) = false := decide_eq_false hlt
      have d2 : decide ((i : Int) < (n : Int)) = false := decide_eq_false (by omega)
      have HEND : Hid (∃ s, InsI w wr T z s0 s ∧ s.Pairwise (· ≤ ·)) := ⟨s, HI.out.1, by
        refine SP.sorted (fun x y h1 h2 => HI.out.2 x y h1 ?_)
        have := HI.out.1.perm.length_eq
        have := HN.out
        omega⟩
      go_wp2_with fail
      go_end0
      exact ⟨rfl, HEND.out⟩
end Go.Proofs.YtljfhabhenaapaaDoor
