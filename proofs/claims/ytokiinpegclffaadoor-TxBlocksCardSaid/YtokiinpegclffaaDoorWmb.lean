/-
  Plain mathematics of counts: what is read as one is those bytes that it is written in.
-/
import Derived.Test.YtokiinpegclffaaDoorReaZ
namespace Go.Proofs.YtokiinpegclffaaDoor
open Go.RowKit
set_option linter.unusedVariables false

theorem take_ok (s : St) (k : Nat) (h : (rdTake s k).2.2 = 0) : s.2 = 0 ∧ k ≤ s.1.length ∧ rdTake s k = (s.1.take k, (s.1.drop k, 0)) := by
  unfold rdTake at h ⊢
  split at h
  · rename_i hk
    rw [if_pos hk]
    have h : s.2 = 0 := h
    refine ⟨h, by omega, ?_⟩
    rw [h, Int.toNat_natCast]
  · have h : (if s.2 = 0 then 6 else s.2) = 0 := h
    split at h
    · omega
    · omega
theorem num_ok (s : St) (k : Nat) (hk : k ≤ 8) (h : (rdNum s k).2.2 = 0) : s.2 = 0 ∧ k ≤ s.1.length ∧ rdNum s k = (ofL (s.1.take k), (s.1.drop k, 0)) := by
  obtain ⟨h1, h2, h3⟩ := take_ok s k h
  refine ⟨h1, h2, ?_⟩
  unfold rdNum
  rw [h3]
  simp only
  rw [List.take_of_length_le (by rw [List.length_take]; omega)]
set_option maxHeartbeats 1000000 in
theorem cnt_back (xs : List Nat) (hx : ∀ x ∈ xs, x < 256) (h : (rdCnt (xs, 0)).2.2 = 0) (h2 : ¬ (rdCnt (xs, 0)).1.1 < (rdCnt (xs, 0)).1.2) : xs = countL (rdCnt (xs, 0)).1.1 ++ (rdCnt (xs, 0)).2.1 := by
  by_cases h253 : (rdNum (xs, 0) 1).1 = 253
  · have e : rdCnt (xs, 0) = (((rdNum (rdNum (xs, 0) 1).2 2).1, 253), (rdNum (rdNum (xs, 0) 1).2 2).2) := by
      unfold rdCnt
      rw [if_pos h253]
    rw [e] at h h2 ⊢
    obtain ⟨g1, g2, g3⟩ := num_ok _ 2 (by omega) h
    obtain ⟨_, f2, f3⟩ := num_ok (xs, 0) 1 (by omega) g1
    match xs, hx, h253, h, h2, g1, g2, g3, f2, f3 with
    | [], _, _, _, _, _, _, _, f2, _ => simp at f2
    | x :: ys, hx, hv, h, h2, g1, g2, g3, f2, f3 =>
      have f3 : rdNum (x :: ys, 0) 1 = (x, (ys, 0)) := by
        rw [show ((1 : Nat) : Int) = 1 from rfl] at f3
        rw [f3]
        simp [ofL]
      rw [show ((2 : Nat) : Int) = 2 from rfl] at g3
      rw [f3] at hv g2 g3 h2 ⊢
      simp only at hv g2 g3
      rw [g3] at h2 ⊢
      simp only at h2 ⊢
      subst hv
      have hl : (ys.take 2).length = 2 := by rw [List.length_take]; omega
      have hy : ∀ z ∈ ys.take 2, z < 256 := fun z hz => hx z (List.mem_cons_of_mem _ (List.mem_of_mem_take hz))
      have hlt := ofL_lt _ hy
      rw [hl] at hlt
      have ht := toL_ofL _ hy
      rw [hl] at ht
      generalize ofL (ys.take 2) = n at *
      have ec : countL n = toL 253 1 ++ toL n 2 := by
        unfold countL
        rw [if_neg (by omega), if_pos (by omega)]
      rw [ec, ht, List.append_assoc, List.take_append_drop]
      rfl
  by_cases h254 : (rdNum (xs, 0) 1).1 = 254
  · have e : rdCnt (xs, 0) = (((rdNum (rdNum (xs, 0) 1).2 4).1, 65536), (rdNum (rdNum (xs, 0) 1).2 4).2) := by
      unfold rdCnt
      rw [if_neg h253, if_pos h254]
    rw [e] at h h2 ⊢
    obtain ⟨g1, g2, g3⟩ := num_ok _ 4 (by omega) h
    obtain ⟨_, f2, f3⟩ := num_ok (xs, 0) 1 (by omega) g1
    match xs, hx, h254, h, h2, g1, g2, g3, f2, f3 with
    | [], _, _, _, _, _, _, _, f2, _ => simp at f2
    | x :: ys, hx, hv, h, h2, g1, g2, g3, f2, f3 =>
      have f3 : rdNum (x :: ys, 0) 1 = (x, (ys, 0)) := by
        rw [show ((1 : Nat) : Int) = 1 from rfl] at f3
        rw [f3]
        simp [ofL]
      rw [show ((4 : Nat) : Int) = 4 from rfl] at g3
      rw [f3] at hv g2 g3 h2 ⊢
      simp only at hv g2 g3
      rw [g3] at h2 ⊢
      simp only at h2 ⊢
      subst hv
      have hl : (ys.take 4).length = 4 := by rw [List.length_take]; omega
      have hy : ∀ z ∈ ys.take 4, z < 256 := fun z hz => hx z (List.mem_cons_of_mem _ (List.mem_of_mem_take hz))
      have hlt := ofL_lt _ hy
      rw [hl] at hlt
      have ht := toL_ofL _ hy
      rw [hl] at ht
      generalize ofL (ys.take 4) = n at *
      have ec : countL n = toL 254 1 ++ toL n 4 := by
        unfold countL
        rw [if_neg (by omega), if_neg (by omega), if_pos (by omega)]
      rw [ec, ht, List.append_assoc, List.take_append_drop]
      rfl
  by_cases h255 : (rdNum (xs, 0) 1).1 = 255
  · have e : rdCnt (xs, 0) = (((rdNum (rdNum (xs, 0) 1).2 8).1, 4294967296), (rdNum (rdNum (xs, 0) 1).2 8).2) := by
      unfold rdCnt
      rw [if_neg h253, if_neg h254, if_pos h255]
    rw [e] at h h2 ⊢
    obtain ⟨g1, g2, g3⟩ := num_ok _ 8 (by omega) h
    obtain ⟨_, f2, f3⟩ := num_ok (xs, 0) 1 (by omega) g1
    match xs, hx, h255, h, h2, g1, g2, g3, f2, f3 with
    | [], _, _, _, _, _, _, _, f2, _ => simp at f2
    | x :: ys, hx, hv, h, h2, g1, g2, g3, f2, f3 =>
      have f3 : rdNum (x :: ys, 0) 1 = (x, (ys, 0)) := by
        rw [show ((1 : Nat) : Int) = 1 from rfl] at f3
        rw [f3]
        simp [ofL]
      rw [show ((8 : Nat) : Int) = 8 from rfl] at g3
      rw [f3] at hv g2 g3 h2 ⊢
      simp only at hv g2 g3
      rw [g3] at h2 ⊢
      simp only at h2 ⊢
      subst hv
      have hl : (ys.take 8).length = 8 := by rw [List.length_take]; omega
      have hy : ∀ z ∈ ys.take 8, z < 256 := fun z hz => hx z (List.mem_cons_of_mem _ (List.mem_of_mem_take hz))
      have hlt := ofL_lt _ hy
      rw [hl] at hlt
      have ht := toL_ofL _ hy
      rw [hl] at ht
      generalize ofL (ys.take 8) = n at *
      have ec : countL n = toL 255 1 ++ toL n 8 := by
        unfold countL
        rw [if_neg (by omega), if_neg (by omega), if_neg (by omega)]
      rw [ec, ht, List.append_assoc, List.take_append_drop]
      rfl
  have e : rdCnt (xs, 0) = (((rdNum (xs, 0) 1).1, 0), (rdNum (xs, 0) 1).2) := by
    unfold rdCnt
    rw [if_neg h253, if_neg h254, if_neg h255]
  rw [e] at h ⊢
  obtain ⟨_, f2, f3⟩ := num_ok (xs, 0) 1 (by omega) h
  match xs, hx, h253, h254, h255, f2, f3 with
  | [], _, _, _, _, f2, _ => simp at f2
  | x :: ys, hx, n1, n2, n3, f2, f3 =>
    have f3 : rdNum (x :: ys, 0) 1 = (x, (ys, 0)) := by
      rw [show ((1 : Nat) : Int) = 1 from rfl] at f3
      rw [f3]
      simp [ofL]
    rw [f3] at n1 n2 n3 ⊢
    simp only at n1 n2 n3 ⊢
    have hx0 := hx x (List.mem_cons_self ..)
    have ec : countL x = toL x 1 := by
      unfold countL
      rw [if_pos (by omega)]
    rw [ec]
    simp [toL]
    omega
theorem count_back (xs : List Nat) (M : Nat) (hx : ∀ x ∈ xs, x < 256) (h : (rdCount (xs, 0) M).2.2 = 0) : xs = countL (rdCount (xs, 0) M).1 ++ (rdCount (xs, 0) M).2.1 := by
  have hb := cnt_back xs hx
  unfold rdCount at h ⊢
  generalize rdCnt (xs, 0) = c at *
  obtain ⟨⟨n, l⟩, t⟩ := c
  simp only at *
  by_cases h1 : t.2 ≠ 0
  · rw [if_pos h1] at h
    exact absurd h h1
  · rw [if_neg h1] at h ⊢
    have h1 : t.2 = 0 := by omega
    by_cases h2 : n < l
    · rw [if_pos h2] at h
      have h : (if t.2 = 0 then 70 else t.2) = 0 := h
      rw [if_pos h1] at h
      omega
    · rw [if_neg h2] at h ⊢
      by_cases h3 : M < n
      · rw [if_pos h3] at h
        have h : (if t.2 = 0 then 2 else t.2) = 0 := h
        rw [if_pos h1] at h
        omega
      · rw [if_neg h3]
        exact hb h1 h2
/-- Behind an error nothing is left. -/
def Inv (s : St) : Prop := s.2 ≠ 0 → s.1 = []
theorem Inv.take {s : St} (h : Inv s) (n : Int) : Inv (rdTake s n).2 := by
  unfold rdTake
  split
  · intro hn
    have := h hn
    show s.1.drop n.toNat = []
    rw [this]
    simp
  · intro _
    rfl
theorem Inv.num {s : St} (h : Inv s) (n : Int) : Inv (rdNum s n).2 := h.take n
theorem Inv.cnt {s : St} (h : Inv s) : Inv (rdCnt s).2 := by
  unfold rdCnt
  split
  · exact (h.num 1).num 2
  · split
    · exact (h.num 1).num 4
    · split
      · exact (h.num 1).num 8
      · exact h.num 1
theorem count_bad (s : St) (M : Nat) (hi : Inv s) (h : (rdCount s M).2.2 ≠ 0) : (rdCount s M).1 = 0 ∧ (rdCount s M).2.1 = [] := by
  have hc := hi.cnt
  unfold rdCount at h ⊢
  generalize rdCnt s = c at *
  obtain ⟨⟨n, l⟩, t⟩ := c
  simp only at *
  by_cases h1 : t.2 ≠ 0
  · rw [if_pos h1]
    exact ⟨rfl, hc h1⟩
  · rw [if_neg h1] at h ⊢
    by_cases h2 : n < l
    · rw [if_pos h2]
      exact ⟨rfl, rfl⟩
    · rw [if_neg h2] at h ⊢
      by_cases h3 : M < n
      · rw [if_pos h3]
        exact ⟨rfl, rfl⟩
      · rw [if_neg h3] at h
        exact absurd h h1
end Go.Proofs.YtokiinpegclffaaDoor
