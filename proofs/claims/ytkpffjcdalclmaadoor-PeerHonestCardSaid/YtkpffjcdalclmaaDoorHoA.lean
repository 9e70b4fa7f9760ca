/-
  Texts in one: PfA, HoA.
-/
import Derived.Test.YtkpffjcdalclmaaDoorDeA
import Derived.Test.YtkpffjcdalclmaaDoorPcA
namespace Go.Proofs.YtkpffjcdalclmaaDoor
open Go.RowKit
set_option linter.unusedVariables false
set_option linter.unusedSimpArgs false
set_option maxRecDepth 100000
/-- What is heard of one message. -/
theorem hear_enc (m : PeM) (x : MsM) (h1 : m.h = []) (h2 : m.e = 0) (hd : msE x = 0 → (dataL x).length ≤ 16384 ∧ WordOk (kindL x.kd.toNat) ∧ ∀ b ∈ dataL x, b < 256) :
    hearM m (encB x) = if msE x = 0 then hear1 m (kindL x.kd.toNat, dataL x) else (m, [], []) := by
  obtain ⟨sc, nc, si, wt, hh, e, kn, rd, ht⟩ := m
  simp only at h1 h2
  subst h1
  subst h2
  unfold encB
  by_cases hm : msE x = 0
  · rw [if_pos hm, if_pos hm]
    obtain ⟨a, b, c⟩ := hd hm
    have hs : (⟨[], 0, [(kindL x.kd.toNat, dataL x)]⟩ : FS) = feedL ⟨[], 0, []⟩ (encL (kindL x.kd.toNat) (dataL x)) := (feed_one _ _ b a c).symm
    rw [hearM_of (⟨sc, nc, si, wt, [], 0, kn, rd, ht⟩ : PeM) _ _ hs]
    simp only [ne_eq, not_true_eq_false, if_false, hearF_one]
  · rw [if_neg hm, if_neg hm]
    rw [hearM_of (⟨sc, nc, si, wt, [], 0, kn, rd, ht⟩ : PeM) [] ⟨[], 0, []⟩ rfl]
    simp only [ne_eq, not_true_eq_false, if_false, hearF]
end Go.Proofs.YtkpffjcdalclmaaDoor
namespace Go.Proofs.YtkpffjcdalclmaaDoor
open Go.RowKit
set_option linter.unusedVariables false
set_option linter.unusedSimpArgs false
set_option maxRecDepth 100000
theorem nmSts_take (l : List I32) (ys : List Nat) : ∀ k, k ≤ l.length → nmSts k (idsB l ++ ys, 0) = (idsB (l.drop k) ++ ys, 0) := by
  intro k
  induction k with
  | zero => intro _; rfl
  | succ k ih =>
    intro hk
    show (rdTake (nmSts k (idsB l ++ ys, 0)) 32).2 = _
    rw [ih (by omega), List.drop_eq_getElem_cons (show k < l.length by omega)]
    have e : idsB (l[k] :: l.drop (k + 1)) = l[k].1 ++ idsB (l.drop (k + 1)) := rfl
    rw [e, List.append_assoc, rdTake_app _ _ _ _ (by rw [l[k].2.1]; rfl)]
theorem heSts_take (l : List HdI) (ys : List Nat) : ∀ k, k ≤ l.length → heSts k (hdsB l ++ ys, 0) = (hdsB (l.drop k) ++ ys, 0) := by
  intro k
  induction k with
  | zero => intro _; rfl
  | succ k ih =>
    intro hk
    show (rdTake (heSts k (hdsB l ++ ys, 0)) 80).2 = _
    rw [ih (by omega), List.drop_eq_getElem_cons (show k < l.length by omega)]
    have e : hdsB (l[k] :: l.drop (k + 1)) = hB l[k].1 ++ hdsB (l.drop (k + 1)) := rfl
    have e1 : hdsB [l[k]] = hB l[k].1 := List.append_nil _
    have e2 := hdsB_len [l[k]]
    rw [e1] at e2
    rw [e, List.append_assoc, rdTake_app _ _ _ _ (by rw [e2]; rfl)]
theorem nm_read (l : List I32) (ys : List Nat) (most : Nat) (h : l.length ≤ most) (hm : most < 1000) : nmSts (rdCount (nmB l ++ ys, 0) most).1 (rdCount (nmB l ++ ys, 0) most).2 = (ys, 0) := by
  unfold nmB
  rw [List.append_assoc, rdCount_fits _ _ _ (by omega) h]
  show nmSts l.length (idsB l ++ ys, 0) = _
  rw [nmSts_take l ys _ (Nat.le_refl _), List.drop_length]
  rfl
theorem he_read (l : List HdI) (most : Nat) (h : l.length ≤ most) (hm : most < 1000) : heSts (rdCount (heB l, 0) most).1 (rdCount (heB l, 0) most).2 = ([], 0) := by
  unfold heB
  rw [rdCount_fits _ _ _ (by omega) h]
  show heSts l.length (hdsB l, 0) = _
  have e := heSts_take l [] _ (Nat.le_refl _)
  rw [List.append_nil, List.drop_length] at e
  exact e
theorem data3 {m : MsM} (h : m.kd = 3) : dataL m = nmB m.nm ++ m.st.1 := by unfold dataL; rw [if_neg (by omega), if_pos h]
theorem data4 {m : MsM} (h : m.kd = 4) : dataL m = heB m.hd := by unfold dataL; rw [if_neg (by omega), if_neg (by omega), if_pos h]
theorem data5 {m : MsM} (h : m.kd = 5 ∨ m.kd = 6 ∨ m.kd = 8) : dataL m = nmB m.nm := by unfold dataL; rw [if_neg (by omega), if_neg (by omega), if_neg (by omega), if_pos h]
theorem data9 {m : MsM} (h : m.kd = 9 ∨ m.kd = 10) : dataL m = toL m.nc 8 := by unfold dataL; rw [if_neg (by omega), if_neg (by omega), if_neg (by omega), if_neg (by omega), if_neg (by omega), if_pos h]
/-- A message that may be written, but no version, verack or block, is read again. -/
theorem dec_enc {w : World} {B : Nat} {m : MsM} (hV : MsV w B m) (hm : msE m = 0) (h3 : 2 < m.kd) (h7 : m.kd ≠ 7) : decE (kindL m.kd.toNat) (dataL m) = 0 := by
  obtain ⟨h1, h10, hl⟩ := msE_kd hm
  obtain ⟨k, hk⟩ : ∃ k : Nat, m.kd = (k : Int) := ⟨m.kd.toNat, by omega⟩
  rw [hk, Int.toNat_natCast]
  unfold decE
  rw [kindN_of (by omega) (by omega), if_neg (by omega)]
  unfold codeK
  rw [if_neg (by omega)]
  have hr : rdSt k (dataL m) = ([], 0) := by
    unfold MsLong at hl
    unfold rdSt
    rw [if_neg (by omega)]
    by_cases k3 : k = 3
    · rw [if_pos k3, data3 (by omega)]
      rw [nm_read _ _ 32 (by omega) (by decide)]
      have e := rdTake_app m.st.1 [] 0 32 (by rw [m.st.2.1]; rfl)
      rw [List.append_nil] at e
      rw [e]
    rw [if_neg k3]
    by_cases k4 : k = 4
    · rw [if_pos k4, data4 (by omega)]
      exact he_read _ 32 (by omega) (by decide)
    rw [if_neg k4]
    by_cases k5 : k = 5 ∨ k = 6 ∨ k = 8
    · rw [if_pos k5, data5 (by omega)]
      have e := nm_read m.nm [] 64 (by omega) (by decide)
      rw [List.append_nil] at e
      exact e
    rw [if_neg k5, if_pos (by omega), data9 (by omega)]
    have e := rdNum_toL 8 m.nc [] 0 8 rfl (by decide) (by have := hV.1.2.1; omega)
    rw [List.append_nil] at e
    rw [e]
  unfold rdC
  rw [hr]
  have hs : rdSd k (dataL m) = 1 := by unfold rdSd; rw [if_neg (by omega)]
  rw [hs]
  rfl
/-- Somebody who greeted, and was never blamed. -/
def HoI (m : PeM) : Prop := m.h = [] ∧ m.e = 0 ∧ m.sc = 0 ∧ m.rd = true
theorem HoI.sc {m : PeM} (h : HoI m) : ScOk m := by unfold ScOk; rw [h.2.2.1]; decide
theorem ho_hear1 {m : PeM} (h : HoI m) (k : Nat) (da : List Nat) (hk : 3 ≤ k) (hk2 : k ≤ 10) (hd : decE (kindL k) da = 0) :
    HoI (hear1 m (kindL k, da)).1 ∧ (hear1 m (kindL k, da)).1.nc = m.nc ∧ (hear1 m (kindL k, da)).1.si = m.si ∧ ((hear1 m (kindL k, da)).1.wt = true → m.wt = true) := by
  obtain ⟨h1, h2, h3, h4⟩ := h
  unfold hear1
  rw [if_neg (by rw [h3]; decide), if_neg (by rw [hd]; decide), if_neg (by rw [hd]; decide)]
  simp only [kindN_of (show 1 ≤ k by omega) hk2]
  rw [if_neg (by rw [h4]; simp; omega)]
  split
  · exact ⟨⟨h1, h2, h3, h4⟩, rfl, rfl, id⟩
  split
  · unfold ansF
    split
    · exact ⟨⟨h1, h2, h3, h4⟩, rfl, rfl, fun h => by cases h⟩
    · exact ⟨⟨h1, h2, h3, h4⟩, rfl, rfl, id⟩
  · exact ⟨⟨h1, h2, h3, h4⟩, rfl, rfl, id⟩
/-- May it be sent here? -/
def hoQ (x : MsI) : Bool := decide (2 < x.1.kd) && decide (x.1.kd ≠ 7)
def hoB (x : MsI) : List Nat := if hoQ x = true then encB x.1 else []
def hoL (l : List MsI) : List Nat := (l.map hoB).flatten
theorem hoL_take (l : List MsI) (k : Nat) (x : MsI) (h : l[k]? = some x) : hoL (l.take (k + 1)) = hoL (l.take k) ++ hoB x := by
  unfold hoL
  rw [List.take_add_one, h, List.map_append, List.flatten_append]
  simp
theorem hoB_len (x : MsI) : (hoB x).length ≤ 8216 := by
  unfold hoB
  split
  · exact Go.Proofs.YtkpffjcdalclmaaDoor.encB_len x.1
  · exact Nat.zero_le _
theorem hoL_len (l : List MsI) : (hoL l).length ≤ 8216 * l.length := by
  induction l with
  | nil => exact Nat.le_refl _
  | cons x l ih =>
    have e : hoL (x :: l) = hoB x ++ hoL l := rfl
    have h := hoB_len x
    rw [e, List.length_append, List.length_cons]
    omega
theorem ho_one {w : World} {B : Nat} {m : PeM} (h : HoI m) (x : MsI) (hV : MsV w B x.1) :
    HoI (hearM m (hoB x)).1 ∧ (hearM m (hoB x)).1.nc = m.nc ∧ (hearM m (hoB x)).1.si = m.si ∧ ((hearM m (hoB x)).1.wt = true → m.wt = true) := by
  have hE : ∀ y : MsM, msE y = 0 → MsV w B y → (dataL y).length ≤ 16384 ∧ WordOk (kindL y.kd.toNat) ∧ ∀ b ∈ dataL y, b < 256 := fun y hm hv => by
    obtain ⟨a, b, c⟩ := msE_kd hm
    exact ⟨Nat.le_trans (dataL_short c) (by decide), kind_ok (by omega) (by omega), dataL_lt hv⟩
  have hnil : hearM m [] = (m, [], []) := by
    obtain ⟨sc, nc, si, wt, hh, e, kn, rd, ht⟩ := m
    obtain ⟨h1, h2, h3, h4⟩ := h
    simp only at h1 h2
    subst h1
    subst h2
    rw [hearM_of (⟨sc, nc, si, wt, [], 0, kn, rd, ht⟩ : PeM) [] ⟨[], 0, []⟩ rfl]
    simp only [ne_eq, not_true_eq_false, if_false, hearF]
  unfold hoB
  split
  · rename_i hq
    rw [hear_enc m x.1 h.1 h.2.1 (fun hm => hE x.1 hm hV)]
    split
    · rename_i hm
      obtain ⟨a, b, c⟩ := msE_kd hm
      have hq1 : 2 < x.1.kd ∧ x.1.kd ≠ 7 := by
        unfold hoQ at hq
        simpa using hq
      exact ho_hear1 h _ _ (by omega) (by omega) (dec_enc hV hm hq1.1 hq1.2)
    · exact ⟨h, rfl, rfl, id⟩
  · rw [hnil]
    exact ⟨h, rfl, rfl, id⟩
end Go.Proofs.YtkpffjcdalclmaaDoor
