/-
  What is heard in pieces is what is heard in one.
-/
import Derived.Test.YtkpffjcdalclmaaDoorHrA
namespace Go.Proofs.YtkpffjcdalclmaaDoor
open Go.RowKit
set_option linter.unusedVariables false
set_option linter.unusedSimpArgs false
set_option maxRecDepth 100000
def PeM.at_ (m : PeM) (h : List Nat) (e : Nat) : PeM := { m with h := h, e := e }
def PeM.worst (m : PeM) : PeM := { m with sc := blI m.sc 100 }
theorem at_at (m : PeM) (h h2 : List Nat) (e e2 : Nat) : (m.at_ h e).at_ h2 e2 = m.at_ h2 e2 := rfl
theorem greetF_at (m : PeM) (h : List Nat) (e : Nat) (k : Int) (n t : Nat) : greetF (m.at_ h e) k n t = ((greetF m k n t).1.at_ h e, (greetF m k n t).2) := by
  unfold greetF
  by_cases h1 : k = 1 ∧ m.kn = false
  · rw [if_pos (show k = 1 ∧ (m.at_ h e).kn = false from h1), if_pos h1]
    by_cases h2 : n = m.nc
    · rw [if_pos (show n = (m.at_ h e).nc from h2), if_pos h2]
      rfl
    · rw [if_neg (show ¬ n = (m.at_ h e).nc from h2), if_neg h2]
      rfl
  · rw [if_neg (show ¬ (k = 1 ∧ (m.at_ h e).kn = false) from h1), if_neg h1]
    by_cases h2 : k = 2 ∧ m.kn = true ∧ m.rd = false
    · rw [if_pos (show k = 2 ∧ (m.at_ h e).kn = true ∧ (m.at_ h e).rd = false from h2), if_pos h2]
      rfl
    · rw [if_neg (show ¬ (k = 2 ∧ (m.at_ h e).kn = true ∧ (m.at_ h e).rd = false) from h2), if_neg h2]
      rfl
theorem ansF_at (m : PeM) (h : List Nat) (e : Nat) (n : Nat) : ansF (m.at_ h e) n = (ansF m n).at_ h e := by
  unfold ansF
  by_cases hh : ((n : Int) == curI m) = true
  · rw [if_pos (show ((n : Int) == curI (m.at_ h e)) = true from hh), if_pos hh]
    rfl
  · rw [if_neg (show ¬ ((n : Int) == curI (m.at_ h e)) = true from hh), if_neg hh]
theorem hear1_at (m : PeM) (h : List Nat) (e : Nat) (f : List Nat × List Nat) : hear1 (m.at_ h e) f = ((hear1 m f).1.at_ h e, (hear1 m f).2.1, (hear1 m f).2.2) := by
  unfold hear1
  by_cases h1 : m.sc = 100
  · rw [if_pos (show (m.at_ h e).sc = 100 from h1), if_pos h1]
  rw [if_neg (show ¬ (m.at_ h e).sc = 100 from h1), if_neg h1]
  by_cases h2 : decE f.1 f.2 = 90
  · rw [if_pos h2, if_pos h2]
  rw [if_neg h2, if_neg h2]
  by_cases h3 : decE f.1 f.2 ≠ 0
  · rw [if_pos h3, if_pos h3]
    rfl
  rw [if_neg h3, if_neg h3]
  by_cases h4 : m.rd = false ∨ kindN f.1 = 1 ∨ kindN f.1 = 2
  · rw [if_pos (show (m.at_ h e).rd = false ∨ kindN f.1 = 1 ∨ kindN f.1 = 2 from h4), if_pos h4]
    simp only [greetF_at]
  rw [if_neg (show ¬ ((m.at_ h e).rd = false ∨ kindN f.1 = 1 ∨ kindN f.1 = 2) from h4), if_neg h4]
  by_cases h5 : kindN f.1 = 9
  · rw [if_pos h5, if_pos h5]
  rw [if_neg h5, if_neg h5]
  by_cases h6 : kindN f.1 = 10
  · rw [if_pos h6, if_pos h6]
    simp only [ansF_at]
  rw [if_neg h6, if_neg h6]
theorem hearF_at (l : List (List Nat × List Nat)) (h : List Nat) (e : Nat) : ∀ m : PeM, hearF (m.at_ h e) l = ((hearF m l).1.at_ h e, (hearF m l).2.1, (hearF m l).2.2) := by
  induction l with
  | nil => intro m; rfl
  | cons f l ih => intro m; simp only [hearF, hear1_at, ih]
theorem hearM_as (m : PeM) (B : List Nat) (s : FS) (hs : s = feedL ⟨m.h, m.e, []⟩ B) : hearM m B = (if s.e ≠ 0 then ((hearF m s.out).1.at_ s.h s.e).worst else (hearF m s.out).1.at_ s.h s.e, (hearF m s.out).2.1, (hearF m s.out).2.2) := by
  rw [hearM_of m B s hs]
  have h := hearF_at s.out s.h s.e m
  unfold PeM.at_ at h
  rw [h]
  rfl
theorem bl_100 {s : Int} (h : 0 ≤ s ∧ s ≤ 100) : blI s 100 = 100 := by unfold blI; omega
/-- In pieces. -/
theorem hearM_app {m : PeM} (hs : ScOk m) (a b : List Nat) : hearM m (a ++ b) = ((hearM (hearM m a).1 b).1, (hearM m a).2.1 ++ (hearM (hearM m a).1 b).2.1, (hearM m a).2.2 ++ (hearM (hearM m a).1 b).2.2) := by
  obtain ⟨s1, h1⟩ : ∃ s, s = feedL ⟨m.h, m.e, []⟩ a := ⟨_, rfl⟩
  obtain ⟨s, h0⟩ : ∃ s, s = feedL ⟨m.h, m.e, []⟩ (a ++ b) := ⟨_, rfl⟩
  have hc := hearF_sc s1.out hs
  rw [hearM_as m (a ++ b) s h0, hearM_as m a s1 h1]
  rw [feedL_app, ← h1] at h0
  by_cases he : s1.e ≠ 0
  · rw [feedL_bad s1 he] at h0
    subst h0
    rw [if_pos he]
    obtain ⟨F, hF⟩ : ∃ F, F = hearF m s.out := ⟨_, rfl⟩
    rw [← hF] at hc ⊢
    have h2 : (⟨s.h, s.e, []⟩ : FS) = feedL ⟨s.h, s.e, []⟩ b := (feedL_bad ⟨s.h, s.e, []⟩ he b).symm
    have h3 := hearM_as (F.1.at_ s.h s.e).worst b ⟨s.h, s.e, []⟩ h2
    rw [if_pos he] at h3
    rw [h3]
    have h4 : blI (blI F.1.sc 100) 100 = blI F.1.sc 100 := by
      rw [bl_100 hc.1]
      exact bl_100 (by omega)
    simp only [hearF, List.append_nil]
    have h5 : (((F.1.at_ s.h s.e).worst).at_ s.h s.e).worst = (F.1.at_ s.h s.e).worst := by
      unfold PeM.worst PeM.at_
      simp only [h4]
    rw [h5]
  · rw [if_neg he]
    obtain ⟨s2, h2⟩ : ∃ s, s = feedL ⟨s1.h, s1.e, []⟩ b := ⟨_, rfl⟩
    have ho := feedL_out b s1.h s1.e s1.out
    rw [← h2, show (⟨s1.h, s1.e, s1.out⟩ : FS) = s1 from rfl, ← h0] at ho
    rw [ho]
    have h3 := hearM_as ((hearF m s1.out).1.at_ s1.h s1.e) b s2 h2
    rw [h3]
    simp only [hearF_app, hearF_at, at_at]
end Go.Proofs.YtkpffjcdalclmaaDoor
