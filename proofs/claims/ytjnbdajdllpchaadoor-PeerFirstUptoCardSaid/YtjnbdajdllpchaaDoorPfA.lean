/-
  What one frame does to a greeting.
-/
import Derived.Test.YtjnbdajdllpchaaDoorDeA
namespace Go.Proofs.YtjnbdajdllpchaaDoor
open Go.RowKit
set_option linter.unusedVariables false
set_option linter.unusedSimpArgs false
set_option maxRecDepth 100000
theorem greetF_ans (m : PeM) (k : Int) (n h : Nat) : ((greetF m k n h).2 = false ∧ (greetF m k n h).1.kn = m.kn) ∨ ((greetF m k n h).2 = true ∧ m.kn = false ∧ (greetF m k n h).1.kn = true) := by
  unfold greetF
  split
  · rename_i h1
    split
    · exact .inl ⟨rfl, rfl⟩
    · exact .inr ⟨rfl, h1.2, rfl⟩
  · split <;> exact .inl ⟨rfl, rfl⟩
theorem greetF_rd (m : PeM) (k : Int) (n h : Nat) (hr : m.rd = true → m.kn = true) : (greetF m k n h).1.rd = true → (greetF m k n h).1.kn = true := by
  unfold greetF
  split
  · split
    · exact hr
    · exact fun _ => rfl
  · split
    · rename_i h2
      exact fun _ => h2.2.1
    · exact hr
theorem hear1_ans (m : PeM) (f) : ((hear1 m f).2.2 = [] ∧ (hear1 m f).1.kn = m.kn) ∨ ((hear1 m f).2.2 = [verK] ∧ m.kn = false ∧ (hear1 m f).1.kn = true) ∨ (∃ n, (hear1 m f).2.2 = [pongK n] ∧ m.rd = true ∧ (hear1 m f).1.kn = m.kn) := by
  unfold hear1
  split
  · exact .inl ⟨rfl, rfl⟩
  split
  · exact .inl ⟨rfl, rfl⟩
  split
  · exact .inl ⟨rfl, rfl⟩
  split
  · rcases greetF_ans m (kindN f.1 : Int) (decKey (kindN f.1) f.2).2.1 (decHt (kindN f.1) f.2) with ⟨h1, h2⟩ | ⟨h1, h2, h3⟩
    · exact .inl ⟨by simp only [h1]; rfl, h2⟩
    · exact .inr (.inl ⟨by simp only [h1]; rfl, h2, h3⟩)
  · rename_i hn
    have hrd : m.rd = true := by
      cases h : m.rd
      · exact absurd (.inl h) hn
      · rfl
    split
    · exact .inr (.inr ⟨_, rfl, hrd, rfl⟩)
    split
    · exact .inl ⟨rfl, (ansF_sc _ _).2.2.1⟩
    · exact .inl ⟨rfl, rfl⟩
theorem hear1_rd (m : PeM) (f) (hr : m.rd = true → m.kn = true) : (hear1 m f).1.rd = true → (hear1 m f).1.kn = true := by
  unfold hear1
  split
  · exact hr
  split
  · exact hr
  split
  · exact hr
  split
  · exact greetF_rd m _ _ _ hr
  split
  · exact hr
  split
  · rw [(ansF_sc _ _).2.1, (ansF_sc _ _).2.2.1]
    exact hr
  · exact hr
theorem hear1_said (m : PeM) (f) (hr : m.rd = false) : (hear1 m f).2.1 = [] := by
  unfold hear1
  split
  · rfl
  split
  · rfl
  split
  · rfl
  rw [if_pos (.inl hr)]
/-- What is heard of one message. -/
theorem hear_enc (m : PeM) (x : MsM) (h1 : m.h = []) (h2 : m.e = 0) (hd : msE x = 0 → (dataL x).length ≤ 16384 ∧ WordOk (kindL x.kd.toNat) ∧ ∀ b ∈ dataL x, b < 256) :
    hearM m (encB x) = if msE x = 0 then hear1 m (kindL x.kd.toNat, dataL x) else (m, [], []) := by
  obtain ⟨sc, nc, si, wt, hh, e, kn, rd, ht⟩ := m
  simp only at h1 h2
  subst h1
  subst h2
  unfold encB
  by_cases hm : msE x = 0
  · rw [if_pos hm, if_pos hm]
    obtain ⟨a, b, c⟩ := hd hm
    have hs : (⟨[], 0, [(kindL x.kd.toNat, dataL x)]⟩ : FS) = feedL ⟨[], 0, []⟩ (encL (kindL x.kd.toNat) (dataL x)) := (feed_one _ _ b a c).symm
    rw [hearM_of (⟨sc, nc, si, wt, [], 0, kn, rd, ht⟩ : PeM) _ _ hs]
    simp only [ne_eq, not_true_eq_false, if_false, hearF_one]
  · rw [if_neg hm, if_neg hm]
    rw [hearM_of (⟨sc, nc, si, wt, [], 0, kn, rd, ht⟩ : PeM) [] ⟨[], 0, []⟩ rfl]
    simp only [ne_eq, not_true_eq_false, if_false, hearF]
/-- A peer behind some messages. -/
def FstI (m : PeM) (vk : Nat) : Prop := m.h = [] ∧ m.e = 0 ∧ ScOk m ∧ (m.rd = true → m.kn = true) ∧ vk = (if m.kn = true then 1 else 0)
def verN (l : List KeyM) : Nat := (l.filter fun k => k.1 == 2).length
theorem fst_step (m : PeM) (vk : Nat) (x : MsM) (hI : FstI m vk) (hd : msE x = 0 → (dataL x).length ≤ 16384 ∧ WordOk (kindL x.kd.toNat) ∧ ∀ b ∈ dataL x, b < 256) :
    FstI (hearM m (encB x)).1 (vk + verN (hearM m (encB x)).2.2) ∧ (m.rd = false → (hearM m (encB x)).2.1 = [] ∧ ∀ k ∈ (hearM m (encB x)).2.2, k.1 = 2) ∧ (hearM m (encB x)).2.2.length ≤ 1 := by
  obtain ⟨h1, h2, h3, h4, h5⟩ := hI
  rw [hear_enc m x h1 h2 hd]
  split
  · have hr := hear1_rest m (kindL x.kd.toNat, dataL x)
    have hs := hear1_sc h3 (kindL x.kd.toNat, dataL x)
    refine ⟨⟨hr.1.trans h1, hr.2.1.trans h2, hs.1, hear1_rd m _ h4, ?_⟩, fun hrd => ⟨hear1_said m _ hrd, ?_⟩, ?_⟩
    · rcases hear1_ans m (kindL x.kd.toNat, dataL x) with ⟨e1, e2⟩ | ⟨e1, e2, e3⟩ | ⟨n, e1, e2, e3⟩
      · rw [e1, e2, h5]; rfl
      · rw [e1, e3, h5, e2]; rfl
      · rw [e1, e3, h5]; rfl
    · rcases hear1_ans m (kindL x.kd.toNat, dataL x) with ⟨e1, e2⟩ | ⟨e1, e2, e3⟩ | ⟨n, e1, e2, e3⟩
      · rw [e1]; intro k hk; cases hk
      · rw [e1]; intro k hk; rw [List.mem_singleton.1 hk]; rfl
      · rw [hrd] at e2; cases e2
    · rcases hear1_ans m (kindL x.kd.toNat, dataL x) with ⟨e1, e2⟩ | ⟨e1, e2, e3⟩ | ⟨n, e1, e2, e3⟩ <;> (rw [e1]; simp)
  · exact ⟨⟨h1, h2, h3, h4, h5⟩, fun hrd => ⟨rfl, fun k hk => by cases hk⟩, Nat.zero_le _⟩
end Go.Proofs.YtjnbdajdllpchaaDoor
