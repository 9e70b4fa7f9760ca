/-
  CheckOrder: mathematics: the order of what goes in and of what comes out says nothing.
-/
import Derived.Test.YtpemljbdmbinlaaDoorChD
namespace Go.Proofs.YtpemljbdmbinlaaDoor
open Go.RowKit
set_option linter.unusedVariables false
set_option linter.unusedSimpArgs false

theorem osum_val (l : List OutM) : ∀ s, (osum s l).1 = if (osum s l).2 = true then s + (l.map (·.am)).sum else 0 := by
  induction l with
  | nil => intro s; simp [osum]
  | cons x r ih =>
    intro s
    unfold osum
    split
    · rfl
    · rw [ih, List.map_cons, List.sum_cons]
      split
      · omega
      · rfl
theorem sum_rev (l : List Int) : l.reverse.sum = l.sum := by
  induction l with
  | nil => rfl
  | cons x r ih => rw [List.reverse_cons, List.sum_append, ih, List.sum_cons, List.sum_cons, List.sum_nil]; omega
theorem osum_rev (l : List OutM) : osum 0 l.reverse = osum 0 l := by
  have h2 : (osum 0 l.reverse).2 = (osum 0 l).2 := by
    rw [Bool.eq_iff_iff, osum_good l.reverse 0 ⟨by decide, by decide⟩, osum_good l 0 ⟨by decide, by decide⟩, List.map_reverse, sum_rev]
    simp only [List.mem_reverse]
  refine Prod.ext ?_ h2
  rw [osum_val, osum_val, h2, List.map_reverse, sum_rev]
theorem inE_good (f : Bool) (l : List InM) : ∀ seen, inE f seen l = 0 ↔ (∀ x ∈ l, x.key.length ≤ 100 ∧ (decide (inP x = mkP) != f) = false ∧ inP x ∉ seen) ∧ (l.map inP).Nodup := by
  induction l with
  | nil => intro seen; simp [inE]
  | cons x r ih =>
    intro seen
    have e : inE f seen (x :: r) = if 100 < x.key.length then 2 else if (decide (inP x = mkP) != f) = true then 120 else if inP x ∈ seen then 5 else inE f (seen ++ [inP x]) r := rfl
    rw [e]
    by_cases h1 : 100 < x.key.length
    · rw [if_pos h1]
      constructor
      · intro h; cases h
      · rintro ⟨h, _⟩
        have := (h x List.mem_cons_self).1
        omega
    · rw [if_neg h1]
      by_cases h2 : (decide (inP x = mkP) != f) = true
      · rw [if_pos h2]
        constructor
        · intro h; cases h
        · rintro ⟨h, _⟩
          have := (h x List.mem_cons_self).2.1
          rw [h2] at this
          cases this
      · rw [if_neg h2]
        by_cases h3 : inP x ∈ seen
        · rw [if_pos h3]
          constructor
          · intro h; cases h
          · rintro ⟨h, _⟩
            exact absurd h3 (h x List.mem_cons_self).2.2
        · rw [if_neg h3, ih, List.map_cons, List.nodup_cons]
          constructor
          · rintro ⟨h4, h5⟩
            refine ⟨fun y hy => ?_, fun hm => ?_, h5⟩
            · rcases List.mem_cons.1 hy with rfl | hy
              · exact ⟨by omega, by simpa using h2, h3⟩
              · obtain ⟨a, b, c⟩ := h4 y hy
                exact ⟨a, b, fun hc => c (List.mem_append_left _ hc)⟩
            · obtain ⟨y, hy, he⟩ := List.mem_map.1 hm
              exact (h4 y hy).2.2 (by rw [he]; simp)
          · rintro ⟨h4, h5, h6⟩
            refine ⟨fun y hy => ?_, h6⟩
            obtain ⟨a, b, c⟩ := h4 y (List.mem_cons_of_mem _ hy)
            refine ⟨a, b, fun hc => ?_⟩
            rcases List.mem_append.1 hc with h | h
            · exact c h
            · rw [List.mem_singleton] at h
              exact h5 (by rw [← h]; exact List.mem_map_of_mem hy)
theorem nodup_rev {α : Type} (l : List α) : l.reverse.Nodup ↔ l.Nodup := by
  unfold List.Nodup
  rw [List.pairwise_reverse]
  exact ⟨fun h => h.imp (fun h => Ne.symm h), fun h => h.imp (fun h => Ne.symm h)⟩
theorem inE_rev (f : Bool) (l : List InM) : inE f [] l.reverse = 0 ↔ inE f [] l = 0 := by
  rw [inE_good, inE_good, List.map_reverse, nodup_rev]
  simp only [List.mem_reverse]
theorem txE_rev (f : Bool) (t u : TxM) (hi : u.ins = t.ins.reverse) (ho : u.outs = t.outs.reverse) : txE f u = 0 ↔ txE f t = 0 := by
  unfold txE
  rw [hi, ho, osum_rev, List.length_reverse, List.length_reverse]
  have h := inE_rev f t.ins
  by_cases h1 : ¬ (0 < t.ins.length ∧ t.ins.length ≤ 32)
  · rw [if_pos h1, if_pos h1]
  · rw [if_neg h1, if_neg h1]
    by_cases h2 : ¬ (0 < t.outs.length ∧ t.outs.length ≤ 32)
    · rw [if_pos h2, if_pos h2]
    · rw [if_neg h2, if_neg h2]
      by_cases h3 : inE f [] t.ins = 0
      · rw [if_neg (show ¬ inE f [] t.ins.reverse ≠ 0 by rw [h.2 h3]; decide), if_neg (show ¬ inE f [] t.ins ≠ 0 by rw [h3]; decide)]
      · rw [if_pos (show inE f [] t.ins.reverse ≠ 0 from fun e => h3 (h.1 e)), if_pos (show inE f [] t.ins ≠ 0 from h3)]
        exact ⟨fun e => absurd (h.1 e) h3, fun e => absurd e h3⟩
/-- As far as it came, from behind. -/
theorem rev_take {α : Type} (l : List α) (k : Nat) (x : α) (hk : k < l.length) (hx : l[l.length - 1 - k]? = some x) : l.reverse.take (k + 1) = l.reverse.take k ++ [x] := by
  rw [List.take_add_one, List.getElem?_reverse hk, hx]
  rfl
end Go.Proofs.YtpemljbdmbinlaaDoor
