/-
  Contracts of package wire's Reader: take.
-/
import Derived.Test.YtfflgimbgmbpaaaRea
namespace Go.Proofs.Ytfflgimbgmbpaaa
open Go.RowKit
set_option linter.unusedVariables false

/-- What a call that reads leaves. -/
def Took (p : Nat) (v : Value) (s : St) (w w' : World) (v' : Value) : Prop := RdS w' p v' s ∧ But (fun k => k = p) w w' ∧ ∀ k, slb v' k → slb v k
set_option maxRecDepth 100000 in
set_option maxHeartbeats 1000000 in
theorem take_bad (p : Nat) (n : Int) (v : Value) (s : St) (w : World) (hR : RdS w p v s) (h : n < 0 ∨ ¬ n < 0 ∧ (s.1.length : Int) < n) :
    Calls Try.prog 24 #[.pointer (some ⟨p, 0, none⟩), .int .i64 n] w fun r w' => r = .returned (.slice none 0 0) ∧ Took p v (rdFail s 6) w w' (.slice none 0 0) := by
  obtain ⟨xs, e⟩ := s
  obtain ⟨hP, hB, hN⟩ := hR
  obtain ⟨sl, cap, rfl, h1, h2, h3, h4⟩ := hB
  have c0 := hP.cell 0
  have c1 := hP.cell 1
  have f0 := hP.frozen 0
  have f1 := hP.frozen 1
  have z0 := hP.lt
  have HF := Lib.hid (fail_any p 6 e sl xs.length cap w hP)
  have he : (rdFail (xs, e) 6).2 = if e = 0 then 6 else e := rfl
  simp only at h
  generalize xs.length = m at *
  generalize hq : (if e = 0 then 6 else e : Nat) = q at *
  clear h1 h2 h3 h4 hP
  rcases h with h | ⟨h, h'⟩
  · have hd : decide (n < 0) = true := decide_eq_true h
    go_enter Try.func24, Try.ntmps24
    go_wp2_with fail
    refine HF.out.mono ?_
    rintro r w1 ⟨rfl, P1, B1⟩
    go_wp2_with fail
    go_ret
    refine ⟨rfl, ⟨?_, bsn_nil _ _ _ _ (by omega), fun n c e => by cases e; rfl⟩, B1, fun k h => absurd h (slb_none _ _ _)⟩
    rw [he]
    exact P1
  · have hd : decide (n < 0) = false := decide_eq_false h
    have hd2 : decide ((m : Int) < n) = true := decide_eq_true h'
    go_enter Try.func24, Try.ntmps24
    go_wp2_with fail
    refine HF.out.mono ?_
    rintro r w1 ⟨rfl, P1, B1⟩
    go_wp2_with fail
    go_ret
    refine ⟨rfl, ⟨?_, bsn_nil _ _ _ _ (by omega), fun n c e => by cases e; rfl⟩, B1, fun k h => absurd h (slb_none _ _ _)⟩
    rw [he]
    exact P1
theorem nth_drop (xs : List Nat) (j i : Nat) : nth (xs.drop j) i = nth xs (j + i) := by
  unfold nth
  rw [List.getD, List.getD, List.getElem?_drop]
theorem nth_take (xs : List Nat) (j i : Nat) (h : i < j) : nth (xs.take j) i = nth xs i := by
  unfold nth
  rw [List.getD, List.getD, List.getElem?_take_of_lt h]
theorem bsn_take {w : World} {S : Nat → Prop} {a : Addr} {m cap k : Nat} {xs : List Nat} (h : BsN w S (.slice (some a) m cap) xs) (hk : k ≤ xs.length) : BsN w S (.slice (some a) k cap) (xs.take k) := by
  obtain ⟨s, c, e, h1, h2, h3, h4⟩ := h
  cases e
  have hl : (xs.take k).length = k := by rw [List.length_take]; omega
  refine ⟨some a, cap, by rw [hl], by omega, h2, fun x hx => h3 x (List.mem_of_mem_take hx), fun hne => ?_⟩
  obtain ⟨b, o, e, g1, g2, g3⟩ := h4 (by rintro rfl; simp at hne)
  refine ⟨b, o, e, g1, g2, fun i hi => ?_⟩
  rw [hl] at hi
  rw [nth_take _ _ _ hi]
  exact g3 i (by omega)
theorem bsn_drop {w : World} {S : Nat → Prop} {a : Addr} {m cap k : Nat} {xs : List Nat} (h : BsN w S (.slice (some a) m cap) xs) (hk : k ≤ xs.length) : BsN w S (.slice (some (a.add k)) (m - k) (cap - k)) (xs.drop k) := by
  obtain ⟨s, c, e, h1, h2, h3, h4⟩ := h
  cases e
  have hl : (xs.drop k).length = xs.length - k := List.length_drop
  refine ⟨some (a.add k), cap - k, by rw [hl], by omega, by omega, fun x hx => h3 x (List.mem_of_mem_drop hx), fun hne => ?_⟩
  obtain ⟨b, o, e, g1, g2, g3⟩ := h4 (by rintro rfl; simp at hne)
  cases e
  refine ⟨b, o + k, by rw [Addr.add_mid], g1, g2, fun i hi => ?_⟩
  rw [nth_drop, Nat.add_assoc]
  exact g3 (k + i) (by omega)
theorem slb_add {a : Addr} {n c n' c' k j : Nat} (h : slb (.slice (some (a.add k)) n c) j) : slb (.slice (some a) n' c') j := by
  obtain ⟨o, n1, c1, e, e2⟩ := h
  cases e
  refine ⟨_, _, _, rfl, ?_⟩
  rw [← e2]
  unfold Addr.add
  split <;> rfl
theorem slb_same {a : Addr} {n c n' c' j : Nat} (h : slb (.slice (some a) n c) j) : slb (.slice (some a) n' c') j := by
  obtain ⟨o, n1, c1, e, e2⟩ := h
  cases e
  exact ⟨_, _, _, rfl, e2⟩
set_option maxRecDepth 100000 in
set_option maxHeartbeats 1000000 in
theorem take_good (p k : Nat) (v : Value) (s : St) (w : World) (hR : RdS w p v s) (h : k ≤ s.1.length) (hl : s.1.length ≤ 1000000) :
    Calls Try.prog 24 #[.pointer (some ⟨p, 0, none⟩), .int .i64 (k : Int)] w fun r w' => ∃ u, r = .returned u ∧ BsN w' (fun k => k = p) u (s.1.take k) ∧ ∃ v', Took p v (s.1.drop k, s.2) w w' v' := by
  obtain ⟨xs, e⟩ := s
  obtain ⟨hP, hB, hN⟩ := hR
  have HB := Lib.hid hB
  obtain ⟨sl, cap, rfl, h1, h2, h3, h4⟩ := hB
  have c0 := hP.cell 0
  have c1 := hP.cell 1
  have f0 := hP.frozen 0
  have f1 := hP.frozen 1
  have z0 := hP.lt
  have hd : decide ((k : Int) < 0) = false := decide_eq_false (by omega)
  have hd2 : decide ((xs.length : Int) < (k : Int)) = false := decide_eq_false (by simp only at h; omega)
  simp only at h hl
  have hl1 : (xs.take k).length = k := by rw [List.length_take]; omega
  have hl2 : (xs.drop k).length = xs.length - k := List.length_drop
  cases sl with
  | none =>
    have hx0 : xs = [] := by
      by_cases hx : xs = []
      · exact hx
      · obtain ⟨b, o, e, _⟩ := h4 hx
        cases e
    subst hx0
    have hc0 := hN _ _ rfl
    subst hc0
    have hk0 : k = 0 := by simpa using h
    subst hk0
    clear h1 h2 h3 h4 hN hl1 hl2 h hl HB
    go_enter Try.func24, Try.ntmps24
    go_wp2_with fail
    go_ret
    refine ⟨_, rfl, bsn_nil _ _ none 0 (by omega), .slice none 0 0, ⟨?_, bsn_nil _ _ none 0 (by omega), fun n c e => by cases e; rfl⟩, ?_, fun k h => absurd h (slb_none _ _ _)⟩
    · exact hP.set_ 0 _
    · exact But.set_ (S := fun k => k = p) (But.refl _ w) (.inl rfl) 0 none _
  | some a =>
    have H3 := Lib.hid h3
    have H4 := Lib.hid h4
    have HN := Lib.hid hN
    have HL1 := Lib.hid hl1
    have HL2 := Lib.hid hl2
    generalize hm : xs.length = m at *
    have HM := Lib.hid hm
    clear h3 h4 hN hl1 hl2 hm
    go_enter Try.func24, Try.ntmps24
    go_wp2_with fail
    all_goals
      have hS : ∀ u, But (fun k => k = p) w (w.setCell ⟨p, 0, none⟩ u) := fun u => But.set_ (S := fun k => k = p) (But.refl _ w) (.inl rfl) 0 none _
      go_ret
    · have hkm : k = m := by omega
      subst h
      have hz : xs.drop cap = [] := List.drop_of_length_le (by rw [HM.out]; omega)
      refine ⟨_, rfl, (bsn_take HB.out (by rw [HM.out]; assumption)).but (hS _), _, ⟨hP.set_ 0 _, ?_, fun n c e => by cases e⟩, hS _, fun j hj => slb_same hj⟩
      show BsN _ _ _ (xs.drop cap)
      rw [hz, hkm, Nat.sub_self]
      exact bsn_nil _ _ _ _ (by omega)
    · refine ⟨_, rfl, (bsn_take HB.out (by rw [HM.out]; assumption)).but (hS _), _, ⟨hP.set_ 0 _, (bsn_drop HB.out (by rw [HM.out]; assumption)).but (hS _), fun n c e => by cases e⟩, hS _, fun j hj => slb_add hj⟩
end Go.Proofs.Ytfflgimbgmbpaaa
