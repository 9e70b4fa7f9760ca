/-
  Contracts of package wire's Writer (Text, Len, Bytes) and of slices.Clone; wire.Read.
-/
import Derived.Test.YtfflgimbgmbpaaaWrj
import Derived.Lib.SliceRun
namespace Go.Proofs.Ytfflgimbgmbpaaa
open Go.RowKit
set_option linter.unusedVariables false

theorem BsN.next {w w' : World} {S S' : Nat → Prop} {v : Value} {xs : List Nat} (h : BsN w S v xs) (hb : But S w w') (hS : ∀ k, S' k → S k ∨ w.heap.size ≤ k) : BsN w' S' v xs := by
  obtain ⟨s, cap, rfl, h1, h2, h3, h4⟩ := h
  refine ⟨s, cap, rfl, h1, h2, h3, fun hne => ?_⟩
  obtain ⟨b, o, e, hlt, hn, hc⟩ := h4 hne
  exact ⟨b, o, e, Nat.lt_of_lt_of_le hlt hb.size, fun h => (hS b h).elim hn (by omega), fun i hi => (hb.cell (p := ⟨b, o + i, none⟩) hlt hn).trans (hc i hi)⟩
set_option maxRecDepth 100000 in
set_option maxHeartbeats 1000000 in
theorem text_any (g lo : Nat) (u : Value) (ys xs : List Nat) (v : Value) (w : World) (hG : Bk w g 26 #[v]) (hM : Mine w lo v xs) (hlo : lo ≤ w.heap.size) (hlen : xs.length + ys.length + 16 ≤ 1000000)
    (hu : BsN w (fun k => k = g ∨ slb v k) u ys) :
    Calls Try.prog 11 #[.pointer (some ⟨g, 0, none⟩), u] w (Wrote g lo v (xs ++ (countL ys.length ++ ys)) w) := by
  have HU := Lib.hid hu
  obtain ⟨s, cap, rfl, h1, h2, h3, h4⟩ := hu
  have HM := Lib.hid hM
  have HLO := Lib.hid hlo
  have HLN := Lib.hid hlen
  generalize hn : ys.length = n at *
  have HN := Lib.hid hn
  have q : IntKind.u64.wrap ((n : Nat) : Int) = (n : Int) := by rw [IntKind.wrap_u64]; omega
  clear hM hlo hlen hn h1 h2 h3 h4
  go_enter Try.func11, Try.ntmps11
  go_wp2_with fail
  refine (count_any g lo n xs v w hG HM.out HLO.out (by have := HLN.out; omega)).mono ?_
  rintro e w1 ⟨rfl, v1, G1, M1, B1, O1⟩
  have hU1 : BsN w1 (fun k => k = g ∨ slb v1 k) (.slice s n cap) ys := HU.out.next B1 (fun k h => by
    rcases h with h | h
    · exact .inl (.inl h)
    · rcases O1 k h with h | h
      · exact .inl (.inr h)
      · exact .inr h)
  have hl : (xs ++ countL n).length ≤ xs.length + 9 := by rw [List.length_append]; have := countL_len n; omega
  have HL := Lib.hid hl
  have HU1 := Lib.hid hU1
  clear hl hU1 hG
  go_wp2_with fail
  have hA : Below w1.heap.size w1 (w1.alloc (.cells #[.slice s n cap] 24)) := (Below.refl _ _).alloc (Nat.le_refl _) _
  have hgl := G1.lt
  refine (raw_any g lo (some ⟨w1.heap.size, 0, none⟩) 1 [ys] (xs ++ countL n) v1 _ (G1.alloc _) (M1.keep hA) (Nat.le_trans (Nat.le_trans HLO.out B1.size) hA.size) ?_ (by simp) (partsN_one (HU1.out.keep hA) (Bk.new _ _ _) ?_)).mono ?_
  · have := HLN.out
    have := HL.out
    have := HN.out
    simp only [List.flatten_cons, List.flatten_nil, List.append_nil]
    omega
  · rintro (h | h)
    · omega
    · have := (M1.slb_lo h).2.1
      omega
  rintro e w2 h
  have h := (h.before hA).behind B1 O1
  simp only [List.flatten_cons, List.flatten_nil, List.append_nil] at h
  rw [List.append_assoc] at h
  obtain ⟨rfl, v2, G2, M2, B2, O2⟩ := h
  go_wp2_with fail
  go_end0
  exact ⟨rfl, v2, G2, M2, B2, O2⟩
set_option maxRecDepth 100000 in
set_option maxHeartbeats 1000000 in
theorem wlen_any (g n : Nat) (s : Option Addr) (c : Nat) (w : World) (hG : Bk w g 26 #[.slice s n c]) :
    Calls Try.prog 14 #[.pointer (some ⟨g, 0, none⟩)] w fun e w' => e = .returned (.int .i64 (n : Int)) ∧ w' = w := by
  have c0 := hG.cell 0
  have f0 := hG.frozen 0
  have z0 := hG.lt
  go_enter Try.func14, Try.ntmps14
  go_wp2_with fail
  go_ret
  exact ⟨rfl, rfl⟩
set_option maxRecDepth 100000 in
set_option maxHeartbeats 1000000 in
theorem clone_any (xs : List Nat) (v : Value) (w : World) (hb : BsV w w.heap.size v xs) (hlt : xs.length ≤ 1000000) :
    Calls Try.prog 23 #[v] w fun e w' => ∃ v', e = .returned v' ∧ Mine w' w.heap.size v' xs ∧ Below w.heap.size w w' := by
  have q22 : ∀ (w : World) (a : Option Addr) (n c n' c' : Nat), (binOp .eql 24 (.slice a n c) (.slice none n' c')).run Try.prog w = .ok (.bool a.isNone) w := fun w a n c n' c' => Lib.run_eql_slice_nil w _ _ a n c n' c' Try.underlying24
  have u22 : ∀ w, Sem.run Try.prog (underlying 24) w = .ok (TypeDesc.slice 5) w := run_underlying Try.underlying24
  have hb0 := hb
  obtain ⟨s, cap, rfl, h1, h2, h3, h4⟩ := hb
  cases s with
  | none =>
    have h0 : xs = [] := by
      by_cases h : xs = []
      · exact h
      · obtain ⟨b, o, e, _⟩ := h4 h
        cases e
    subst h0
    clear hb0 h1 h2 h3 h4
    go_enter Try.func23, Try.ntmps23
    go_wp2_with fail
    go_ret
    exact ⟨_, rfl, .inl ⟨rfl, rfl⟩, Below.refl _ _⟩
  | some a =>
    have hA : Below w.heap.size w (w.alloc (.cells #[] 5)) := (Below.refl _ _).alloc (Nat.le_refl _) _
    obtain ⟨v', W, hrun, M, B, O⟩ := app3 [] xs (.slice (some ⟨w.heap.size, 0, none⟩) 0 0) (.slice (some a) xs.length cap) w.heap.size (w.alloc (.cells #[] 5)) (.inr ⟨w.heap.size, 0, 0, rfl, rfl, by omega, Nat.le_refl _, Bk.new _ _ _⟩) hA.size ((hb0.keep hA (Nat.le_refl _)).mono hA.size) (by simpa using Nat.le_trans hlt (by omega))
    have hBW : Below w.heap.size w W := hA.trans (B.below hA.size (fun k hk => by rw [slb_some hk]; exact Nat.le_refl _))
    rw [List.nil_append] at M
    obtain ⟨s5, k5, rfl⟩ := M.slice
    have M := Lib.hid M
    generalize xs.length = n at *
    clear hb0 h1 h2 h3 h4 hA B O hlt
    go_enter Try.func23, Try.ntmps23
    go_wp2_with (at_builtin; refine wpList_app (v1 := .slice (some ⟨w.heap.size, 0, none⟩) 0 0) (v2 := .slice (some a) n cap) (v := .slice s5 n k5) rfl (.tmp 5) (.tmp 6) rfl rfl rfl rfl hrun ?_)
    go_ret
    exact ⟨_, rfl, M.out, hBW⟩
set_option maxRecDepth 100000 in
set_option maxHeartbeats 1000000 in
theorem bytes_any (g lo : Nat) (xs : List Nat) (v : Value) (w : World) (hG : Bk w g 26 #[v]) (hM : Mine w lo v xs) (hx : ∀ x ∈ xs, x < 256) (hlt : xs.length ≤ 1000000) :
    Calls Try.prog 13 #[.pointer (some ⟨g, 0, none⟩)] w fun e w' => ∃ v', e = .returned v' ∧ Mine w' w.heap.size v' xs ∧ Below w.heap.size w w' := by
  have HC := Lib.hid (clone_any xs v w (hM.bs hx) hlt)
  obtain ⟨s, c, rfl⟩ := hM.slice
  generalize xs.length = n at *
  have c0 := hG.cell 0
  have f0 := hG.frozen 0
  have z0 := hG.lt
  clear hM
  go_enter Try.func13, Try.ntmps13
  go_wp2_with fail
  refine HC.out.mono ?_
  rintro e w1 ⟨v', rfl, M, B⟩
  have M := Lib.hid M
  go_wp2_with fail
  go_ret
  exact ⟨_, rfl, M.out, B⟩

/-- A reader: its bytes, in no block of its own, and what went wrong first. -/
def Rd (w : World) (p : Nat) (v : Value) (xs : List Nat) (e : Nat) : Prop := Bk w p 57 #[v, .int .i64 (e : Int)] ∧ BsN w (fun k => k = p) v xs ∧ ∀ n c, v = .slice none n c → c = 0
set_option maxRecDepth 100000 in
set_option maxHeartbeats 1000000 in
theorem read_any (xs : List Nat) (v : Value) (w : World) (hb : BsV w w.heap.size v xs) (hlt : xs.length ≤ 1000000) (hx : ∀ x ∈ xs, x < 256) :
    Calls Try.prog 15 #[v] w fun e w' => ∃ p v', e = .returned (.pointer (some ⟨p, 0, none⟩)) ∧ Rd w' p v' xs 0 ∧ Below w.heap.size w w' ∧ w.heap.size ≤ p ∧ ∀ k, slb v' k → w.heap.size ≤ k := by
  have HC := Lib.hid (clone_any xs v w hb hlt)
  have HX := Lib.hid hx
  obtain ⟨s, c, rfl, _⟩ := hb
  generalize hn : xs.length = n at *
  have HN := Lib.hid hn
  clear hx hn
  go_enter Try.func15, Try.ntmps15
  go_wp2_with fail
  refine HC.out.mono ?_
  rintro e w1 ⟨v', rfl, M, B⟩
  have M := Lib.hid M
  obtain ⟨s5, c5, e5⟩ := M.out.slice
  rw [HN.out] at e5
  subst e5
  go_wp2_with fail
  go_ret
  have hA : Below w1.heap.size w1 (w1.alloc (.cells #[.slice s5 n c5, .int .i64 0] 57)) := (Below.refl _ _).alloc (Nat.le_refl _) _
  refine ⟨w1.heap.size, _, rfl, ⟨Bk.new _ _ _, BsN.of_bs ((M.out.bs HX.out).keep hA (Nat.le_refl _)) hA.size (fun k hk e => by omega), ?_⟩, B.alloc B.size _, B.size, fun k hk => (M.out.slb_lo hk).1⟩
  intro n' c' e
  rcases M.out with ⟨h, _⟩ | ⟨T, cap, z, h, _⟩
  · rw [h] at e
    cases e
    rfl
  · rw [h] at e
    cases e
end Go.Proofs.Ytfflgimbgmbpaaa
