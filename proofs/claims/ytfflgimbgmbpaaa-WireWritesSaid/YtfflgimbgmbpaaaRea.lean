/-
  Contracts of package wire's Reader.
-/
import Derived.Test.YtfflgimbgmbpaaaWrk
namespace Go.Proofs.Ytfflgimbgmbpaaa
open Go.RowKit
set_option linter.unusedVariables false

/-- A reader's state: what is left, and what went wrong first. -/
abbrev St := List Nat × Nat
def rdFail (s : St) (c : Nat) : St := ([], if s.2 = 0 then c else s.2)
def rdTake (s : St) (n : Int) : List Nat × St := if 0 ≤ n ∧ n ≤ s.1.length then (s.1.take n.toNat, (s.1.drop n.toNat, s.2)) else ([], rdFail s 6)
def rdNum (s : St) (n : Int) : Nat × St := (ofL ((rdTake s n).1.take 8), (rdTake s n).2)
def rdCnt (s : St) : (Nat × Nat) × St :=
  if (rdNum s 1).1 = 253 then (((rdNum (rdNum s 1).2 2).1, 253), (rdNum (rdNum s 1).2 2).2)
  else if (rdNum s 1).1 = 254 then (((rdNum (rdNum s 1).2 4).1, 65536), (rdNum (rdNum s 1).2 4).2)
  else if (rdNum s 1).1 = 255 then (((rdNum (rdNum s 1).2 8).1, 4294967296), (rdNum (rdNum s 1).2 8).2)
  else (((rdNum s 1).1, 0), (rdNum s 1).2)
def rdCount (s : St) (most : Nat) : Nat × St :=
  if (rdCnt s).2.2 ≠ 0 then (0, (rdCnt s).2)
  else if (rdCnt s).1.1 < (rdCnt s).1.2 then (0, rdFail (rdCnt s).2 70)
  else if most < (rdCnt s).1.1 then (0, rdFail (rdCnt s).2 2)
  else ((rdCnt s).1.1, (rdCnt s).2)
def rdEnd (s : St) : Nat := if s.2 = 0 ∧ 0 < s.1.length then 70 else s.2
/-- The state's bounds. -/
def StOk (s : St) : Prop := s.1.length ≤ 1000000 ∧ s.2 < 1000
theorem StOk.fail {s : St} (h : StOk s) {c : Nat} (hc : c < 1000) : StOk (rdFail s c) := by
  refine ⟨Nat.zero_le _, ?_⟩
  unfold rdFail
  show (if s.2 = 0 then c else s.2) < 1000
  split
  · exact hc
  · exact h.2
theorem StOk.take {s : St} (h : StOk s) (n : Int) : StOk (rdTake s n).2 := by
  unfold rdTake
  split
  · refine ⟨?_, h.2⟩
    have := h.1
    show (s.1.drop n.toNat).length ≤ _
    rw [List.length_drop]
    omega
  · exact h.fail (by omega)
def RdS (w : World) (p : Nat) (v : Value) (s : St) : Prop := Rd w p v s.1 s.2
theorem Rd.but {w w' : World} {p : Nat} {v : Value} {xs : List Nat} {e : Nat} (h : Rd w p v xs e) {S : Nat → Prop} (hb : But S w w') (hp : ¬ S p) (hS : ∀ k, slb v k → ¬ S k) : Rd w' p v xs e := by
  obtain ⟨h1, h2, h3⟩ := h
  refine ⟨hb.keep h1 hp, ?_, h3⟩
  obtain ⟨s, cap, rfl, g1, g2, g3, g4⟩ := h2
  refine ⟨s, cap, rfl, g1, g2, g3, fun hne => ?_⟩
  obtain ⟨b, o, e, hlt, hn, hc⟩ := g4 hne
  subst e
  exact ⟨b, o, rfl, Nat.lt_of_lt_of_le hlt hb.size, hn, fun i hi => (hb.cell (p := ⟨b, o + i, none⟩) hlt (hS b ⟨_, _, _, rfl, rfl⟩)).trans (hc i hi)⟩
theorem Rd.keep {w w' : World} {p : Nat} {v : Value} {xs : List Nat} {e : Nat} (h : Rd w p v xs e) (hb : Below w.heap.size w w') : Rd w' p v xs e :=
  h.but (S := fun _ => False) (But.of hb) (fun h => h) (fun _ _ h => h)
theorem bsn_nil (w : World) (S : Nat → Prop) (s : Option Addr) (c : Nat) (hc : c < 9223372036854775808) : BsN w S (.slice s 0 c) [] := ⟨s, c, rfl, Nat.zero_le _, hc, by simp, fun h => absurd rfl h⟩
set_option maxRecDepth 100000 in
set_option maxHeartbeats 1000000 in
theorem fail_any (p c e : Nat) (s : Option Addr) (n k : Nat) (w : World) (hP : Bk w p 57 #[.slice s n k, .int .i64 (e : Int)]) :
    Calls Try.prog 26 #[.pointer (some ⟨p, 0, none⟩), .int .i64 (c : Int)] w fun r w' => r = .returned (.tuple #[]) ∧ Bk w' p 57 #[.slice none 0 0, .int .i64 ((if e = 0 then c else e : Nat) : Int)] ∧ But (fun k => k = p) w w' := by
  have c0 := hP.cell 0
  have c1 := hP.cell 1
  have f0 := hP.frozen 0
  have f1 := hP.frozen 1
  have z0 := hP.lt
  by_cases h : e = 0
  · subst h
    rw [if_pos rfl]
    go_enter Try.func26, Try.ntmps26
    go_wp2_with fail
    go_end0
    exact ⟨rfl, (hP.set_ 1 _).set_ 0 _, But.set_ (S := fun k => k = p) (But.set_ (S := fun k => k = p) (But.refl _ w) (.inl rfl) 1 none _) (.inl rfl) 0 none _⟩
  · rw [if_neg h]
    have hd : ((e : Int) == 0) = false := by simp; omega
    go_enter Try.func26, Try.ntmps26
    go_wp2_with fail
    go_end0
    exact ⟨rfl, hP.set_ 0 _, But.set_ (S := fun k => k = p) (But.refl _ w) (.inl rfl) 0 none _⟩
end Go.Proofs.Ytfflgimbgmbpaaa
