/-
  The contract of a Feed's edge.
-/
import Derived.Test.YtjnbdajdllpchaaDoorFrN
import Derived.Test.YtjnbdajdllpchaaDoorFdO
namespace Go.Proofs.YtjnbdajdllpchaaDoor
open Go.RowKit
set_option linter.unusedVariables false
set_option linter.unusedSimpArgs false
set_option maxRecDepth 100000

/-- How many bytes of data there will be. -/
def dataN (xs : List Nat) : Nat := ofL ((xs.drop 16).take 4)
def edgeN (xs : List Nat) : Nat := if xs.length < 4 then 4 else if xs.length < 24 then 24 else 24 + dataN xs
theorem dataN_lt (xs : List Nat) (hx : ∀ x ∈ xs, x < 256) : dataN xs < 4294967296 := by
  have h := ofL_lt ((xs.drop 16).take 4) (fun x h => hx x (List.mem_of_mem_drop (List.mem_of_mem_take h)))
  have hl : ((xs.drop 16).take 4).length ≤ 4 := by rw [List.length_take]; omega
  have h2 : 256 ^ ((xs.drop 16).take 4).length ≤ 256 ^ 4 := Nat.pow_le_pow_right (by omega) hl
  unfold dataN
  omega
set_option maxHeartbeats 4000000 in
theorem fedge_any {FT : TypeId} {FR : Array Value} {fo : Nat} [hfd : FdOk FT FR fo] (p n c e : Nat) (s : Option Addr) (xs : List Nat) (w : World) (hP : Bk w p FT (fdA FR fo (.slice s n c) (.int .i64 (e : Int)))) (hb : BsV w w.heap.size (.slice s n c) xs) (hl : xs.length ≤ 100000) :
    Calls Tryd.prog 40 #[.pointer (some ⟨p, fo, none⟩)] w fun r w' => r = .returned (.int .i64 ((edgeN xs : Nat) : Int)) ∧ Below w.heap.size w w' := by
  have hx : ∀ x ∈ xs, x < 256 := by
    obtain ⟨s, cap, e, h1, h2, h3, h4⟩ := hb
    exact h3
  have hn : n = xs.length := by
    obtain ⟨s, cap, e, h1, h2, h3, h4⟩ := hb
    cases e
    rfl
  have c0 := (fd0 hP)
  have c1 := (fd1 hP)
  have z0 := hP.lt
  by_cases h4 : n < 4
  · have e0 : edgeN xs = 4 := by unfold edgeN; rw [if_pos (by omega)]
    rw [e0]
    have q1 : decide ((n : Int) < 4) = true := decide_eq_true (by omega)
    clear h4 e0 hb hx hl hn hP
    go_enter Tryd.func40, Tryd.ntmps40
    go_wp2_with fail
    go_ret
    exact ⟨rfl, Below.refl _ _⟩
  have q1 : decide ((n : Int) < 4) = false := decide_eq_false (by omega)
  by_cases h24 : n < 24
  · have e0 : edgeN xs = 24 := by unfold edgeN; rw [if_neg (by omega), if_pos (by omega)]
    rw [e0]
    have q2 : decide ((n : Int) < 24) = true := decide_eq_true (by omega)
    clear h4 h24 e0 hb hx hl hn hP
    go_enter Tryd.func40, Tryd.ntmps40
    go_wp2_with fail
    go_ret
    exact ⟨rfl, Below.refl _ _⟩
  have q2 : decide ((n : Int) < 24) = false := decide_eq_false (by omega)
  have e0 : edgeN xs = 24 + dataN xs := by unfold edgeN; rw [if_neg (by omega), if_neg (by omega)]
  have hd := dataN_lt xs hx
  obtain ⟨a, rfl⟩ : ∃ a, s = some a := by
    obtain ⟨s', cap, e, h1, h2, h3, h5⟩ := hb
    cases e
    obtain ⟨b, o, e1, _⟩ := h5 (by intro h; apply h4; first | (rw [h]; decide) | (rw [hn, h]; decide))
    exact ⟨_, e1⟩
  have HC := Lib.hid (flen_any p n c e a xs w hP hb (by omega) hl)
  have hdn : ofL ((xs.drop 16).take 4) = dataN xs := rfl
  rw [hdn] at HC
  rw [e0]
  obtain ⟨d, hd0⟩ : ∃ d, d = dataN xs := ⟨_, rfl⟩
  rw [← hd0] at HC hd ⊢
  have hwd : IntKind.i64.wrap (d : Int) = (d : Int) := by
    simp [IntKind.wrap, IntKind.signed, IntKind.bits]
    omega
  clear h4 h24 e0 hb hx hl hn hP hdn hd0
  go_enter Tryd.func40, Tryd.ntmps40
  go_wp2_with fail
  refine HC.out.mono ?_
  rintro r w1 ⟨rfl, hb1⟩
  go_wp2_with fail
  go_ret
  exact ⟨by simp, hb1⟩
end Go.Proofs.YtjnbdajdllpchaaDoor
