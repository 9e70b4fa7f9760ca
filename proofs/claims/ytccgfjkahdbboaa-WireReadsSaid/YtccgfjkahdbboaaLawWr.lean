/-
  What is proved: for all bytes and every list of parts the law WireReads returns true, and its arguments read behind the call as they read before it.
-/
import Derived.Test.YtccgfjkahdbboaaWrB
namespace Go.Proofs.Ytccgfjkahdbboaa.wireReads
open Go.ChangeShapes Go.WideShapes Go.ChangeAt Go.RowKit
set_option linter.unusedVariables false

theorem walk (xs : List Nat) (v lv : Value) (L : List Pt) (w : World) (hb : BsV w w.heap.size v xs) (hl : PtsV w lv L) :
    Calls Try.prog 3 #[v, lv] w fun e w' => e = .returned (.bool true) ∧ Below w.heap.size w w' := by
  have hb0 := hb
  have hl0 := hl
  obtain ⟨s, cap, rfl, _⟩ := hb
  obtain ⟨t, c, rfl, _⟩ := hl
  rcases Nat.lt_or_ge 2000 xs.length with h | h
  · exact walk_bigb _ _ _ _ _ _ w h
  rcases Nat.lt_or_ge 50 L.length with h2 | h2
  · exact walk_bigl _ _ _ _ _ _ w h h2
  exact walk_inn xs s t cap L.length c L w hb0 hl0 h h2

theorem over : Rows.wireReadsRow.holds Try.pinned (OpenSpec.ofChange Rows.wireReadsSpec) :=
  OpenClaim.holds_of_wide 3 Try.f3 rfl rfl rfl rfl rfl rfl rfl ⟨rfl, rfl, rfl, rfl, rfl⟩ rfl rfl rfl rfl rfl (by kernel_rfl) Try.func3 (by kernel_rfl)
    (of_decide_eq_true (by kernel_rfl)) (by unfold Func.isWrapper; first | (rw [if_pos (by decide +kernel)]; kernel_rfl) | (rw [if_neg (by decide +kernel)]; exact ⟨rfl, rfl⟩))
    (fun os started H enc _ => lifted (fun xs v lv L w h1 h2 => walk xs v lv L w h1 h2) os started H enc)

theorem proved : Rows.WireReadsSaid := over
#print axioms proved
end Go.Proofs.Ytccgfjkahdbboaa.wireReads
