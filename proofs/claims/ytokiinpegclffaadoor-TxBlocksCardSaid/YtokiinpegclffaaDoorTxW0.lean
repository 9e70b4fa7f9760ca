/-
  What the tx laws' head comes to: a transaction of one output, its bytes, and the block's.
-/
import Derived.Test.YtokiinpegclffaaDoorTxL
import Derived.Test.YtokiinpegclffaaDoorTxJ
import Derived.Test.YtokiinpegclffaaDoorTxH
namespace Go.Proofs.YtokiinpegclffaaDoor
open Go.RowKit
set_option linter.unusedVariables false
set_option linter.unusedSimpArgs false
set_option maxRecDepth 100000

def TB : List Nat := [1, 0,0,0,0,0,0,0,0,0,0,0,0,0,0,0,0,0,0,0,0,0,0,0,0,0,0,0,0,0,0,0,0, 0,0,0,0, 1, 107, 1, 5,0,0,0,0,0,0,0, 0,0,0,0,0,0,0,0,0,0,0,0,0,0,0,0,0,0,0,0,0,0,0,0,0,0,0,0,0,0,0,0]
def tw (g : Nat) : TxM := ⟨some ⟨g + 1, 0, none⟩, 1, [⟨i0, 0, some ⟨g, 0, none⟩, 1, [107]⟩], some ⟨g + 2, 0, none⟩, 1, [⟨5, i0⟩]⟩
theorem tw_B (g : Nat) : txB (tw g) = TB := by
  have h : txB (tw g) = txB (tw 0) := rfl
  rw [h]
  decide +kernel
theorem tw_fit (g : Nat) : TxFit (tw g) := ⟨show 1 ≤ 40 by omega, show 1 ≤ 40 by omega, fun x hx => by
  simp only [tw, List.mem_singleton] at hx
  subst hx
  show 1 ≤ 200
  omega⟩
theorem tb_lt : ∀ x ∈ TB, x < 256 := by decide
theorem tb_len : TB.length = 80 := rfl
theorem tb_end : rdEnd (nxSt (TB, 0)) = 0 := by decide +kernel
theorem tb_m : nxM (TB, 0) = 1 := by decide +kernel
theorem tb_am : i64of (rdNum (nxS3 (TB, 0)) 8).1 = 5 := by decide +kernel
def BL : List Nat := hB hd0 ++ (countL 1 ++ TB)
theorem bl_lt : ∀ x ∈ BL, x < 256 := by decide +kernel
theorem bl_len : BL.length = 161 := by decide +kernel
theorem bl_end : rdEnd (rbSt BL) = 0 := by decide +kernel
theorem bl_n : rbN BL = 1 := by decide +kernel
def Q0 : List Nat := sha (sha TB)
theorem q0_ne : Q0 ≠ zeros 32 := by decide +kernel
theorem q0_is : IsId Q0 := ⟨rfl, sha_lt _⟩
theorem root_q0 : rootV [Q0] = (Q0, false) := by
  unfold rootV
  rw [if_neg (by simp), rootW_one _ _ (by simp)]
  rfl
end Go.Proofs.YtokiinpegclffaaDoor
