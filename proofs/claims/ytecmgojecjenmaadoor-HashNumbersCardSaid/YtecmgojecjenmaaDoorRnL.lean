/-
  The document's list of numbers is the standard's.
-/
import Derived.Test.YtecmgojecjenmaaDoorRnPa
import Derived.Test.YtecmgojecjenmaaDoorRnPb
namespace Go.Proofs.YtecmgojecjenmaaDoor
open Go.RowKit
set_option linter.unusedVariables false

def lsF : Nat → List Nat
  | 0 => []
  | j + 1 => if pmN (2 + j) = true then lsF j ++ [rdN (2 + j)] else lsF j
def cnF : Nat → Nat
  | 0 => 0
  | j + 1 => if pmN (2 + j) = true then cnF j + 1 else cnF j
theorem lsF_length : ∀ j, (lsF j).length = cnF j
  | 0 => rfl
  | j + 1 => by
    rw [lsF, cnF]
    split
    · rw [List.length_append, lsF_length j]; rfl
    · exact lsF_length j
theorem cnF_step (j : Nat) : cnF j ≤ cnF (j + 1) := by
  rw [cnF]
  split <;> omega
theorem cnF_mono (j d : Nat) : cnF j ≤ cnF (j + d) := by
  induction d with
  | zero => exact Nat.le_refl _
  | succ d ih => exact Nat.le_trans ih (cnF_step _)
theorem cn_all : cnF 310 = 64 := by decide +kernel
theorem cn_less : cnF 309 = 63 := by decide +kernel
theorem ls_lt (j : Nat) (h : (lsF j).length < 64) : j < 310 := by
  rw [lsF_length] at h
  rcases Nat.lt_or_ge j 310 with h1 | h1
  · exact h1
  · have := cnF_mono 310 (j - 310)
    rw [show 310 + (j - 310) = j by omega, cn_all] at this
    omega
theorem ls_ge (j : Nat) (h : ¬ (lsF j).length < 64) : 310 ≤ j := by
  rw [lsF_length] at h
  rcases Nat.lt_or_ge j 310 with h1 | h1
  · have := cnF_mono j (309 - j)
    rw [show j + (309 - j) = 309 by omega, cn_less] at this
    omega
  · exact h1
theorem ls_m32 (j : Nat) : ∀ x ∈ lsF j, x < 4294967296 := by
  induction j with
  | zero => intro x hx; cases hx
  | succ j ih =>
    intro x hx
    rw [lsF] at hx
    split at hx
    · rcases List.mem_append.1 hx with h | h
      · exact ih x h
      · rw [List.mem_singleton.1 h]
        unfold rdN
        omega
    · exact ih x hx
def psF : Nat → List Nat
  | 0 => []
  | j + 1 => if pmN (2 + j) = true then psF j ++ [2 + j] else psF j
theorem ls_ps : ∀ j, lsF j = (psF j).map rdN
  | 0 => rfl
  | j + 1 => by
    rw [lsF, psF]
    split
    · rw [List.map_append, ls_ps j]; rfl
    · exact ls_ps j
theorem ps_all : psF 310 = [2, 3, 5, 7, 11, 13, 17, 19, 23, 29, 31, 37, 41, 43, 47, 53, 59, 61, 67, 71, 73, 79, 83, 89, 97, 101, 103, 107, 109, 113, 127, 131, 137, 139, 149, 151, 157, 163, 167, 173, 179, 181, 191, 193, 197, 199, 211, 223, 227, 229, 233, 239, 241, 251, 257, 263, 269, 271, 277, 281, 283, 293, 307, 311] := by decide +kernel
theorem list_all : lsF 310 = rkL := by
  rw [ls_ps, ps_all]
  simp only [List.map_cons, List.map_nil, rd_2, rd_3, rd_5, rd_7, rd_11, rd_13, rd_17, rd_19, rd_23, rd_29, rd_31, rd_37, rd_41, rd_43, rd_47, rd_53, rd_59, rd_61, rd_67, rd_71, rd_73, rd_79, rd_83, rd_89, rd_97, rd_101, rd_103, rd_107, rd_109, rd_113, rd_127, rd_131, rd_137, rd_139, rd_149, rd_151, rd_157, rd_163, rd_167, rd_173, rd_179, rd_181, rd_191, rd_193, rd_197, rd_199, rd_211, rd_223, rd_227, rd_229, rd_233, rd_239, rd_241, rd_251, rd_257, rd_263, rd_269, rd_271, rd_277, rd_281, rd_283, rd_293, rd_307, rd_311]
  rfl
end Go.Proofs.YtecmgojecjenmaaDoor
