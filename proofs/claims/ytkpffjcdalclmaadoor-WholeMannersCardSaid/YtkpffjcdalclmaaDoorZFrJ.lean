/- The contracts of a Feed's Held and Err, and of the law's word frames. -/
import Derived.Test.YtkpffjcdalclmaaDoorZFrB
import Derived.Test.YtkpffjcdalclmaaDoorZFrI
import Derived.Lib.SlBytesConst
namespace Go.Proofs.YtkpffjcdalclmaaDoor
open Go.RowKit
set_option linter.unusedVariables false
set_option linter.unusedSimpArgs false
set_option maxRecDepth 100000
theorem ferr_any {FT : TypeId} {FR : Array Value} {fo : Nat} [hfd : FdOk FT FR fo] (p lo e : Nat) (v : Value) (h : List Nat) (w : World) (hF : FeedM FT FR fo w p lo v h e) :
    Calls Tryd.prog 37 #[.pointer (some ⟨p, fo, none⟩)] w fun r w' => r = .returned (.int .i64 (e : Int)) ∧ w' = w := by
  have c0 := fd1 hF.1
  have z0 := hF.1.lt
  clear hF
  go_enter Tryd.func37, Tryd.ntmps37
  go_wp2_with fail
  go_ret
  exact ⟨rfl, rfl⟩
theorem str_eqb (x y : List Nat) (hx : ∀ b ∈ x, b < 256) (hy : ∀ b ∈ y, b < 256) : ((strN x).toList == (strN y).toList) = decide (x = y) := by
  rw [strN_toList, strN_toList]
  by_cases h : x = y
  · subst h
    simp
  · rw [decide_eq_false h, beq_eq_false_iff_ne]
    intro e
    apply h
    have hl : x.length = y.length := by have := congrArg List.length e; simpa using this
    apply List.ext_getElem hl
    intro i h1 h2
    have e1 : (x.map UInt8.ofNat)[i]? = (y.map UInt8.ofNat)[i]? := by rw [e]
    rw [List.getElem?_map, List.getElem?_map, List.getElem?_eq_getElem h1, List.getElem?_eq_getElem h2] at e1
    have e2 : UInt8.ofNat x[i] = UInt8.ofNat y[i] := by simpa using e1
    have e3 := congrArg UInt8.toNat e2
    rw [UInt8.toNat_ofNat', UInt8.toNat_ofNat'] at e3
    have a1 := hx _ (List.getElem_mem h1)
    have a2 := hy _ (List.getElem_mem h2)
    omega
end Go.Proofs.YtkpffjcdalclmaaDoor
