/-
  What the listed variables give: the two tables of package hash lie in their blocks; bytes that lie in memory.
-/
import Derived.Test.YtkkkfcdoilojmaaDoorRows
import Derived.Test.YtkkkfcdoilojmaaDoorHashM
import Derived.Test.YtkkkfcdoilojmaaDoorHashL
import Derived.ProofKit
import Derived.OpenShut
import Derived.LaidMore
import Derived.MakeChecks
namespace Go.Proofs.YtkkkfcdoilojmaaDoor
open Go.ChangeShapes Go.WideShapes Go.ChangeAt Go.RowKit
set_option linter.unusedVariables false

section
variable {H : Type} {enc : TypeId × Value → H} {P : Program} {w : World} {base : Nat} {sp : Nat → Bool} {held : Bool} {fuel : Nat} {t e : TypeId} {n : Nat} {k : IntKind} {cs : List Value} {ps : List MemPlace}
theorem arr_of_trod (ht : P.underlying t = some (.array n e)) (he : P.underlying e = some (.int k)) (hce : P.cellsOf e = 1) (hct : P.cellsOf t = n) (zs : List Int)
    (h : DataW.trod enc P w base sp held fuel t cs = some (.agg (zs.map fun z => .lit (.int k z)), ps)) : cs = zs.map (Value.int k) := by
  obtain ⟨xs, m, rfl, hx, hcl, hxl, hi⟩ := DataW.trod_array ht h
  simp only [Prod.mk.injEq, DataW.agg.injEq] at hx
  have hzl : zs.length = n := by rw [← hxl, ← List.length_map (f := fun z => (DataW.lit (.int k z) : DataW H)), hx.1, List.length_map]
  apply List.ext_getElem?
  intro i
  by_cases hin : i < n
  · have h1 := hi i hin
    rw [hce, Nat.mul_one, List.getElem?_eq_getElem (by omega)] at h1
    obtain ⟨z, e1, e2, _⟩ := DataW.trod_int he h1
    have h2 : cs[i]? = some (.int k z) := by
      have := congrArg (fun l => l[0]?) e1
      simpa using this
    have h3 : (zs.map fun z => (DataW.lit (.int k z) : DataW H))[i]? = some (.lit (.int k z)) := by
      rw [hx.1, List.getElem?_map, List.getElem?_eq_getElem (by omega), Option.map_some, e2]
    rw [List.getElem?_map] at h3
    rw [h2, List.getElem?_map]
    cases hz : zs[i]? with
    | none => rw [hz] at h3; simp at h3
    | some z' => rw [hz] at h3; simp at h3; subst h3; rfl
  · rw [List.getElem?_eq_none (by omega), List.getElem?_eq_none (by simp; omega)]
end

abbrev laidL : List (String × DataW Unit) := [("tallystick/hash.start", Rows.laid_tallystick_hash_start), ("tallystick/hash.rounds", Rows.laid_tallystick_hash_rounds)]
theorem gStart : Tryd.prog.globalNamed "tallystick/hash.start" = some 0 := by kernel_rfl
theorem gRounds : Tryd.prog.globalNamed "tallystick/hash.rounds" = some 1 := by kernel_rfl
theorem tStart : (Tryd.prog.globals[(0 : Nat)]?).map (·.type) = some 69 := by kernel_rfl
theorem tRounds : (Tryd.prog.globals[(1 : Nat)]?).map (·.type) = some 97 := by kernel_rfl
theorem datum_start {H : Type} : (Rows.laid_tallystick_hash_start : DataW H) = .agg ((sha0.toL.map (Nat.cast : Nat → Int)).map fun z => .lit (.int .u32 z)) := rfl
theorem datum_rounds {H : Type} : (Rows.laid_tallystick_hash_rounds : DataW H) = .agg ((rkL.map (Nat.cast : Nat → Int)).map fun z => .lit (.int .u32 z)) := rfl
theorem wA_of_ints (xs : List Nat) : ((xs.map (Nat.cast : Nat → Int)).map (Value.int .u32)).toArray = wA xs := by
  unfold wA wordV
  rw [List.map_map]; rfl

/-- What the condition gives. -/
theorem of_laid {W : World} (h : laidMetH Tryd.prog laidL W) : Laid W := by
  rw [MakeChecks.laidMetH_plain _ _ _ (by kernel_rfl)] at h
  obtain ⟨ps, ⟨g0, t0, cs0, f0, p0, q0, hg0, ht0, hv0, hd0, ⟨g1, t1, cs1, f1, p1, q1, hg1, ht1, hv1, hd1, hq1, hp1⟩, hp0⟩, hnd, hfr⟩ := h
  obtain rfl := Option.some.inj (gStart.symm.trans hg0)
  obtain rfl := Option.some.inj (gRounds.symm.trans hg1)
  obtain rfl := Option.some.inj (tStart.symm.trans ht0)
  obtain rfl := Option.some.inj (tRounds.symm.trans ht1)
  have e0 := arr_of_trod (n := 8) (k := .u32) Tryd.underlying69 Tryd.underlying59 (by kernel_rfl) (by kernel_rfl) _ (by rw [datum_start] at hd0; exact hd0)
  have e1 := arr_of_trod (n := 64) (k := .u32) Tryd.underlying97 Tryd.underlying59 (by kernel_rfl) (by kernel_rfl) _ (by rw [datum_rounds] at hd1; exact hd1)
  have c0 : cs0 = wA sha0.toL := by rw [← wA_of_ints, ← e0]
  have c1 : cs1 = wA rkL := by rw [← wA_of_ints, ← e1]
  subst c0 c1
  have heap_of : ∀ {n : String} {g : Nat} {cs : Array Value}, Tryd.prog.globalNamed n = some g → W.var? Tryd.prog n = some cs → ∃ t f, W.heap[g]? = some (.cells cs t f) := by
    intro n g cs hg hv
    simp only [World.var?, hg, Option.bind_some] at hv
    split at hv
    · rename_i c t f hq
      obtain rfl := Option.some.inj hv
      exact ⟨t, f, hq⟩
    · cases hv
  exact ⟨heap_of gStart hv0, heap_of gRounds hv1⟩
end Go.Proofs.YtkkkfcdoilojmaaDoor
