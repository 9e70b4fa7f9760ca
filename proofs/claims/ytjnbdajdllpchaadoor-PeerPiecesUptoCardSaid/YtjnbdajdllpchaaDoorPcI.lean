/-
  Whole numbers as an argument; what is read of a pong.
-/
import Derived.Test.YtjnbdajdllpchaaDoorPeZ
import Derived.Test.YtjnbdajdllpchaaDoorBkZ
import Derived.OpenShut
import Derived.ChangeOld
namespace Go.Proofs.YtjnbdajdllpchaaDoor
open Go.ChangeShapes Go.WideShapes Go.ChangeAt Go.RowKit
set_option linter.unusedVariables false
set_option linter.unusedSimpArgs false
set_option maxRecDepth 100000
def intR : RowT Int := ⟨3, 69, 1, 8, fun z => [.int .i64 z], 0⟩
theorem int_facts : (Tryd.prog.info? 3).map (fun i => (i.zero.map (·.cells), i.size, i.bytes)) = some (some #[.int .i64 0], 1, 8) := by kernel_rfl
theorem int_info : ∃ i v, Tryd.prog.info? 3 = some i ∧ i.zero = some v ∧ i.size = 1 ∧ i.bytes = 8 ∧ v.cells = #[.int .i64 0] := by
  obtain ⟨i, hi, hs⟩ := Option.map_eq_some_iff.1 int_facts
  simp only [Prod.mk.injEq, Option.map_eq_some_iff] at hs
  obtain ⟨⟨v, hv, hc⟩, h1, h2⟩ := hs
  exact ⟨i, v, hi, hv, h1, h2, hc⟩
theorem intR_ok : intR.Ok where
  ht := Tryd.underlying69
  info := int_info
  len := fun x => rfl
  one := fun x v hv => by
    rw [List.mem_singleton.1 hv]
    rfl
  pos := by decide
  bys := by decide
theorem wf_i64r {z : Int} (h : (Lit.int .i64 z).wf = true) : -9223372036854775808 ≤ z ∧ z ≤ 9223372036854775807 := by
  simp [Lit.wf, IntKind.min, IntKind.max, IntKind.signed, IntKind.bits] at h
  omega
theorem ints_arg {H : Type} {enc : TypeId × Value → H} {w : World} {base b0 : Nat} {spare : Nat → Bool} {held : Bool} {r : Reach} {v : Value} {d : DataW H} {p : List MemPlace}
    (hv : Value.okWide Tryd.prog w r b0 69 v) (h : DataW.Trod enc Tryd.prog w base spare held 69 v d p) : ∃ L : List Int, RowV intR w w.heap.size v L ∧ ∀ z ∈ L, -9223372036854775808 ≤ z ∧ z ≤ 9223372036854775807 := by
  obtain ⟨s0, len, cap, rfl⟩ := okWide_slice Tryd.underlying69 hv
  obtain ⟨fuel, hf⟩ := h
  obtain ⟨s, L, c, h1, h2, h3⟩ := rows_trod intR_ok (fun z => -9223372036854775808 ≤ z ∧ z ≤ 9223372036854775807) (by kernel_rfl) (fun n cs d h1 h2 => by
    obtain ⟨z, e1, _, hw⟩ := DataW.trod_int Tryd.underlying3 h2
    exact ⟨z, wf_i64r hw, e1⟩) hf
  simp [Value.cells] at h1
  obtain ⟨rfl, rfl, rfl⟩ := h1
  exact ⟨L, h2, h3⟩

end Go.Proofs.YtjnbdajdllpchaaDoor
