/-
  Arguments opened: an array of integers by value; a number of four words; an ID.
-/
import Derived.Test.YtkhiicnahijnoaaDoorNumM
import Derived.Test.YtkhiicnahijnoaaDoorIdM
import Derived.ProofKit
import Derived.OpenShut
import Derived.ChangeOld
namespace Go.Proofs.YtkhiicnahijnoaaDoor
open Go.ChangeShapes Go.WideShapes Go.ChangeAt Go.RowKit
set_option linter.unusedVariables false

section
variable {H : Type} {enc : TypeId × Value → H} {P : Program} {w : World} {base : Nat} {spare : Nat → Bool} {held : Bool}
theorem open_ints_arr {r : Reach} {b0 : Nat} {t e : TypeId} {n : Nat} {k : IntKind} {v : Value} {d : DataW H} {p : List MemPlace} (ht : P.underlying t = some (.array n e)) (he : P.underlying e = some (.int k)) (hce : P.cellsOf e = 1) (hct : P.cellsOf t = n)
    (hv : Value.okWide P w r b0 t v) (h : DataW.Trod enc P w base spare held t v d p) :
    ∃ zs : List Int, zs.length = n ∧ v = .agg (zs.map (Value.int k)).toArray ∧ ∀ z ∈ zs, (Lit.int k z).wf = true := by
  obtain ⟨cs, rfl, hsz, _⟩ : ∃ cs, v = .agg cs ∧ cs.size = P.cellsOf t ∧ Row.okWide P w r b0 t cs := by simpa [Value.okWide, ht] using hv
  obtain ⟨fuel, hf⟩ := h
  obtain ⟨xs, m, _, _, hcl, hxl, hi⟩ := DataW.trod_array ht hf
  have hz : ∀ i, i < n → ∃ z, cs[i]? = some (.int k z) ∧ (Lit.int k z).wf = true := by
    intro i hin
    have h1 := hi i hin
    rw [hce, List.getElem?_eq_getElem (by omega)] at h1
    obtain ⟨z, e1, _, hw⟩ := DataW.trod_int he h1
    refine ⟨z, ?_, hw⟩
    have hl : i < cs.size := by omega
    simp only [Nat.mul_one, Value.cells] at e1
    rw [List.drop_eq_getElem_cons (by simpa using hl)] at e1
    simp only [List.take_succ_cons, List.take_zero, List.cons.injEq, and_true] at e1
    rw [Array.getElem?_eq_getElem hl]
    simpa using e1
  refine ⟨(List.range n).map (fun i => intOf ((cs[i]?).getD (.int k 0))), by simp, ?_, ?_⟩
  · congr 1
    apply Array.ext_getElem?
    intro i
    by_cases hin : i < n
    · obtain ⟨z, hc, _⟩ := hz i hin
      simp [hin, hc, intOf]
    · rw [Array.getElem?_eq_none (by omega)]
      simp [hin]
  · intro z hzm
    simp only [List.mem_map, List.mem_range] at hzm
    obtain ⟨i, hin, rfl⟩ := hzm
    obtain ⟨z, hc, hw⟩ := hz i hin
    rw [hc]
    exact hw
end

theorem wf_u64 {z : Int} (h : (Lit.int .u64 z).wf = true) : 0 ≤ z ∧ z < 18446744073709551616 := by
  simp [Lit.wf, IntKind.min, IntKind.max, IntKind.signed, IntKind.bits] at h
  omega
theorem wf_u8 {z : Int} (h : (Lit.int .u8 z).wf = true) : 0 ≤ z ∧ z < 256 := by
  simp [Lit.wf, IntKind.min, IntKind.max, IntKind.signed, IntKind.bits] at h
  omega
theorem wf_i64 {z : Int} (h : (Lit.int .i64 z).wf = true) : -9223372036854775808 ≤ z ∧ z ≤ 9223372036854775807 := by
  simp [Lit.wf, IntKind.min, IntKind.max, IntKind.signed, IntKind.bits] at h
  omega

/-- Four words that fit are a number's. -/
theorem num_of_words {zs : List Int} (hl : zs.length = 4) (hw : ∀ z ∈ zs, (Lit.int .u64 z).wf = true) : ∃ a, a < M256 ∧ Value.agg (zs.map (Value.int .u64)).toArray = nv a := by
  match zs, hl with
  | [a, b, c, d], _ =>
    obtain ⟨a0, a1⟩ := wf_u64 (hw a (by simp))
    obtain ⟨b0, b1⟩ := wf_u64 (hw b (by simp))
    obtain ⟨c0, c1⟩ := wf_u64 (hw c (by simp))
    obtain ⟨d0, d1⟩ := wf_u64 (hw d (by simp))
    obtain ⟨x, rfl⟩ := Int.eq_ofNat_of_zero_le a0
    obtain ⟨y, rfl⟩ := Int.eq_ofNat_of_zero_le b0
    obtain ⟨z, rfl⟩ := Int.eq_ofNat_of_zero_le c0
    obtain ⟨t, rfl⟩ := Int.eq_ofNat_of_zero_le d0
    have hx : x < B64 := by unfold B64; omega
    have hy : y < B64 := by unfold B64; omega
    have hz : z < B64 := by unfold B64; omega
    have ht : t < B64 := by unfold B64; omega
    exact ⟨ofW x y z t, ofW_lt _ _ _ _ hx hy hz ht, nv_ofW x y z t hx hy hz ht⟩

theorem id_of_bytes {zs : List Int} (hw : ∀ z ∈ zs, (Lit.int .u8 z).wf = true) : ∃ xs : List Nat, xs.length = zs.length ∧ (∀ x ∈ xs, x < 256) ∧ Value.agg (zs.map (Value.int .u8)).toArray = idv xs := by
  refine ⟨zs.map Int.toNat, by simp, ?_, ?_⟩
  · intro x hx
    simp only [List.mem_map] at hx
    obtain ⟨z, hz, rfl⟩ := hx
    have := wf_u8 (hw z hz)
    omega
  · unfold idv idA
    rw [List.map_map]
    congr 2
    apply List.map_congr_left
    intro z hz
    have := wf_u8 (hw z hz)
    simp [byteV]
    omega

end Go.Proofs.YtkhiicnahijnoaaDoor
