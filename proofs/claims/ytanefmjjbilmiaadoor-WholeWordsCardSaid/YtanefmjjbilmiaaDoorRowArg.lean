/-
  Rows that come in: any elements, and whole numbers.
-/
import Derived.Test.YtanefmjjbilmiaaDoorFed
import Derived.Deep.Slices
import Derived.OpenShut
import Derived.ChangeOld
namespace Go.Proofs.YtanefmjjbilmiaaDoor
open Go.ChangeShapes Go.WideShapes Go.ChangeAt Go.RowKit
open Go.Deep (open_slice choose_lt)
set_option linter.unusedVariables false
set_option maxRecDepth 100000
theorem rowsF_trod {α : Type} {R : RowT α} (hR : R.Ok) (Pr : α → Prop) {H : Type} {enc : TypeId × Value → H} {w : World} {base f : Nat} {spare : Nat → Bool} {held : Bool} {cs0 : List Value} {d : DataW H × List MemPlace}
    (hce : Tryd.prog.cellsOf R.e = R.k) (hel : ∀ n cs d, cs.length = R.k → DataW.trod enc Tryd.prog w base spare held n R.e cs = some d → ∃ x, Pr x ∧ cs = R.c x)
    (hf : DataW.trod enc Tryd.prog w base spare held f R.t cs0 = some d) : ∃ s L c, cs0 = [.slice s L.length c] ∧ RowV R w w.heap.size (.slice s L.length c) L ∧ ∀ x ∈ L, Pr x := by
  rcases open_slice hR.ht hf with ⟨hcs, _⟩ | ⟨a, len, cap, m, n, D, Pl, hcs, _, hlc, hcm, hm, _, hx⟩
  · exact ⟨none, [], 0, hcs, ⟨none, 0, rfl, Nat.le_refl _, by omega, fun h => absurd rfl h⟩, fun x hx => by cases hx⟩
  · have hlm : len ≤ m := by rw [hm]; split <;> omega
    have hk : ∀ i, i < len → ∃ x, Pr x ∧ ∀ j u, (R.c x)[j]? = some u → w.cell? ((a.add (i * R.k)).add j) = some u := by
      intro i hi
      obtain ⟨cs, hc, ht⟩ := hx i (by omega)
      rw [hce] at hc
      obtain ⟨_, hl, hcell⟩ := World.cells?_some hc
      obtain ⟨x, hx1, rfl⟩ := hel _ _ _ hl ht
      refine ⟨x, hx1, fun j u hj => ?_⟩
      have hjl := (List.getElem?_eq_some_iff.1 hj).1
      rw [hcell j (by omega)]
      exact hj
    haveI : Inhabited α := ⟨R.z⟩
    obtain ⟨g, hg⟩ := choose_lt hk
    have hll : ((List.range len).map g).length = len := by simp
    refine ⟨some a, (List.range len).map g, cap, by rw [hll]; exact hcs, ⟨some a, cap, rfl, by omega, by unfold maxLen at hcm; omega, fun hne => ?_⟩, fun x hx => ?_⟩
    · have hpos : 0 < len := by
        rcases Nat.eq_zero_or_pos len with h0 | h0
        · subst h0; simp at hne
        · exact h0
      obtain ⟨u0, hu0⟩ : ∃ u, (R.c (g 0))[0]? = some u := ⟨_, List.getElem?_eq_getElem (by rw [hR.len]; exact hR.pos)⟩
      have c0 := (hg 0 hpos).2 0 _ hu0
      obtain ⟨b, o, spot⟩ := a
      have hspot : spot = none := by simpa [Addr.add] using World.cell?_spot c0
      subst hspot
      refine ⟨b, o, rfl, ?_, fun i x hxi => ?_⟩
      · exact block_lt_of_cell (a := ⟨b, o, none⟩) (by have := c0; simpa [Go.WideShapes.add_plain] using this)
      · have hil : i < len := by
          have := (List.getElem?_eq_some_iff.1 hxi).1
          simpa using this
        have hxe : x = g i := by simp [hil] at hxi; exact hxi.symm
        subst hxe
        intro j u hu
        have h3 := (hg i hil).2 j u hu
        simp only [Go.WideShapes.add_plain] at h3
        exact h3
    · obtain ⟨i, hi, rfl⟩ := List.mem_map.1 hx
      exact (hg i (by simpa using hi)).1
theorem wf_i64r {z : Int} (h : (Lit.int .i64 z).wf = true) : -9223372036854775808 ≤ z ∧ z ≤ 9223372036854775807 := by
  simp [Lit.wf, IntKind.min, IntKind.max, IntKind.signed, IntKind.bits] at h
  omega
theorem ints_arg {H : Type} {enc : TypeId × Value → H} {w : World} {base b0 : Nat} {spare : Nat → Bool} {held : Bool} {r : Reach} {v : Value} {d : DataW H} {p : List MemPlace}
    (hv : Value.okWide Tryd.prog w r b0 41 v) (h : DataW.Trod enc Tryd.prog w base spare held 41 v d p) : ∃ L : List Int, RowV intR w w.heap.size v L ∧ ∀ z ∈ L, -9223372036854775808 ≤ z ∧ z ≤ 9223372036854775807 := by
  obtain ⟨s0, len, cap, rfl⟩ := okWide_slice Tryd.underlying41 hv
  obtain ⟨fuel, hf⟩ := h
  obtain ⟨s, L, c, h1, h2, h3⟩ := rowsF_trod intR_ok (fun z => -9223372036854775808 ≤ z ∧ z ≤ 9223372036854775807) (by kernel_rfl) (fun n cs d h1 h2 => by
    obtain ⟨z, e1, _, hw⟩ := DataW.trod_int Tryd.underlying3 h2
    exact ⟨z, wf_i64r hw, e1⟩) hf
  simp [Value.cells] at h1
  obtain ⟨rfl, rfl, rfl⟩ := h1
  exact ⟨L, h2, h3⟩
end Go.Proofs.YtanefmjjbilmiaaDoor
