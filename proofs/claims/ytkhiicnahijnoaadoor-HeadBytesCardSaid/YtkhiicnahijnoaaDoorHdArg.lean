/-
  A header that comes in.
-/
import Derived.Test.YtkhiicnahijnoaaDoorIdArg
import Derived.Test.YtkhiicnahijnoaaDoorHeaZ
namespace Go.Proofs.YtkhiicnahijnoaaDoor
open Go.ChangeShapes Go.WideShapes Go.ChangeAt Go.RowKit
open Go.Deep (open_slice choose_lt)
set_option linter.unusedVariables false
set_option maxRecDepth 100000

theorem wf_u32' {z : Int} (h : (Lit.int .u32 z).wf = true) : 0 ≤ z ∧ z < 4294967296 := by
  simp [Lit.wf, IntKind.min, IntKind.max, IntKind.signed, IntKind.bits] at h
  omega
section
variable {H : Type} {enc : TypeId × Value → H} {P : Program} {w : World} {base : Nat} {spare : Nat → Bool} {held : Bool}
theorem u32_of_trod {t : TypeId} {f o : Nat} {cs : List Value} {d : DataW H × List MemPlace} (ht : P.underlying t = some (.int .u32)) (ho : o < cs.length)
    (h : DataW.trod enc P w base spare held f t ((cs.drop o).take 1) = some d) : ∃ n : Nat, n < 4294967296 ∧ cs[o]? = some (.int .u32 (n : Int)) := by
  obtain ⟨z, e1, _, hw⟩ := DataW.trod_int ht h
  rw [List.drop_eq_getElem_cons ho] at e1
  simp only [List.take_succ_cons, List.take_zero, List.cons.injEq, and_true] at e1
  have hb := wf_u32' hw
  obtain ⟨n, rfl⟩ := Int.eq_ofNat_of_zero_le hb.1
  exact ⟨n, by omega, by rw [List.getElem?_eq_getElem ho, e1]⟩
end
theorem hd_arg {H : Type} {enc : TypeId × Value → H} {w : World} {base b0 : Nat} {spare : Nat → Bool} {held : Bool} {r : Reach} {v : Value} {d : DataW H} {p : List MemPlace}
    (hv : Value.okWide Tryd.prog w r b0 26 v) (h : DataW.Trod enc Tryd.prog w base spare held 26 v d p) : ∃ x, IsHd x ∧ v = hdv x := by
  obtain ⟨cs, rfl, hsz, _⟩ : ∃ cs, v = .agg cs ∧ cs.size = Tryd.prog.cellsOf 26 ∧ Row.okWide Tryd.prog w r b0 26 cs := by simpa [Value.okWide, Tryd.underlying26] using hv
  obtain ⟨fuel, hf⟩ := h
  have h68 : Tryd.prog.cellsOf 26 = 68 := by kernel_rfl
  have h32 : Tryd.prog.cellsOf 24 = 32 := by kernel_rfl
  have h1 : Tryd.prog.cellsOf 22 = 1 := by kernel_rfl
  rw [h68] at hsz
  obtain ⟨xs, n, _, _, _, hxl, hi⟩ := DataW.trod_struct Tryd.underlying26 hf
  have e0 : DataW.trod enc Tryd.prog w base spare held n 22 ((cs.toList.drop 0).take (Tryd.prog.cellsOf 22)) = xs[0]? := hi 0 _ rfl
  rw [h1, List.getElem?_eq_getElem (by rw [hxl]; decide)] at e0
  have e1 : DataW.trod enc Tryd.prog w base spare held n 24 ((cs.toList.drop 1).take (Tryd.prog.cellsOf 24)) = xs[1]? := hi 1 _ rfl
  rw [h32, List.getElem?_eq_getElem (by rw [hxl]; decide)] at e1
  have e2 : DataW.trod enc Tryd.prog w base spare held n 24 ((cs.toList.drop 33).take (Tryd.prog.cellsOf 24)) = xs[2]? := hi 2 _ rfl
  rw [h32, List.getElem?_eq_getElem (by rw [hxl]; decide)] at e2
  have e3 : DataW.trod enc Tryd.prog w base spare held n 22 ((cs.toList.drop 65).take (Tryd.prog.cellsOf 22)) = xs[3]? := hi 3 _ rfl
  rw [h1, List.getElem?_eq_getElem (by rw [hxl]; decide)] at e3
  have e4 : DataW.trod enc Tryd.prog w base spare held n 22 ((cs.toList.drop 66).take (Tryd.prog.cellsOf 22)) = xs[4]? := hi 4 _ rfl
  rw [h1, List.getElem?_eq_getElem (by rw [hxl]; decide)] at e4
  have e5 : DataW.trod enc Tryd.prog w base spare held n 22 ((cs.toList.drop 67).take (Tryd.prog.cellsOf 22)) = xs[5]? := hi 5 _ rfl
  rw [h1, List.getElem?_eq_getElem (by rw [hxl]; decide)] at e5
  have hl : cs.toList.length = 68 := by rw [Array.length_toList, hsz]
  obtain ⟨a0, b0, c0⟩ := u32_of_trod Tryd.underlying22 (by rw [hl]; decide) e0
  obtain ⟨a3, b3, c3⟩ := u32_of_trod Tryd.underlying22 (by rw [hl]; decide) e3
  obtain ⟨a4, b4_, c4⟩ := u32_of_trod Tryd.underlying22 (by rw [hl]; decide) e4
  obtain ⟨a5, b5, c5⟩ := u32_of_trod Tryd.underlying22 (by rw [hl]; decide) e5
  obtain ⟨a1, b1, c1⟩ := id_of_trod Tryd.underlying24 Tryd.underlying5 (by kernel_rfl) (by rw [List.length_take, List.length_drop, hl]; decide) e1
  obtain ⟨a2, b2, c2⟩ := id_of_trod Tryd.underlying24 Tryd.underlying5 (by kernel_rfl) (by rw [List.length_take, List.length_drop, hl]; decide) e2
  refine ⟨⟨a0, a1, a2, a3, a4, a5⟩, ⟨b0, b1.1, b1.2, b2.1, b2.2, b3, b4_, b5⟩, ?_⟩
  have ec : cs.toList = hdL ⟨a0, a1, a2, a3, a4, a5⟩ := by
    generalize cs.toList = l at *
    have t0 : l = l.take 1 ++ ((l.drop 1).take 32 ++ ((l.drop 33).take 32 ++ ((l.drop 65).take 1 ++ ((l.drop 66).take 1 ++ (l.drop 67).take 1)))) := by
      have d67 : (l.drop 67).take 1 = l.drop 67 := List.take_of_length_le (by rw [List.length_drop]; omega)
      have d66 : (l.drop 66).take 1 ++ l.drop 67 = l.drop 66 := by rw [show 67 = 66 + 1 from rfl, ← List.drop_drop]; exact List.take_append_drop _ _
      have d65 : (l.drop 65).take 1 ++ l.drop 66 = l.drop 65 := by rw [show 66 = 65 + 1 from rfl, ← List.drop_drop]; exact List.take_append_drop _ _
      have d33 : (l.drop 33).take 32 ++ l.drop 65 = l.drop 33 := by rw [show 65 = 33 + 32 from rfl, ← List.drop_drop]; exact List.take_append_drop _ _
      have d1 : (l.drop 1).take 32 ++ l.drop 33 = l.drop 1 := by rw [show 33 = 1 + 32 from rfl, ← List.drop_drop]; exact List.take_append_drop _ _
      rw [d67, d66, d65, d33, d1, List.take_append_drop]
    have one : ∀ o v, l[o]? = some v → (l.drop o).take 1 = [v] := fun o v h => by
      obtain ⟨ho, hv⟩ := List.getElem?_eq_some_iff.1 h
      rw [List.drop_eq_getElem_cons ho, hv]; rfl
    have o0 := one 0 _ c0
    rw [List.drop_zero] at o0
    rw [t0, o0, c1, c2, one 65 _ c3, one 66 _ c4, one 67 _ c5]
    rfl
  have e : cs = hdA ⟨a0, a1, a2, a3, a4, a5⟩ := by unfold hdA; rw [← ec]
  rw [e]
end Go.Proofs.YtkhiicnahijnoaaDoor
