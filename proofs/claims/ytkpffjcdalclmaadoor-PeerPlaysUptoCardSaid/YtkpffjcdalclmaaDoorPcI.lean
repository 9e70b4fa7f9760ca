/-
  Texts in one: BkZ, PcI.
-/
import Derived.Test.YtkpffjcdalclmaaDoorTkP
import Derived.Test.YtkpffjcdalclmaaDoorHeaZ
import Derived.Test.YtkpffjcdalclmaaDoorMsZ
import Derived.Test.YtkpffjcdalclmaaDoorPeZ
import Derived.OpenShut
import Derived.ChangeOld
namespace Go.Proofs.YtkpffjcdalclmaaDoor
open Go.ChangeShapes Go.WideShapes Go.ChangeAt Go.RowKit
open Go.Deep (open_slice choose_lt)
set_option linter.unusedVariables false
set_option maxRecDepth 100000
theorem hd_trod {H : Type} {enc : TypeId × Value → H} {w : World} {base f : Nat} {spare : Nat → Bool} {held : Bool} {cs : List Value} {d : DataW H × List MemPlace} (hl : cs.length = 68)
    (hf : DataW.trod enc Tryd.prog w base spare held f 53 cs = some d) : ∃ x, IsHd x ∧ cs = hdL x := by
  obtain ⟨d, p⟩ := d
  have h32 : Tryd.prog.cellsOf 50 = 32 := by kernel_rfl
  have h1 : Tryd.prog.cellsOf 30 = 1 := by kernel_rfl
  obtain ⟨xs, n, _, _, _, hxl, hi⟩ := DataW.trod_struct Tryd.underlying53 hf
  have e0 : DataW.trod enc Tryd.prog w base spare held n 30 ((cs.drop 0).take (Tryd.prog.cellsOf 30)) = xs[0]? := hi 0 _ rfl
  rw [h1, List.getElem?_eq_getElem (by rw [hxl]; decide)] at e0
  have e1 : DataW.trod enc Tryd.prog w base spare held n 50 ((cs.drop 1).take (Tryd.prog.cellsOf 50)) = xs[1]? := hi 1 _ rfl
  rw [h32, List.getElem?_eq_getElem (by rw [hxl]; decide)] at e1
  have e2 : DataW.trod enc Tryd.prog w base spare held n 50 ((cs.drop 33).take (Tryd.prog.cellsOf 50)) = xs[2]? := hi 2 _ rfl
  rw [h32, List.getElem?_eq_getElem (by rw [hxl]; decide)] at e2
  have e3 : DataW.trod enc Tryd.prog w base spare held n 30 ((cs.drop 65).take (Tryd.prog.cellsOf 30)) = xs[3]? := hi 3 _ rfl
  rw [h1, List.getElem?_eq_getElem (by rw [hxl]; decide)] at e3
  have e4 : DataW.trod enc Tryd.prog w base spare held n 30 ((cs.drop 66).take (Tryd.prog.cellsOf 30)) = xs[4]? := hi 4 _ rfl
  rw [h1, List.getElem?_eq_getElem (by rw [hxl]; decide)] at e4
  have e5 : DataW.trod enc Tryd.prog w base spare held n 30 ((cs.drop 67).take (Tryd.prog.cellsOf 30)) = xs[5]? := hi 5 _ rfl
  rw [h1, List.getElem?_eq_getElem (by rw [hxl]; decide)] at e5
  obtain ⟨a0, b0, c0⟩ := u32_of_trod Tryd.underlying30 (by rw [hl]; decide) e0
  obtain ⟨a3, b3, c3⟩ := u32_of_trod Tryd.underlying30 (by rw [hl]; decide) e3
  obtain ⟨a4, b4_, c4⟩ := u32_of_trod Tryd.underlying30 (by rw [hl]; decide) e4
  obtain ⟨a5, b5, c5⟩ := u32_of_trod Tryd.underlying30 (by rw [hl]; decide) e5
  obtain ⟨a1, b1, c1⟩ := i_of_trod Tryd.underlying50 Tryd.underlying5 (by kernel_rfl) (by rw [List.length_take, List.length_drop, hl]; decide) e1
  obtain ⟨a2, b2, c2⟩ := i_of_trod Tryd.underlying50 Tryd.underlying5 (by kernel_rfl) (by rw [List.length_take, List.length_drop, hl]; decide) e2
  refine ⟨⟨a0, a1, a2, a3, a4, a5⟩, ⟨b0, b1.1, b1.2, b2.1, b2.2, b3, b4_, b5⟩, ?_⟩
  generalize cs = l at *
  have t0 : l = l.take 1 ++ ((l.drop 1).take 32 ++ ((l.drop 33).take 32 ++ ((l.drop 65).take 1 ++ ((l.drop 66).take 1 ++ (l.drop 67).take 1)))) := by
    have d67 : (l.drop 67).take 1 = l.drop 67 := List.take_of_length_le (by rw [List.length_drop]; omega)
    have d66 : (l.drop 66).take 1 ++ l.drop 67 = l.drop 66 := by rw [show 67 = 66 + 1 from rfl, ← List.drop_drop]; exact List.take_append_drop _ _
    have d65 : (l.drop 65).take 1 ++ l.drop 66 = l.drop 65 := by rw [show 66 = 65 + 1 from rfl, ← List.drop_drop]; exact List.take_append_drop _ _
    have d33 : (l.drop 33).take 32 ++ l.drop 65 = l.drop 33 := by rw [show 65 = 33 + 32 from rfl, ← List.drop_drop]; exact List.take_append_drop _ _
    have d1 : (l.drop 1).take 32 ++ l.drop 33 = l.drop 1 := by rw [show 33 = 1 + 32 from rfl, ← List.drop_drop]; exact List.take_append_drop _ _
    rw [d67, d66, d65, d33, d1, List.take_append_drop]
  have one : ∀ o v, l[o]? = some v → (l.drop o).take 1 = [v] := fun o v h => by
    obtain ⟨ho, hv⟩ := List.getElem?_eq_some_iff.1 h
    rw [List.drop_eq_getElem_cons ho, hv]; rfl
  have o0 := one 0 _ c0
  rw [List.drop_zero] at o0
  rw [t0, o0, c1, c2, one 65 _ c3, one 66 _ c4, one 67 _ c5]
  rfl
end Go.Proofs.YtkpffjcdalclmaaDoor
namespace Go.Proofs.YtkpffjcdalclmaaDoor
open Go.ChangeShapes Go.WideShapes Go.ChangeAt Go.RowKit
open Go.Deep (open_slice choose_lt)
set_option linter.unusedVariables false
set_option maxRecDepth 100000
theorem id_trod {H : Type} {enc : TypeId × Value → H} {w : World} {base f : Nat} {spare : Nat → Bool} {held : Bool} {cs : List Value} {d : DataW H × List MemPlace} (hl : cs.length = 32)
    (hf : DataW.trod enc Tryd.prog w base spare held f 50 cs = some d) : ∃ x : I32, True ∧ cs = idR.c x := by
  obtain ⟨d, p⟩ := d
  obtain ⟨a, b, c⟩ := i_of_trod Tryd.underlying50 Tryd.underlying5 (by kernel_rfl) hl hf
  exact ⟨⟨a, b⟩, trivial, c⟩
theorem ids_trod {H : Type} {enc : TypeId × Value → H} {w : World} {base f : Nat} {spare : Nat → Bool} {held : Bool} {cs : List Value} {d : DataW H × List MemPlace}
    (hf : DataW.trod enc Tryd.prog w base spare held f 48 cs = some d) : ∃ s L c, cs = [.slice s L.length c] ∧ RowV idR w w.heap.size (.slice s L.length c) L ∧ ∀ x ∈ L, True :=
  rows_trod idR_ok (fun _ => True) (by kernel_rfl) (fun n cs d h1 h2 => id_trod h1 h2) hf
theorem hds_trod {H : Type} {enc : TypeId × Value → H} {w : World} {base f : Nat} {spare : Nat → Bool} {held : Bool} {cs : List Value} {d : DataW H × List MemPlace}
    (hf : DataW.trod enc Tryd.prog w base spare held f 51 cs = some d) : ∃ s L c, cs = [.slice s L.length c] ∧ RowV hdR w w.heap.size (.slice s L.length c) L ∧ ∀ x ∈ L, True :=
  rows_trod hdR_ok (fun _ => True) (by kernel_rfl) (fun n cs d h1 h2 => by
    obtain ⟨x, hx, e⟩ := hd_trod h1 h2
    exact ⟨⟨x, hx⟩, trivial, e⟩) hf
end Go.Proofs.YtkpffjcdalclmaaDoor
namespace Go.Proofs.YtkpffjcdalclmaaDoor
open Go.ChangeShapes Go.WideShapes Go.ChangeAt Go.RowKit
set_option linter.unusedVariables false
set_option linter.unusedSimpArgs false
set_option maxRecDepth 100000
end Go.Proofs.YtkpffjcdalclmaaDoor
