/-
  Texts in one: BlkP, MsP.
-/
import Derived.Test.YtkpffjcdalclmaaDoorTkP
import Derived.Test.YtkpffjcdalclmaaDoorHeaZ
import Derived.Test.YtkpffjcdalclmaaDoorMsZ
namespace Go.Proofs.YtkpffjcdalclmaaDoor
open Go.ChangeShapes Go.WideShapes Go.ChangeAt Go.RowKit
open Go.Deep (open_slice choose_lt)
set_option linter.unusedVariables false
set_option maxRecDepth 100000

theorem hd_trod {H : Type} {enc : TypeId × Value → H} {w : World} {base f : Nat} {spare : Nat → Bool} {held : Bool} {cs : List Value} {d : DataW H × List MemPlace} (hl : cs.length = 68)
    (hf : DataW.trod enc Tryd.prog w base spare held f 53 cs = some d) : ∃ x, IsHd x ∧ cs = hdL x := by
  obtain ⟨d, p⟩ := d
  have h32 : Tryd.prog.cellsOf 50 = 32 := by kernel_rfl
  have h1 : Tryd.prog.cellsOf 30 = 1 := by kernel_rfl
  obtain ⟨xs, n, _, _, _, hxl, hi⟩ := DataW.trod_struct Tryd.underlying53 hf
  have e0 : DataW.trod enc Tryd.prog w base spare held n 30 ((cs.drop 0).take (Tryd.prog.cellsOf 30)) = xs[0]? := hi 0 _ rfl
  rw [h1, List.getElem?_eq_getElem (by rw [hxl]; decide)] at e0
  have e1 : DataW.trod enc Tryd.prog w base spare held n 50 ((cs.drop 1).take (Tryd.prog.cellsOf 50)) = xs[1]? := hi 1 _ rfl
  rw [h32, List.getElem?_eq_getElem (by rw [hxl]; decide)] at e1
  have e2 : DataW.trod enc Tryd.prog w base spare held n 50 ((cs.drop 33).take (Tryd.prog.cellsOf 50)) = xs[2]? := hi 2 _ rfl
  rw [h32, List.getElem?_eq_getElem (by rw [hxl]; decide)] at e2
  have e3 : DataW.trod enc Tryd.prog w base spare held n 30 ((cs.drop 65).take (Tryd.prog.cellsOf 30)) = xs[3]? := hi 3 _ rfl
  rw [h1, List.getElem?_eq_getElem (by rw [hxl]; decide)] at e3
  have e4 : DataW.trod enc Tryd.prog w base spare held n 30 ((cs.drop 66).take (Tryd.prog.cellsOf 30)) = xs[4]? := hi 4 _ rfl
  rw [h1, List.getElem?_eq_getElem (by rw [hxl]; decide)] at e4
  have e5 : DataW.trod enc Tryd.prog w base spare held n 30 ((cs.drop 67).take (Tryd.prog.cellsOf 30)) = xs[5]? := hi 5 _ rfl
  rw [h1, List.getElem?_eq_getElem (by rw [hxl]; decide)] at e5
  obtain ⟨a0, b0, c0⟩ := u32_of_trod Tryd.underlying30 (by rw [hl]; decide) e0
  obtain ⟨a3, b3, c3⟩ := u32_of_trod Tryd.underlying30 (by rw [hl]; decide) e3
  obtain ⟨a4, b4_, c4⟩ := u32_of_trod Tryd.underlying30 (by rw [hl]; decide) e4
  obtain ⟨a5, b5, c5⟩ := u32_of_trod Tryd.underlying30 (by rw [hl]; decide) e5
  obtain ⟨a1, b1, c1⟩ := i_of_trod Tryd.underlying50 Tryd.underlying5 (by kernel_rfl) (by rw [List.length_take, List.length_drop, hl]; decide) e1
  obtain ⟨a2, b2, c2⟩ := i_of_trod Tryd.underlying50 Tryd.underlying5 (by kernel_rfl) (by rw [List.length_take, List.length_drop, hl]; decide) e2
  refine ⟨⟨a0, a1, a2, a3, a4, a5⟩, ⟨b0, b1.1, b1.2, b2.1, b2.2, b3, b4_, b5⟩, ?_⟩
  generalize cs = l at *
  have t0 : l = l.take 1 ++ ((l.drop 1).take 32 ++ ((l.drop 33).take 32 ++ ((l.drop 65).take 1 ++ ((l.drop 66).take 1 ++ (l.drop 67).take 1)))) := by
    have d67 : (l.drop 67).take 1 = l.drop 67 := List.take_of_length_le (by rw [List.length_drop]; omega)
    have d66 : (l.drop 66).take 1 ++ l.drop 67 = l.drop 66 := by rw [show 67 = 66 + 1 from rfl, ← List.drop_drop]; exact List.take_append_drop _ _
    have d65 : (l.drop 65).take 1 ++ l.drop 66 = l.drop 65 := by rw [show 66 = 65 + 1 from rfl, ← List.drop_drop]; exact List.take_append_drop _ _
    have d33 : (l.drop 33).take 32 ++ l.drop 65 = l.drop 33 := by rw [show 65 = 33 + 32 from rfl, ← List.drop_drop]; exact List.take_append_drop _ _
    have d1 : (l.drop 1).take 32 ++ l.drop 33 = l.drop 1 := by rw [show 33 = 1 + 32 from rfl, ← List.drop_drop]; exact List.take_append_drop _ _
    rw [d67, d66, d65, d33, d1, List.take_append_drop]
  have one : ∀ o v, l[o]? = some v → (l.drop o).take 1 = [v] := fun o v h => by
    obtain ⟨ho, hv⟩ := List.getElem?_eq_some_iff.1 h
    rw [List.drop_eq_getElem_cons ho, hv]; rfl
  have o0 := one 0 _ c0
  rw [List.drop_zero] at o0
  rw [t0, o0, c1, c2, one 65 _ c3, one 66 _ c4, one 67 _ c5]
  rfl
/-- A slice of transactions that comes in. -/
theorem txs_trod {H : Type} {enc : TypeId × Value → H} {w : World} {base f : Nat} {spare : Nat → Bool} {held : Bool} {cs : List Value} {d : DataW H × List MemPlace}
    (hf : DataW.trod enc Tryd.prog w base spare held f 54 cs = some d) : ∃ s L c, cs = [.slice s L.length c] ∧ RowV txR w w.heap.size (.slice s L.length c) L ∧ ∀ x ∈ L, TxV w w.heap.size x :=
  rows_trod txR_ok (fun x => TxV w w.heap.size x) (by kernel_rfl) (fun n cs d h1 h2 => tx_trod h1 h2) hf
end Go.Proofs.YtkpffjcdalclmaaDoor
namespace Go.Proofs.YtkpffjcdalclmaaDoor
open Go.ChangeShapes Go.WideShapes Go.ChangeAt Go.RowKit
open Go.Deep (open_slice choose_lt)
set_option linter.unusedVariables false
set_option maxRecDepth 100000

theorem id_trod {H : Type} {enc : TypeId × Value → H} {w : World} {base f : Nat} {spare : Nat → Bool} {held : Bool} {cs : List Value} {d : DataW H × List MemPlace} (hl : cs.length = 32)
    (hf : DataW.trod enc Tryd.prog w base spare held f 50 cs = some d) : ∃ x : I32, True ∧ cs = idR.c x := by
  obtain ⟨d, p⟩ := d
  obtain ⟨a, b, c⟩ := i_of_trod Tryd.underlying50 Tryd.underlying5 (by kernel_rfl) hl hf
  exact ⟨⟨a, b⟩, trivial, c⟩
theorem ids_trod {H : Type} {enc : TypeId × Value → H} {w : World} {base f : Nat} {spare : Nat → Bool} {held : Bool} {cs : List Value} {d : DataW H × List MemPlace}
    (hf : DataW.trod enc Tryd.prog w base spare held f 48 cs = some d) : ∃ s L c, cs = [.slice s L.length c] ∧ RowV idR w w.heap.size (.slice s L.length c) L ∧ ∀ x ∈ L, True :=
  rows_trod idR_ok (fun _ => True) (by kernel_rfl) (fun n cs d h1 h2 => id_trod h1 h2) hf
theorem hds_trod {H : Type} {enc : TypeId × Value → H} {w : World} {base f : Nat} {spare : Nat → Bool} {held : Bool} {cs : List Value} {d : DataW H × List MemPlace}
    (hf : DataW.trod enc Tryd.prog w base spare held f 51 cs = some d) : ∃ s L c, cs = [.slice s L.length c] ∧ RowV hdR w w.heap.size (.slice s L.length c) L ∧ ∀ x ∈ L, True :=
  rows_trod hdR_ok (fun _ => True) (by kernel_rfl) (fun n cs d h1 h2 => by
    obtain ⟨x, hx, e⟩ := hd_trod h1 h2
    exact ⟨⟨x, hx⟩, trivial, e⟩) hf
theorem blkm_trod {H : Type} {enc : TypeId × Value → H} {w : World} {base f : Nat} {spare : Nat → Bool} {held : Bool} {cs : List Value} {d : DataW H × List MemPlace} (hl : cs.length = 69)
    (hf : DataW.trod enc Tryd.prog w base spare held f 56 cs = some d) : ∃ b, BlkV w w.heap.size b ∧ cs = blkL b := by
  obtain ⟨d, p⟩ := d
  have h68 : Tryd.prog.cellsOf 53 = 68 := by kernel_rfl
  have h1 : Tryd.prog.cellsOf 54 = 1 := by kernel_rfl
  obtain ⟨xs, n, _, _, _, hxl, hi⟩ := DataW.trod_struct Tryd.underlying56 hf
  have e0 : DataW.trod enc Tryd.prog w base spare held n 53 ((cs.drop 0).take (Tryd.prog.cellsOf 53)) = xs[0]? := hi 0 _ rfl
  rw [h68, List.getElem?_eq_getElem (by rw [hxl]; decide)] at e0
  have e1 : DataW.trod enc Tryd.prog w base spare held n 54 ((cs.drop 68).take (Tryd.prog.cellsOf 54)) = xs[1]? := hi 1 _ rfl
  rw [h1, List.getElem?_eq_getElem (by rw [hxl]; decide)] at e1
  obtain ⟨hd, a1, a2⟩ := hd_trod (by rw [List.length_take, List.length_drop, hl]; decide) e0
  obtain ⟨s, L, c, b1, b2, b3⟩ := txs_trod e1
  refine ⟨⟨hd, s, c, L⟩, ⟨a1, b2, b3⟩, ?_⟩
  rw [List.drop_zero] at a2
  rw [List.take_of_length_le (by rw [List.length_drop, hl]; decide)] at b1
  unfold blkL
  rw [← List.take_append_drop 68 cs, a2, b1]
  rfl
theorem msg_trod {H : Type} {enc : TypeId × Value → H} {w : World} {base f : Nat} {spare : Nat → Bool} {held : Bool} {cs : List Value} {d : DataW H × List MemPlace} (hl : cs.length = 106)
    (hf : DataW.trod enc Tryd.prog w base spare held f 58 cs = some d) : ∃ m, MsV w w.heap.size m ∧ cs = msL m := by
  obtain ⟨d, p⟩ := d
  have h32 : Tryd.prog.cellsOf 50 = 32 := by kernel_rfl
  have hb69 : Tryd.prog.cellsOf 56 = 69 := by kernel_rfl
  have hu32 : Tryd.prog.cellsOf 30 = 1 := by kernel_rfl
  have hu64 : Tryd.prog.cellsOf 22 = 1 := by kernel_rfl
  have hi1 : Tryd.prog.cellsOf 3 = 1 := by kernel_rfl
  have hs1 : Tryd.prog.cellsOf 48 = 1 := by kernel_rfl
  have hs2 : Tryd.prog.cellsOf 51 = 1 := by kernel_rfl
  obtain ⟨xs, n, _, _, _, hxl, hi⟩ := DataW.trod_struct Tryd.underlying58 hf
  have e0 : DataW.trod enc Tryd.prog w base spare held n 3 ((cs.drop 0).take (Tryd.prog.cellsOf 3)) = xs[0]? := hi 0 _ rfl
  rw [hi1, List.getElem?_eq_getElem (by rw [hxl]; decide)] at e0
  have e1 : DataW.trod enc Tryd.prog w base spare held n 22 ((cs.drop 1).take (Tryd.prog.cellsOf 22)) = xs[1]? := hi 1 _ rfl
  rw [hu64, List.getElem?_eq_getElem (by rw [hxl]; decide)] at e1
  have e2 : DataW.trod enc Tryd.prog w base spare held n 30 ((cs.drop 2).take (Tryd.prog.cellsOf 30)) = xs[2]? := hi 2 _ rfl
  rw [hu32, List.getElem?_eq_getElem (by rw [hxl]; decide)] at e2
  have e3 : DataW.trod enc Tryd.prog w base spare held n 48 ((cs.drop 3).take (Tryd.prog.cellsOf 48)) = xs[3]? := hi 3 _ rfl
  rw [hs1, List.getElem?_eq_getElem (by rw [hxl]; decide)] at e3
  have e4 : DataW.trod enc Tryd.prog w base spare held n 50 ((cs.drop 4).take (Tryd.prog.cellsOf 50)) = xs[4]? := hi 4 _ rfl
  rw [h32, List.getElem?_eq_getElem (by rw [hxl]; decide)] at e4
  have e5 : DataW.trod enc Tryd.prog w base spare held n 51 ((cs.drop 36).take (Tryd.prog.cellsOf 51)) = xs[5]? := hi 5 _ rfl
  rw [hs2, List.getElem?_eq_getElem (by rw [hxl]; decide)] at e5
  have e6 : DataW.trod enc Tryd.prog w base spare held n 56 ((cs.drop 37).take (Tryd.prog.cellsOf 56)) = xs[6]? := hi 6 _ rfl
  rw [hb69, List.getElem?_eq_getElem (by rw [hxl]; decide)] at e6
  obtain ⟨a0, b0, c0⟩ := i64_of_trod Tryd.underlying3 (by rw [hl]; decide) e0
  obtain ⟨a1, b1, c1⟩ := u64_of_trod Tryd.underlying22 (by rw [hl]; decide) e1
  obtain ⟨a2, b2, c2⟩ := u32_of_trod Tryd.underlying30 (by rw [hl]; decide) e2
  obtain ⟨s3, L3, n3, c3, b3, _⟩ := ids_trod e3
  obtain ⟨a4, _, c4⟩ := id_trod (by rw [List.length_take, List.length_drop, hl]; decide) e4
  obtain ⟨s5, L5, n5, c5, b5, _⟩ := hds_trod e5
  obtain ⟨a6, b6, c6⟩ := blkm_trod (by rw [List.length_take, List.length_drop, hl]; decide) e6
  refine ⟨⟨a0, a1, a2, s3, n3, L3, a4, s5, n5, L5, a6⟩, ⟨⟨b0, b1, b2, b6.1⟩, b3, b5, b6⟩, ?_⟩
  have one : ∀ o v, cs[o]? = some v → cs.drop o = v :: cs.drop (o + 1) := fun o v h => by
    obtain ⟨ho, hv⟩ := List.getElem?_eq_some_iff.1 h
    rw [List.drop_eq_getElem_cons ho, hv]
  have many : ∀ o k X, (cs.drop o).take k = X → cs.drop o = X ++ cs.drop (o + k) := fun o k X h => by
    rw [← h, ← List.drop_drop]
    exact (List.take_append_drop _ _).symm
  have c6' : cs.drop 37 = blkL a6 := by rw [← c6]; exact (List.take_of_length_le (by rw [List.length_drop, hl]; decide)).symm
  rw [← List.drop_zero (l := cs), one 0 _ c0, one 1 _ c1, one 2 _ c2, many 3 1 _ c3, many 4 32 _ c4, many 36 1 _ c5, c6']
  rfl
end Go.Proofs.YtkpffjcdalclmaaDoor
