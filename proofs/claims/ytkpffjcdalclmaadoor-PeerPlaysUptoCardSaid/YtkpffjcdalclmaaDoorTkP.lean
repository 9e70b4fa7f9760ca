/- Texts in one: TxK, TxL, TxW0, TxZ. -/
import Derived.Test.YtkpffjcdalclmaaDoorTxC
import Derived.Test.YtkpffjcdalclmaaDoorWfY
import Derived.Deep.RegionHeld
import Derived.Test.YtkpffjcdalclmaaDoorTxJ
import Derived.Lib.SlBytesConst
import Derived.Test.YtkpffjcdalclmaaDoorTxE
import Derived.Test.YtkpffjcdalclmaaDoorReaZ
import Derived.Test.YtkpffjcdalclmaaDoorTxY
import Derived.Deep.Slices
import Derived.OpenShut
import Derived.ChangeOld
namespace Go.Proofs.YtkpffjcdalclmaaDoor
open Go.RowKit
set_option linter.unusedVariables false
set_option linter.unusedSimpArgs false
set_option maxRecDepth 100000
end Go.Proofs.YtkpffjcdalclmaaDoor
namespace Go.Proofs.YtkpffjcdalclmaaDoor
open Go.RowKit
set_option linter.unusedVariables false
set_option linter.unusedSimpArgs false
set_option maxRecDepth 100000
end Go.Proofs.YtkpffjcdalclmaaDoor
namespace Go.Proofs.YtkpffjcdalclmaaDoor
open Go.RowKit
set_option linter.unusedVariables false
set_option linter.unusedSimpArgs false
set_option maxRecDepth 100000
def tw (g : Nat) : TxM := ⟨some ⟨g + 1, 0, none⟩, 1, [⟨i0, 0, some ⟨g, 0, none⟩, 1, [107]⟩], some ⟨g + 2, 0, none⟩, 1, [⟨5, i0⟩]⟩
end Go.Proofs.YtkpffjcdalclmaaDoor
namespace Go.Proofs.YtkpffjcdalclmaaDoor
open Go.RowKit
set_option linter.unusedVariables false
set_option linter.unusedSimpArgs false
set_option maxRecDepth 100000
def WSt (w W : World) (g g2 ob oo : Nat) (sa : Option Addr) (na ca cb : Nat) : Prop := Below w.heap.size w W ∧ Bk W (g + 3) 89 #[.slice (some ⟨g + 1, 0, none⟩) 1 1, .slice (some ⟨g + 2, 0, none⟩) 1 1] ∧ TxV W (g + 3) (tw g) ∧ Bk W g2 89 #[.slice sa na ca, .slice (some ⟨ob, oo, none⟩) 1 cb] ∧ W.cell? ⟨ob, oo, none⟩ = some (.int .i64 5) ∧ ob < W.heap.size
theorem WSt.keep {w W W' : World} {g g2 ob oo : Nat} {sa : Option Addr} {na ca cb : Nat} (h : WSt w W g g2 ob oo sa na ca cb) (hb : Below W.heap.size W W') : WSt w W' g g2 ob oo sa na ca cb := ⟨below_step h.1 h.1.size hb, h.2.1.keep hb, h.2.2.1.keep hb (by have := h.2.1.lt; omega), h.2.2.2.1.keep hb, (hb.cell (p := ⟨ob, oo, none⟩) h.2.2.2.2.2).trans h.2.2.2.2.1, Nat.lt_of_lt_of_le h.2.2.2.2.2 hb.size⟩
end Go.Proofs.YtkpffjcdalclmaaDoor
namespace Go.Proofs.YtkpffjcdalclmaaDoor
open Go.RowKit
set_option linter.unusedVariables false
set_option linter.unusedSimpArgs false
set_option maxRecDepth 100000
end Go.Proofs.YtkpffjcdalclmaaDoor
namespace Go.Proofs.YtkpffjcdalclmaaDoor
open Go.ChangeShapes Go.WideShapes Go.ChangeAt Go.RowKit
open Go.Deep (open_slice choose_lt)
set_option linter.unusedVariables false
set_option linter.unusedSimpArgs false
set_option maxRecDepth 100000
def IsI (x : List Nat) : Prop := x.length = 32 ∧ ∀ b ∈ x, b < 256
theorem wf_u64p {z : Int} (h : (Lit.int .u64 z).wf = true) : 0 ≤ z ∧ z < 18446744073709551616 := by
  simp [Lit.wf, IntKind.min, IntKind.max, IntKind.signed, IntKind.bits] at h
  omega
theorem wf_i64p {z : Int} (h : (Lit.int .i64 z).wf = true) : -9223372036854775808 ≤ z ∧ z ≤ 9223372036854775807 := by
  simp [Lit.wf, IntKind.min, IntKind.max, IntKind.signed, IntKind.bits] at h
  omega
section
variable {H : Type} {enc : TypeId × Value → H} {P : Program} {w : World} {base : Nat} {spare : Nat → Bool} {held : Bool}
theorem i_of_trod {t e : TypeId} {f : Nat} {cs : List Value} {d : DataW H} {p : List MemPlace} (ht : P.underlying t = some (.array 32 e)) (he : P.underlying e = some (.int .u8)) (hce : P.cellsOf e = 1)
    (hlen : cs.length = 32) (h : DataW.trod enc P w base spare held f t cs = some (d, p)) : ∃ x, IsI x ∧ cs = (idA x).toList := by
  obtain ⟨xs, m, _, _, hcl, hxl, hi⟩ := DataW.trod_array ht h
  have hz : ∀ i, i < 32 → ∃ z : Nat, cs[i]? = some (.int .u8 (z : Int)) ∧ z < 256 := by
    intro i hin
    have h1 := hi i hin
    rw [hce, List.getElem?_eq_getElem (by omega)] at h1
    obtain ⟨z, e1, _, hw⟩ := DataW.trod_int he h1
    have hl : i < cs.length := by omega
    simp only [Nat.mul_one] at e1
    rw [List.drop_eq_getElem_cons hl] at e1
    simp only [List.take_succ_cons, List.take_zero, List.cons.injEq, and_true] at e1
    have hb := wf_byte hw
    obtain ⟨n, rfl⟩ := Int.eq_ofNat_of_zero_le hb.1
    refine ⟨n, ?_, by omega⟩
    rw [List.getElem?_eq_getElem hl]
    simpa using e1
  obtain ⟨g, hg⟩ := choose_lt hz
  refine ⟨(List.range 32).map g, ⟨by simp, fun b hb => ?_⟩, ?_⟩
  · obtain ⟨i, hi, rfl⟩ := List.mem_map.1 hb
    exact (hg i (by simpa using hi)).2
  · apply List.ext_getElem?
    intro i
    rw [show (idA ((List.range 32).map g)).toList = ((List.range 32).map g).map byteV from rfl, List.getElem?_map, List.getElem?_map]
    by_cases hi : i < 32
    · rw [(hg i hi).1, List.getElem?_range hi]
      rfl
    · rw [List.getElem?_eq_none (by omega), List.getElem?_eq_none (by simp; omega)]
      rfl
theorem u64_of_trod {t : TypeId} {f o : Nat} {cs : List Value} {d : DataW H × List MemPlace} (ht : P.underlying t = some (.int .u64)) (ho : o < cs.length)
    (h : DataW.trod enc P w base spare held f t ((cs.drop o).take 1) = some d) : ∃ n : Nat, n < 18446744073709551616 ∧ cs[o]? = some (.int .u64 (n : Int)) := by
  obtain ⟨z, e1, _, hw⟩ := DataW.trod_int ht h
  rw [List.drop_eq_getElem_cons ho] at e1
  simp only [List.take_succ_cons, List.take_zero, List.cons.injEq, and_true] at e1
  have hb := wf_u64p hw
  obtain ⟨n, rfl⟩ := Int.eq_ofNat_of_zero_le hb.1
  exact ⟨n, by omega, by rw [List.getElem?_eq_getElem ho, e1]⟩
theorem i64_of_trod {t : TypeId} {f o : Nat} {cs : List Value} {d : DataW H × List MemPlace} (ht : P.underlying t = some (.int .i64)) (ho : o < cs.length)
    (h : DataW.trod enc P w base spare held f t ((cs.drop o).take 1) = some d) : ∃ n : Int, (-9223372036854775808 ≤ n ∧ n ≤ 9223372036854775807) ∧ cs[o]? = some (.int .i64 n) := by
  obtain ⟨z, e1, _, hw⟩ := DataW.trod_int ht h
  rw [List.drop_eq_getElem_cons ho] at e1
  simp only [List.take_succ_cons, List.take_zero, List.cons.injEq, and_true] at e1
  exact ⟨z, wf_i64p hw, by rw [List.getElem?_eq_getElem ho, e1]⟩
end
theorem bytes_trodX {H : Type} {enc : TypeId × Value → H} {w : World} {base f : Nat} {spare : Nat → Bool} {held : Bool} {cs : List Value} {x : DataW H × List MemPlace}
    (hf : DataW.trod enc Tryd.prog w base spare held f 32 cs = some x) : ∃ (v : Value) (xs : List Nat), cs = [v] ∧ BsV w w.heap.size v xs := by
  rcases open_ints Tryd.underlying32 Tryd.underlying5 (by kernel_rfl) hf with ⟨rfl, _⟩ | ⟨a, len, cap, zs, rfl, _, hl, hm, hz, _, hcell, hwz⟩
  · exact ⟨_, [], rfl, none, 0, rfl, Nat.le_refl _, by omega, by simp, fun h => absurd rfl h⟩
  · have hlz : len ≤ zs.length := by rw [hz]; split <;> omega
    have hxl : ((zs.take len).map Int.toNat).length = len := by rw [List.length_map, List.length_take]; omega
    refine ⟨_, (zs.take len).map Int.toNat, rfl, some a, cap, by rw [hxl], by omega, by unfold maxLen at hm; omega, ?_, ?_⟩
    · intro x hx
      simp only [List.mem_map] at hx
      obtain ⟨z, hzm, rfl⟩ := hx
      have := wf_byte (hwz z (List.mem_of_mem_take hzm))
      omega
    · intro hne
      have hpos : 0 < len := by
        rcases Nat.eq_zero_or_pos len with h0 | h0
        · subst h0; simp at hne
        · exact h0
      have c0 := hcell 0 (by omega)
      obtain ⟨b, o, spot⟩ := a
      have hspot : spot = none := by simpa [Addr.add] using World.cell?_spot c0
      subst hspot
      refine ⟨b, o, rfl, ?_, fun i hi => ?_⟩
      · exact block_lt_of_cell (a := ⟨b, o, none⟩) (by have := c0; simpa [Go.WideShapes.add_plain] using this)
      · have hi' : i < len := by rw [hxl] at hi; exact hi
        have ci := hcell i (by omega)
        rw [Addr.add_mid] at ci
        rw [ci]
        have hzi : zs[i]? = some (zs[i]'(by omega)) := List.getElem?_eq_getElem (by omega)
        have hw := wf_byte (hwz _ (List.getElem_mem (show i < zs.length by omega)))
        have e1 : zs.getD i 0 = zs[i]'(by omega) := by rw [List.getD, hzi]; rfl
        have e2 : nth ((zs.take len).map Int.toNat) i = (zs[i]'(by omega)).toNat := by
          unfold nth
          rw [List.getD, List.getElem?_map, List.getElem?_take_of_lt hi', hzi]; rfl
        rw [e1, e2]
        congr 2
        omega
theorem wf_u32' {z : Int} (h : (Lit.int .u32 z).wf = true) : 0 ≤ z ∧ z < 4294967296 := by
  simp [Lit.wf, IntKind.min, IntKind.max, IntKind.signed, IntKind.bits] at h
  omega
section
variable {H : Type} {enc : TypeId × Value → H} {P : Program} {w : World} {base : Nat} {spare : Nat → Bool} {held : Bool}
theorem u32_of_trod {t : TypeId} {f o : Nat} {cs : List Value} {d : DataW H × List MemPlace} (ht : P.underlying t = some (.int .u32)) (ho : o < cs.length)
    (h : DataW.trod enc P w base spare held f t ((cs.drop o).take 1) = some d) : ∃ n : Nat, n < 4294967296 ∧ cs[o]? = some (.int .u32 (n : Int)) := by
  obtain ⟨z, e1, _, hw⟩ := DataW.trod_int ht h
  rw [List.drop_eq_getElem_cons ho] at e1
  simp only [List.take_succ_cons, List.take_zero, List.cons.injEq, and_true] at e1
  have hb := wf_u32' hw
  obtain ⟨n, rfl⟩ := Int.eq_ofNat_of_zero_le hb.1
  exact ⟨n, by omega, by rw [List.getElem?_eq_getElem ho, e1]⟩
end
theorem drop_one {cs : List Value} {o : Nat} {v : Value} (h : cs[o]? = some v) : cs.drop o = v :: cs.drop (o + 1) := by
  obtain ⟨ho, hv⟩ := List.getElem?_eq_some_iff.1 h
  rw [List.drop_eq_getElem_cons ho, hv]
theorem out_trod {H : Type} {enc : TypeId × Value → H} {w : World} {base f : Nat} {spare : Nat → Bool} {held : Bool} {cs : List Value} {d : DataW H × List MemPlace} (hl : cs.length = 33)
    (hf : DataW.trod enc Tryd.prog w base spare held f 169 cs = some d) : ∃ x, OutOk x ∧ cs = ouL x := by
  obtain ⟨d, p⟩ := d
  have h32 : Tryd.prog.cellsOf 50 = 32 := by kernel_rfl
  have h1 : Tryd.prog.cellsOf 2 = 1 := by kernel_rfl
  obtain ⟨xs, n, _, _, _, hxl, hi⟩ := DataW.trod_struct Tryd.underlying169 hf
  have e0 : DataW.trod enc Tryd.prog w base spare held n 2 ((cs.drop 0).take (Tryd.prog.cellsOf 2)) = xs[0]? := hi 0 _ rfl
  rw [h1, List.getElem?_eq_getElem (by rw [hxl]; decide)] at e0
  have e1 : DataW.trod enc Tryd.prog w base spare held n 50 ((cs.drop 1).take (Tryd.prog.cellsOf 50)) = xs[1]? := hi 1 _ rfl
  rw [h32, List.getElem?_eq_getElem (by rw [hxl]; decide)] at e1
  obtain ⟨a, a1, a2⟩ := i64_of_trod Tryd.underlying2 (by rw [hl]; decide) e0
  obtain ⟨q, q1, q2⟩ := i_of_trod Tryd.underlying50 Tryd.underlying5 (by kernel_rfl) (by rw [List.length_take, List.length_drop, hl]; decide) e1
  refine ⟨⟨a, ⟨q, q1⟩⟩, a1, ?_⟩
  have c1 : cs.drop 1 = q.map byteV := by
    rw [List.take_of_length_le (by rw [List.length_drop, hl]; decide)] at q2
    exact q2
  have := drop_one a2
  rw [List.drop_zero, c1] at this
  exact this
theorem rows_trod {α : Type} {R : RowT α} (hR : R.Ok) (Pr : α → Prop) {H : Type} {enc : TypeId × Value → H} {w : World} {base f : Nat} {spare : Nat → Bool} {held : Bool} {cs0 : List Value} {d : DataW H × List MemPlace}
    (hce : Tryd.prog.cellsOf R.e = R.k) (hel : ∀ n cs d, cs.length = R.k → DataW.trod enc Tryd.prog w base spare held n R.e cs = some d → ∃ x, Pr x ∧ cs = R.c x)
    (hf : DataW.trod enc Tryd.prog w base spare held f R.t cs0 = some d) : ∃ s L c, cs0 = [.slice s L.length c] ∧ RowV R w w.heap.size (.slice s L.length c) L ∧ ∀ x ∈ L, Pr x := by
  rcases open_slice hR.ht hf with ⟨hcs, _⟩ | ⟨a, len, cap, m, n, D, Pl, hcs, _, hlc, hcm, hm, _, hx⟩
  · exact ⟨none, [], 0, hcs, ⟨none, 0, rfl, Nat.le_refl _, by omega, fun h => absurd rfl h⟩, fun x hx => by cases hx⟩
  · have hlm : len ≤ m := by rw [hm]; split <;> omega
    have hk : ∀ i, i < len → ∃ x, Pr x ∧ ∀ j u, (R.c x)[j]? = some u → w.cell? ((a.add (i * R.k)).add j) = some u := by
      intro i hi
      obtain ⟨cs, hc, ht⟩ := hx i (by omega)
      rw [hce] at hc
      obtain ⟨_, hl, hcell⟩ := World.cells?_some hc
      obtain ⟨x, hx1, rfl⟩ := hel _ _ _ hl ht
      refine ⟨x, hx1, fun j u hj => ?_⟩
      have hjl := (List.getElem?_eq_some_iff.1 hj).1
      rw [hcell j (by omega)]
      exact hj
    haveI : Inhabited α := ⟨R.z⟩
    obtain ⟨g, hg⟩ := choose_lt hk
    have hll : ((List.range len).map g).length = len := by simp
    refine ⟨some a, (List.range len).map g, cap, by rw [hll]; exact hcs, ⟨some a, cap, rfl, by omega, by unfold maxLen at hcm; omega, fun hne => ?_⟩, fun x hx => ?_⟩
    · have hpos : 0 < len := by
        rcases Nat.eq_zero_or_pos len with h0 | h0
        · subst h0; simp at hne
        · exact h0
      obtain ⟨u0, hu0⟩ : ∃ u, (R.c (g 0))[0]? = some u := ⟨_, List.getElem?_eq_getElem (by rw [hR.len]; exact hR.pos)⟩
      have c0 := (hg 0 hpos).2 0 _ hu0
      obtain ⟨b, o, spot⟩ := a
      have hspot : spot = none := by simpa [Addr.add] using World.cell?_spot c0
      subst hspot
      refine ⟨b, o, rfl, ?_, fun i x hxi => ?_⟩
      · exact block_lt_of_cell (a := ⟨b, o, none⟩) (by have := c0; simpa [Go.WideShapes.add_plain] using this)
      · have hil : i < len := by
          have := (List.getElem?_eq_some_iff.1 hxi).1
          simpa using this
        have hxe : x = g i := by simp [hil] at hxi; exact hxi.symm
        subst hxe
        intro j u hu
        have h3 := (hg i hil).2 j u hu
        simp only [Go.WideShapes.add_plain] at h3
        exact h3
    · obtain ⟨i, hi, rfl⟩ := List.mem_map.1 hx
      exact (hg i (by simpa using hi)).1
end Go.Proofs.YtkpffjcdalclmaaDoor
