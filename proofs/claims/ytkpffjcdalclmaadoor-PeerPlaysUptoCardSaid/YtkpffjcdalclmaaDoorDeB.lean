/- Arguments, and how long what they hold may be. -/
import Derived.Test.YtkpffjcdalclmaaDoorDeA
namespace Go.Proofs.YtkpffjcdalclmaaDoor
open Go.ChangeShapes Go.WideShapes Go.ChangeAt Go.RowKit
open Go.Deep (open_slice choose_lt)
set_option linter.unusedVariables false
set_option linter.unusedSimpArgs false
set_option maxRecDepth 100000
namespace bulks
theorem one_le {H : Type} (d : DataW H) : 1 ≤ Rows.uptoBulk d := by
 cases d with
 | lit l => cases l <;> simp [Rows.uptoBulk]
 | nil => simp [Rows.uptoBulk]
 | ptr d => simp [Rows.uptoBulk]
 | slice elems spare => simp [Rows.uptoBulk]
 | agg parts => simp [Rows.uptoBulk]
 | iface t d => simp [Rows.uptoBulk]
 | map entries => simp [Rows.uptoBulk]
 | held h => simp [Rows.uptoBulk]
theorem part_le {H : Type} {d : DataW H} {l : List (DataW H)} (h : d ∈ l) : Rows.uptoBulk d ≤ Rows.uptoBulkAll l := by
 induction l with
 | nil => cases h
 | cons x r ih =>
  simp only [Rows.uptoBulkAll]
  cases List.mem_cons.1 h with
  | inl e => subst e; omega
  | inr e => have := ih e; omega
theorem length_le {H : Type} (l : List (DataW H)) : l.length ≤ Rows.uptoBulkAll l := by
 induction l with
 | nil => simp [Rows.uptoBulkAll]
 | cons x r ih => have := one_le x; simp only [Rows.uptoBulkAll, List.length_cons]; omega
theorem slice_le {H : Type} (elems spare : List (DataW H)) : elems.length + spare.length + 1 ≤ Rows.uptoBulk (.slice elems spare) := by
 have h1 := length_le elems
 have h2 := length_le spare
 simp only [Rows.uptoBulk]
 omega
theorem slice_elems {H : Type} (elems spare : List (DataW H)) : Rows.uptoBulkAll elems + 1 ≤ Rows.uptoBulk (.slice elems spare) := by
 simp only [Rows.uptoBulk]
 omega
end bulks
theorem bytes_bulk {H : Type} {enc : TypeId × Value → H} {w : World} {base f : Nat} {spare : Nat → Bool} {held : Bool} {s : Option Addr} {n c : Nat} {x : DataW H × List MemPlace}
  (hf : DataW.trod enc Tryd.prog w base spare held f 32 [.slice s n c] = some x) : n ≤ Rows.uptoBulk x.1 := by
 rcases open_slice Tryd.underlying32 hf with ⟨h, _⟩ | ⟨a, len, cap, m, n2, D, Pl, hcs, _, _, _, _, hxx, _⟩
 ·injection h with h _
  injection h with _ h2 _
  omega
 ·injection hcs with h _
  injection h with _ h2 _
  subst hxx
  have := bulks.slice_le ((List.range len).map D) ((List.range (m - len)).map fun j => D (len + j))
  simp only [List.length_map, List.length_range] at this
  show n ≤ Rows.uptoBulk (DataW.slice _ _)
  omega
theorem in_trodB {lim : Nat} {H : Type} {enc : TypeId × Value → H} {w : World} {base f : Nat} {spare : Nat → Bool} {held : Bool} {cs : List Value} {d : DataW H × List MemPlace} (hl : cs.length = 34)
  (hf : DataW.trod enc Tryd.prog w base spare held f 166 cs = some d) (hlim : Rows.uptoBulk d.1 ≤ lim) : ∃ x, (InV w w.heap.size x ∧ x.key.length ≤ lim) ∧ cs = inL x := by
 obtain ⟨d, p⟩ := d
 have h33 : Tryd.prog.cellsOf 164 = 33 := by kernel_rfl
 have h32 : Tryd.prog.cellsOf 50 = 32 := by kernel_rfl
 have h1 : Tryd.prog.cellsOf 30 = 1 := by kernel_rfl
 have hs1 : Tryd.prog.cellsOf 32 = 1 := by kernel_rfl
 obtain ⟨xs, n, _, hxx, _, hxl, hi⟩ := DataW.trod_struct Tryd.underlying166 hf
 have e0 : DataW.trod enc Tryd.prog w base spare held n 164 ((cs.drop 0).take (Tryd.prog.cellsOf 164)) = xs[0]? := hi 0 _ rfl
 rw [h33, List.getElem?_eq_getElem (by rw [hxl]; decide)] at e0
 have e1 : DataW.trod enc Tryd.prog w base spare held n 32 ((cs.drop 33).take (Tryd.prog.cellsOf 32)) = xs[1]? := hi 1 _ rfl
 rw [hs1, List.getElem?_eq_getElem (by rw [hxl]; decide)] at e1
 obtain ⟨ys, n2, _, _, _, hyl, hj⟩ := DataW.trod_struct Tryd.underlying164 e0
 have f0 : DataW.trod enc Tryd.prog w base spare held n2 50 ((((cs.drop 0).take 33).drop 0).take (Tryd.prog.cellsOf 50)) = ys[0]? := hj 0 _ rfl
 rw [h32, List.getElem?_eq_getElem (by rw [hyl]; decide)] at f0
 have f1 : DataW.trod enc Tryd.prog w base spare held n2 30 ((((cs.drop 0).take 33).drop 32).take (Tryd.prog.cellsOf 30)) = ys[1]? := hj 1 _ rfl
 rw [h1, List.getElem?_eq_getElem (by rw [hyl]; decide)] at f1
 have hl33 : ((cs.drop 0).take 33).length = 33 := by rw [List.length_take, List.length_drop, hl]; decide
 obtain ⟨q, q1, q2⟩ := i_of_trod Tryd.underlying50 Tryd.underlying5 (by kernel_rfl) (by rw [List.length_take, List.length_drop, hl33]; decide) f0
 obtain ⟨ix, i1, i2⟩ := u32_of_trod Tryd.underlying30 (by rw [hl33]; decide) f1
 have hb_ : ∀ (i : Nat) (h : i < xs.length), Rows.uptoBulk (xs[i]'h).1 ≤ lim := fun i h => by
  have e1 : Rows.uptoBulk (xs[i]'h).1 ≤ Rows.uptoBulkAll (xs.map (·.1)) := bulks.part_le (List.mem_map_of_mem (List.getElem_mem h))
  have e2 : Rows.uptoBulkAll (xs.map (·.1)) ≤ Rows.uptoBulk (DataW.agg (xs.map (·.1)) : DataW H) := by simp only [Rows.uptoBulk]; omega
  have e3 : d = DataW.agg (xs.map (·.1)) := (Prod.mk.inj hxx).1
  rw [← e3] at e2
  exact Nat.le_trans e1 (Nat.le_trans e2 hlim)
 obtain ⟨v, zs, k1, k2⟩ := bytes_trodX e1
 obtain ⟨ks, kc, rfl, k3⟩ := k2
 have hkl : zs.length ≤ lim := by
  rw [k1] at e1
  exact Nat.le_trans (bytes_bulk e1) (hb_ 1 (by rw [hxl]; decide))
 refine ⟨⟨⟨q, q1⟩, ix, ks, kc, zs⟩, ⟨⟨i1, ks, kc, rfl, k3⟩, hkl⟩, ?_⟩
 have c32 : cs[32]? = some (.int .u32 (ix : Int)) := by
  rw [List.drop_zero, List.getElem?_take_of_lt (by decide)] at i2
  exact i2
 have c33 : cs.drop 33 = [.slice ks zs.length kc] := by
  rw [List.take_of_length_le (by rw [List.length_drop, hl]; decide)] at k1
  exact k1
 have c0 : cs.take 32 = q.map byteV := by
  have e : ((((cs.drop 0).take 33).drop 0).take 32) = cs.take 32 := by
   rw [List.drop_zero, List.drop_zero, List.take_take]
   rfl
  rw [e] at q2
  exact q2
 rw [← List.take_append_drop 32 cs, c0, drop_one c32, c33]
 rfl
theorem rows_trodB {lim : Nat} {α : Type} {R : RowT α} (hR : R.Ok) (Pr : α → Prop) {H : Type} {enc : TypeId × Value → H} {w : World} {base f : Nat} {spare : Nat → Bool} {held : Bool} {cs0 : List Value} {d : DataW H × List MemPlace}
  (hce : Tryd.prog.cellsOf R.e = R.k) (hel : ∀ n cs d, cs.length = R.k → DataW.trod enc Tryd.prog w base spare held n R.e cs = some d → Rows.uptoBulk d.1 ≤ lim → ∃ x, Pr x ∧ cs = R.c x)
  (hf : DataW.trod enc Tryd.prog w base spare held f R.t cs0 = some d) (hlim : Rows.uptoBulk d.1 ≤ lim) : ∃ s L c, cs0 = [.slice s L.length c] ∧ RowV R w w.heap.size (.slice s L.length c) L ∧ ∀ x ∈ L, Pr x := by
 rcases open_slice hR.ht hf with ⟨hcs, _⟩ | ⟨a, len, cap, m, n, D, Pl, hcs, _, hlc, hcm, hm, hxx, hx⟩
 ·exact ⟨none, [], 0, hcs, ⟨none, 0, rfl, Nat.le_refl _, by omega, fun h => absurd rfl h⟩, fun x hx => by cases hx⟩
 ·have hlm : len ≤ m := by rw [hm]; split <;> omega
  have hk : ∀ i, i < len → ∃ x, Pr x ∧ ∀ j u, (R.c x)[j]? = some u → w.cell? ((a.add (i * R.k)).add j) = some u := by
   intro i hi
   obtain ⟨cs, hc, ht⟩ := hx i (by omega)
   rw [hce] at hc
   obtain ⟨_, hl, hcell⟩ := World.cells?_some hc
   obtain ⟨x, hx1, rfl⟩ := hel _ _ _ hl ht (by
    rw [hxx] at hlim
    have e1 : Rows.uptoBulk (D i) ≤ Rows.uptoBulkAll ((List.range len).map D) := bulks.part_le (List.mem_map_of_mem (List.mem_range.2 hi))
    have e2 := bulks.slice_elems ((List.range len).map D) ((List.range (m - len)).map fun j => D (len + j))
    show Rows.uptoBulk (D i) ≤ lim
    have e3 : Rows.uptoBulk (DataW.slice ((List.range len).map D) ((List.range (m - len)).map fun j => D (len + j))) ≤ lim := hlim
    omega)
   refine ⟨x, hx1, fun j u hj => ?_⟩
   have hjl := (List.getElem?_eq_some_iff.1 hj).1
   rw [hcell j (by omega)]
   exact hj
  haveI : Inhabited α := ⟨R.z⟩
  obtain ⟨g, hg⟩ := choose_lt hk
  have hll : ((List.range len).map g).length = len := by simp
  refine ⟨some a, (List.range len).map g, cap, by rw [hll]; exact hcs, ⟨some a, cap, rfl, by omega, by unfold maxLen at hcm; omega, fun hne => ?_⟩, fun x hx => ?_⟩
  ·have hpos : 0 < len := by
    rcases Nat.eq_zero_or_pos len with h0 | h0
    ·subst h0; simp at hne
    ·exact h0
   obtain ⟨u0, hu0⟩ : ∃ u, (R.c (g 0))[0]? = some u := ⟨_, List.getElem?_eq_getElem (by rw [hR.len]; exact hR.pos)⟩
   have c0 := (hg 0 hpos).2 0 _ hu0
   obtain ⟨b, o, spot⟩ := a
   have hspot : spot = none := by simpa [Addr.add] using World.cell?_spot c0
   subst hspot
   refine ⟨b, o, rfl, ?_, fun i x hxi => ?_⟩
   ·exact block_lt_of_cell (a := ⟨b, o, none⟩) (by have := c0; simpa [Go.WideShapes.add_plain] using this)
   ·have hil : i < len := by
     have := (List.getElem?_eq_some_iff.1 hxi).1
     simpa using this
    have hxe : x = g i := by simp [hil] at hxi; exact hxi.symm
    subst hxe
    intro j u hu
    have h3 := (hg i hil).2 j u hu
    simp only [Go.WideShapes.add_plain] at h3
    exact h3
  ·obtain ⟨i, hi, rfl⟩ := List.mem_map.1 hx
   exact (hg i (by simpa using hi)).1
theorem tx_trodB {lim : Nat} {H : Type} {enc : TypeId × Value → H} {w : World} {base f : Nat} {spare : Nat → Bool} {held : Bool} {cs : List Value} {d : DataW H × List MemPlace} (hl : cs.length = 2)
  (hf : DataW.trod enc Tryd.prog w base spare held f 89 cs = some d) (hlim : Rows.uptoBulk d.1 ≤ lim) : ∃ t, (TxV w w.heap.size t ∧ ∀ i ∈ t.ins, i.key.length ≤ lim) ∧ cs = txL t := by
 obtain ⟨d, p⟩ := d
 have h1 : Tryd.prog.cellsOf 86 = 1 := by kernel_rfl
 have h2 : Tryd.prog.cellsOf 87 = 1 := by kernel_rfl
 obtain ⟨xs, n, _, hxx, _, hxl, hi⟩ := DataW.trod_struct Tryd.underlying89 hf
 have e0 : DataW.trod enc Tryd.prog w base spare held n 86 ((cs.drop 0).take (Tryd.prog.cellsOf 86)) = xs[0]? := hi 0 _ rfl
 rw [h1, List.getElem?_eq_getElem (by rw [hxl]; decide)] at e0
 have e1 : DataW.trod enc Tryd.prog w base spare held n 87 ((cs.drop 1).take (Tryd.prog.cellsOf 87)) = xs[1]? := hi 1 _ rfl
 rw [h2, List.getElem?_eq_getElem (by rw [hxl]; decide)] at e1
 have hb_ : ∀ (i : Nat) (h : i < xs.length), Rows.uptoBulk (xs[i]'h).1 ≤ lim := fun i h => by
  have e1 : Rows.uptoBulk (xs[i]'h).1 ≤ Rows.uptoBulkAll (xs.map (·.1)) := bulks.part_le (List.mem_map_of_mem (List.getElem_mem h))
  have e2 : Rows.uptoBulkAll (xs.map (·.1)) ≤ Rows.uptoBulk (DataW.agg (xs.map (·.1)) : DataW H) := by simp only [Rows.uptoBulk]; omega
  have e3 : d = DataW.agg (xs.map (·.1)) := (Prod.mk.inj hxx).1
  rw [← e3] at e2
  exact Nat.le_trans e1 (Nat.le_trans e2 hlim)
 obtain ⟨s0, L0, c0, a1, a2, a3⟩ := rows_trodB (lim := lim) inR_ok (fun x => InV w w.heap.size x ∧ x.key.length ≤ lim) (by kernel_rfl) (fun n cs d h1 h2 h3 => in_trodB h1 h2 h3) e0 (hb_ 0 (by rw [hxl]; decide))
 obtain ⟨s1, L1, c1, b1, b2, b3⟩ := rows_trod outR_ok OutOk (by kernel_rfl) (fun n cs d h1 h2 => out_trod h1 h2) e1
 refine ⟨⟨s0, c0, L0, s1, c1, L1⟩, ⟨⟨a2, fun x hx => (a3 x hx).1, b2, b3⟩, fun x hx => (a3 x hx).2⟩, ?_⟩
 have hd := List.take_append_drop 1 cs
 rw [List.drop_zero] at a1
 rw [List.take_of_length_le (by rw [List.length_drop, hl]; decide)] at b1
 rw [← hd, a1, b1]
 rfl
theorem txs_trodB {lim : Nat} {H : Type} {enc : TypeId × Value → H} {w : World} {base f : Nat} {spare : Nat → Bool} {held : Bool} {cs : List Value} {d : DataW H × List MemPlace}
  (hf : DataW.trod enc Tryd.prog w base spare held f 54 cs = some d) (hlim : Rows.uptoBulk d.1 ≤ lim) : ∃ s L c, cs = [.slice s L.length c] ∧ RowV txR w w.heap.size (.slice s L.length c) L ∧ ∀ t ∈ L, TxV w w.heap.size t ∧ ∀ i ∈ t.ins, i.key.length ≤ lim :=
 rows_trodB (lim := lim) txR_ok (fun t => TxV w w.heap.size t ∧ ∀ i ∈ t.ins, i.key.length ≤ lim) (by kernel_rfl) (fun n cs d h1 h2 h3 => tx_trodB h1 h2 h3) hf hlim
theorem blkm_trodB {lim : Nat} {H : Type} {enc : TypeId × Value → H} {w : World} {base f : Nat} {spare : Nat → Bool} {held : Bool} {cs : List Value} {d : DataW H × List MemPlace} (hl : cs.length = 69)
  (hf : DataW.trod enc Tryd.prog w base spare held f 56 cs = some d) (hlim : Rows.uptoBulk d.1 ≤ lim) : ∃ b, (BlkV w w.heap.size b ∧ ∀ t ∈ b.txs, ∀ i ∈ t.ins, i.key.length ≤ lim) ∧ cs = blkL b := by
 obtain ⟨d, p⟩ := d
 have h68 : Tryd.prog.cellsOf 53 = 68 := by kernel_rfl
 have h1 : Tryd.prog.cellsOf 54 = 1 := by kernel_rfl
 obtain ⟨xs, n, _, hxx, _, hxl, hi⟩ := DataW.trod_struct Tryd.underlying56 hf
 have e0 : DataW.trod enc Tryd.prog w base spare held n 53 ((cs.drop 0).take (Tryd.prog.cellsOf 53)) = xs[0]? := hi 0 _ rfl
 rw [h68, List.getElem?_eq_getElem (by rw [hxl]; decide)] at e0
 have e1 : DataW.trod enc Tryd.prog w base spare held n 54 ((cs.drop 68).take (Tryd.prog.cellsOf 54)) = xs[1]? := hi 1 _ rfl
 rw [h1, List.getElem?_eq_getElem (by rw [hxl]; decide)] at e1
 obtain ⟨hd, a1, a2⟩ := hd_trod (by rw [List.length_take, List.length_drop, hl]; decide) e0
 have hb_ : ∀ (i : Nat) (h : i < xs.length), Rows.uptoBulk (xs[i]'h).1 ≤ lim := fun i h => by
  have e1 : Rows.uptoBulk (xs[i]'h).1 ≤ Rows.uptoBulkAll (xs.map (·.1)) := bulks.part_le (List.mem_map_of_mem (List.getElem_mem h))
  have e2 : Rows.uptoBulkAll (xs.map (·.1)) ≤ Rows.uptoBulk (DataW.agg (xs.map (·.1)) : DataW H) := by simp only [Rows.uptoBulk]; omega
  have e3 : d = DataW.agg (xs.map (·.1)) := (Prod.mk.inj hxx).1
  rw [← e3] at e2
  exact Nat.le_trans e1 (Nat.le_trans e2 hlim)
 obtain ⟨s, L, c, b1, b2, b3⟩ := txs_trodB (lim := lim) e1 (hb_ 1 (by rw [hxl]; decide))
 refine ⟨⟨hd, s, c, L⟩, ⟨⟨a1, b2, fun t ht => (b3 t ht).1⟩, fun t ht => (b3 t ht).2⟩, ?_⟩
 rw [List.drop_zero] at a2
 rw [List.take_of_length_le (by rw [List.length_drop, hl]; decide)] at b1
 unfold blkL
 rw [← List.take_append_drop 68 cs, a2, b1]
 rfl
theorem msg_trodB {lim : Nat} {H : Type} {enc : TypeId × Value → H} {w : World} {base f : Nat} {spare : Nat → Bool} {held : Bool} {cs : List Value} {d : DataW H × List MemPlace} (hl : cs.length = 106)
  (hf : DataW.trod enc Tryd.prog w base spare held f 58 cs = some d) (hlim : Rows.uptoBulk d.1 ≤ lim) : ∃ m, (MsV w w.heap.size m ∧ ∀ t ∈ m.bk.txs, ∀ i ∈ t.ins, i.key.length ≤ lim) ∧ cs = msL m := by
 obtain ⟨d, p⟩ := d
 have h32 : Tryd.prog.cellsOf 50 = 32 := by kernel_rfl
 have hb69 : Tryd.prog.cellsOf 56 = 69 := by kernel_rfl
 have hu32 : Tryd.prog.cellsOf 30 = 1 := by kernel_rfl
 have hu64 : Tryd.prog.cellsOf 22 = 1 := by kernel_rfl
 have hi1 : Tryd.prog.cellsOf 3 = 1 := by kernel_rfl
 have hs1 : Tryd.prog.cellsOf 48 = 1 := by kernel_rfl
 have hs2 : Tryd.prog.cellsOf 51 = 1 := by kernel_rfl
 obtain ⟨xs, n, _, hxx, _, hxl, hi⟩ := DataW.trod_struct Tryd.underlying58 hf
 have e0 : DataW.trod enc Tryd.prog w base spare held n 3 ((cs.drop 0).take (Tryd.prog.cellsOf 3)) = xs[0]? := hi 0 _ rfl
 rw [hi1, List.getElem?_eq_getElem (by rw [hxl]; decide)] at e0
 have e1 : DataW.trod enc Tryd.prog w base spare held n 22 ((cs.drop 1).take (Tryd.prog.cellsOf 22)) = xs[1]? := hi 1 _ rfl
 rw [hu64, List.getElem?_eq_getElem (by rw [hxl]; decide)] at e1
 have e2 : DataW.trod enc Tryd.prog w base spare held n 30 ((cs.drop 2).take (Tryd.prog.cellsOf 30)) = xs[2]? := hi 2 _ rfl
 rw [hu32, List.getElem?_eq_getElem (by rw [hxl]; decide)] at e2
 have e3 : DataW.trod enc Tryd.prog w base spare held n 48 ((cs.drop 3).take (Tryd.prog.cellsOf 48)) = xs[3]? := hi 3 _ rfl
 rw [hs1, List.getElem?_eq_getElem (by rw [hxl]; decide)] at e3
 have e4 : DataW.trod enc Tryd.prog w base spare held n 50 ((cs.drop 4).take (Tryd.prog.cellsOf 50)) = xs[4]? := hi 4 _ rfl
 rw [h32, List.getElem?_eq_getElem (by rw [hxl]; decide)] at e4
 have e5 : DataW.trod enc Tryd.prog w base spare held n 51 ((cs.drop 36).take (Tryd.prog.cellsOf 51)) = xs[5]? := hi 5 _ rfl
 rw [hs2, List.getElem?_eq_getElem (by rw [hxl]; decide)] at e5
 have e6 : DataW.trod enc Tryd.prog w base spare held n 56 ((cs.drop 37).take (Tryd.prog.cellsOf 56)) = xs[6]? := hi 6 _ rfl
 rw [hb69, List.getElem?_eq_getElem (by rw [hxl]; decide)] at e6
 obtain ⟨a0, b0, c0⟩ := i64_of_trod Tryd.underlying3 (by rw [hl]; decide) e0
 obtain ⟨a1, b1, c1⟩ := u64_of_trod Tryd.underlying22 (by rw [hl]; decide) e1
 obtain ⟨a2, b2, c2⟩ := u32_of_trod Tryd.underlying30 (by rw [hl]; decide) e2
 obtain ⟨s3, L3, n3, c3, b3, _⟩ := ids_trod e3
 obtain ⟨a4, _, c4⟩ := id_trod (by rw [List.length_take, List.length_drop, hl]; decide) e4
 obtain ⟨s5, L5, n5, c5, b5, _⟩ := hds_trod e5
 have hb_ : ∀ (i : Nat) (h : i < xs.length), Rows.uptoBulk (xs[i]'h).1 ≤ lim := fun i h => by
  have e1 : Rows.uptoBulk (xs[i]'h).1 ≤ Rows.uptoBulkAll (xs.map (·.1)) := bulks.part_le (List.mem_map_of_mem (List.getElem_mem h))
  have e2 : Rows.uptoBulkAll (xs.map (·.1)) ≤ Rows.uptoBulk (DataW.agg (xs.map (·.1)) : DataW H) := by simp only [Rows.uptoBulk]; omega
  have e3 : d = DataW.agg (xs.map (·.1)) := (Prod.mk.inj hxx).1
  rw [← e3] at e2
  exact Nat.le_trans e1 (Nat.le_trans e2 hlim)
 obtain ⟨a6, ⟨b6, k6⟩, c6⟩ := blkm_trodB (lim := lim) (by rw [List.length_take, List.length_drop, hl]; decide) e6 (hb_ 6 (by rw [hxl]; decide))
 refine ⟨⟨a0, a1, a2, s3, n3, L3, a4, s5, n5, L5, a6⟩, ⟨⟨⟨b0, b1, b2, b6.1⟩, b3, b5, b6⟩, k6⟩, ?_⟩
 have one : ∀ o v, cs[o]? = some v → cs.drop o = v :: cs.drop (o + 1) := fun o v h => by
  obtain ⟨ho, hv⟩ := List.getElem?_eq_some_iff.1 h
  rw [List.drop_eq_getElem_cons ho, hv]
 have many : ∀ o k X, (cs.drop o).take k = X → cs.drop o = X ++ cs.drop (o + k) := fun o k X h => by
  rw [← h, ← List.drop_drop]
  exact (List.take_append_drop _ _).symm
 have c6' : cs.drop 37 = blkL a6 := by rw [← c6]; exact (List.take_of_length_le (by rw [List.length_drop, hl]; decide)).symm
 rw [← List.drop_zero (l := cs), one 0 _ c0, one 1 _ c1, one 2 _ c2, many 3 1 _ c3, many 4 32 _ c4, many 36 1 _ c5, c6']
 rfl
theorem msgs_trodB {lim : Nat} {H : Type} {enc : TypeId × Value → H} {w : World} {base f : Nat} {spare : Nat → Bool} {held : Bool} {cs : List Value} {d : DataW H × List MemPlace}
  (hf : DataW.trod enc Tryd.prog w base spare held f 27 cs = some d) (hlim : Rows.uptoBulk d.1 ≤ lim) : ∃ s L c, cs = [.slice s L.length c] ∧ RowV msR w w.heap.size (.slice s L.length c) L ∧ ∀ x ∈ L, (MsV w w.heap.size x.1 ∧ ∀ t ∈ x.1.bk.txs, ∀ i ∈ t.ins, i.key.length ≤ lim) :=
 rows_trodB (lim := lim) msR_ok (fun x => (MsV w w.heap.size x.1 ∧ ∀ t ∈ x.1.bk.txs, ∀ i ∈ t.ins, i.key.length ≤ lim)) (by kernel_rfl) (fun n cs d h1 h2 h3 => by
  obtain ⟨m, hm, e⟩ := msg_trodB h1 h2 h3
  exact ⟨⟨m, hm.1.1.2.2.2⟩, hm, e⟩) hf hlim
theorem deed_trodB {lim : Nat} {H : Type} {enc : TypeId × Value → H} {w : World} {base f : Nat} {spare : Nat → Bool} {held : Bool} {cs : List Value} {d : DataW H × List MemPlace} (hl : cs.length = 4)
  (hf : DataW.trod enc Tryd.prog w base spare held f 39 cs = some d) (hlim : Rows.uptoBulk d.1 ≤ lim) : ∃ m, (DeV w w.heap.size m ∧ ∀ x ∈ m.list, ∀ t ∈ x.1.bk.txs, ∀ i ∈ t.ins, i.key.length ≤ lim) ∧ cs = deL m := by
 obtain ⟨d, p⟩ := d
 have hi1 : Tryd.prog.cellsOf 3 = 1 := by kernel_rfl
 have hs1 : Tryd.prog.cellsOf 27 = 1 := by kernel_rfl
 have hs2 : Tryd.prog.cellsOf 32 = 1 := by kernel_rfl
 obtain ⟨xs, n, _, hxx, _, hxl, hi⟩ := DataW.trod_struct Tryd.underlying39 hf
 have e0 : DataW.trod enc Tryd.prog w base spare held n 3 ((cs.drop 0).take (Tryd.prog.cellsOf 3)) = xs[0]? := hi 0 _ rfl
 rw [hi1, List.getElem?_eq_getElem (by rw [hxl]; decide)] at e0
 have e1 : DataW.trod enc Tryd.prog w base spare held n 3 ((cs.drop 1).take (Tryd.prog.cellsOf 3)) = xs[1]? := hi 1 _ rfl
 rw [hi1, List.getElem?_eq_getElem (by rw [hxl]; decide)] at e1
 have e2 : DataW.trod enc Tryd.prog w base spare held n 27 ((cs.drop 2).take (Tryd.prog.cellsOf 27)) = xs[2]? := hi 2 _ rfl
 rw [hs1, List.getElem?_eq_getElem (by rw [hxl]; decide)] at e2
 have e3 : DataW.trod enc Tryd.prog w base spare held n 32 ((cs.drop 3).take (Tryd.prog.cellsOf 32)) = xs[3]? := hi 3 _ rfl
 rw [hs2, List.getElem?_eq_getElem (by rw [hxl]; decide)] at e3
 obtain ⟨a0, b0, c0⟩ := i64_of_trod Tryd.underlying3 (by rw [hl]; decide) e0
 obtain ⟨a1, b1, c1⟩ := i64_of_trod Tryd.underlying3 (by rw [hl]; decide) e1
 have hb_ : ∀ (i : Nat) (h : i < xs.length), Rows.uptoBulk (xs[i]'h).1 ≤ lim := fun i h => by
  have e1 : Rows.uptoBulk (xs[i]'h).1 ≤ Rows.uptoBulkAll (xs.map (·.1)) := bulks.part_le (List.mem_map_of_mem (List.getElem_mem h))
  have e2 : Rows.uptoBulkAll (xs.map (·.1)) ≤ Rows.uptoBulk (DataW.agg (xs.map (·.1)) : DataW H) := by simp only [Rows.uptoBulk]; omega
  have e3 : d = DataW.agg (xs.map (·.1)) := (Prod.mk.inj hxx).1
  rw [← e3] at e2
  exact Nat.le_trans e1 (Nat.le_trans e2 hlim)
 obtain ⟨s2, L2, n2, c2, b2, g2⟩ := msgs_trodB (lim := lim) e2 (hb_ 2 (by rw [hxl]; decide))
 obtain ⟨v3, ys, c3, b3⟩ := bytes_trodX e3
 obtain ⟨s3, n3, hv3, h3⟩ : ∃ s c, v3 = .slice s ys.length c ∧ True := by
  obtain ⟨s, c, e, _⟩ := b3
  exact ⟨s, c, e, trivial⟩
 subst hv3
 refine ⟨⟨a0, a1, s2, n2, L2, s3, n3, ys⟩, ⟨⟨b0, b1, b2, fun x hx => (g2 x hx).1, b3⟩, fun x hx => (g2 x hx).2⟩, ?_⟩
 have one : ∀ o v, cs[o]? = some v → cs.drop o = v :: cs.drop (o + 1) := fun o v h => by
  obtain ⟨ho, hv⟩ := List.getElem?_eq_some_iff.1 h
  rw [List.drop_eq_getElem_cons ho, hv]
 have many : ∀ o k X, (cs.drop o).take k = X → cs.drop o = X ++ cs.drop (o + k) := fun o k X h => by
  rw [← h, ← List.drop_drop]
  exact (List.take_append_drop _ _).symm
 rw [← List.drop_zero (l := cs), one 0 _ c0, one 1 _ c1, many 2 1 _ c2, many 3 1 _ c3, show cs.drop (3 + 1) = [] from List.drop_of_length_le (by rw [hl]; decide)]
 rfl
theorem deeds_argB {lim : Nat} {H : Type} {enc : TypeId × Value → H} {w : World} {base b0 : Nat} {spare : Nat → Bool} {held : Bool} {r : Reach} {v : Value} {d : DataW H} {p : List MemPlace}
  (hv : Value.okWide Tryd.prog w r b0 23 v) (h : DataW.Trod enc Tryd.prog w base spare held 23 v d p) (hlim : Rows.uptoBulk d ≤ lim) : ∃ L : List DeM, RowV deR w w.heap.size v L ∧ ∀ m ∈ L, DeV w w.heap.size m ∧ ∀ x ∈ m.list, ∀ t ∈ x.1.bk.txs, ∀ i ∈ t.ins, i.key.length ≤ lim := by
 obtain ⟨s0, len, cap, rfl⟩ := okWide_slice Tryd.underlying23 hv
 obtain ⟨fuel, hf⟩ := h
 obtain ⟨s, L, c, h1, h2, h3⟩ := rows_trodB (lim := lim) deR_ok (fun m => DeV w w.heap.size m ∧ ∀ x ∈ m.list, ∀ t ∈ x.1.bk.txs, ∀ i ∈ t.ins, i.key.length ≤ lim) (by kernel_rfl) (fun n cs d h1 h2 h3 => deed_trodB h1 h2 h3) hf hlim
 simp [Value.cells] at h1
 obtain ⟨rfl, rfl, rfl⟩ := h1
 exact ⟨L, h2, h3⟩
end Go.Proofs.YtkpffjcdalclmaaDoor
