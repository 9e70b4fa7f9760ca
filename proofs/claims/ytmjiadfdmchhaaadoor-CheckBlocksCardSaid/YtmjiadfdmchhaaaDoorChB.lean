/-
  Package check: the laws' head.
-/
import Derived.Test.YtmjiadfdmchhaaaDoorChA
namespace Go.Proofs.YtmjiadfdmchhaaaDoor
open Go.RowKit
set_option linter.unusedVariables false
set_option linter.unusedSimpArgs false
set_option maxRecDepth 100000

def t0 (a : Int) : TxM := ⟨none, 0, [in1], none, 0, [out1 a]⟩
theorem txE_like {f : Bool} {t u : TxM} (h1 : t.ins = u.ins) (h2 : t.outs = u.outs) : txE f t = txE f u := by unfold txE; rw [h1, h2]
theorem txB_like {t u : TxM} (h1 : t.ins = u.ins) (h2 : t.outs = u.outs) : txB t = txB u := by unfold txB; rw [h1, h2]
theorem tID_like {t u : TxM} (h1 : t.ins = u.ins) (h2 : t.outs = u.outs) : tID t = tID u := by unfold tID; rw [txB_like h1 h2]
theorem e1 : txE true (t0 5) = 0 := by decide +kernel
theorem e2 : txE false (t0 5) = 120 := by decide +kernel
theorem rootV_one (x : List Nat) : rootV [x] = (x, false) := by
  unfold rootV
  rw [if_neg (by simp), rootW_one _ _ (by simp)]
  rfl
theorem e3 : (txB (t0 5)).length ≠ 64 := by decide +kernel
theorem e4 : tID (t0 5) ≠ zeros 32 := by decide +kernel
theorem rootE_one (r : List Nat) (t : TxM) (h : (txB t).length ≠ 64) : rootE r [t] = if tID t = r then 0 else 40 := by
  unfold rootE
  rw [if_neg (by rintro ⟨x, hx, hl⟩; rw [List.mem_singleton.1 hx] at hl; exact h hl), List.map_cons, List.map_nil, rootV_one, if_neg (by simp)]
theorem blkE_one (hd : Hd) (s : Option Addr) (c : Nat) (t : TxM) (h1 : txE true t = 0) (hh : IsHd hd) (h2 : (txB t).length ≠ 64) (h3 : (txB t).length ≤ 8000) : blkE ⟨hd, s, c, [t]⟩ = if tID t = hd.r then 0 else 40 := by
  unfold blkE
  rw [if_neg (by show ¬ ¬ (0 < 1 ∧ 1 ≤ 32); decide)]
  have ht : txsE true [t] = 0 := by
    unfold txsE
    rw [h1]
    rfl
  rw [if_neg (by show ¬ txsE true [t] ≠ 0; rw [ht]; decide), if_neg (by
    show ¬ 8192 < (hB hd ++ (countL 1 ++ txsB [t])).length
    rw [txsB_one, List.length_append, List.length_append, hB_length hh]
    have := countL_len 1
    omega)]
  exact rootE_one _ t h2
theorem ovr_midL (A Y B X : List Value) (hl : X.length = Y.length) : ovr (A ++ (Y ++ B)).toArray A.length X = (A ++ (X ++ B)).toArray := by
  apply Array.ext_getElem?
  intro q
  rw [ovr_get, List.getElem?_toArray, List.getElem?_toArray, List.size_toArray, List.length_append, List.length_append]
  by_cases q1 : q < A.length
  · rw [if_neg (by omega), List.getElem?_append_left q1, List.getElem?_append_left q1]
  · by_cases q2 : q < A.length + X.length
    · rw [if_pos (by omega), List.getElem?_append_right (by omega), List.getElem?_append_left (by omega)]
    · rw [if_neg (by omega), List.getElem?_append_right (by omega), List.getElem?_append_right (by omega), List.getElem?_append_right (by omega), List.getElem?_append_right (by omega), hl]
def withR (h : Hd) (r : List Nat) : Hd := ⟨h.v, h.p, r, h.t, h.b, h.n⟩
theorem withR_is {h : Hd} (hh : IsHd h) {r : List Nat} (hr : IsId r) : IsHd (withR h r) := by
  obtain ⟨a, b, c, d, e, f, g, i⟩ := hh
  constructor <;> first | assumption | exact hr.1 | exact hr.2
theorem set_root {w : World} {g : Nat} {b : BlkM} (hh : IsHd b.hd) {r : List Nat} (hr : IsId r) (K : Bk w g 40 (blkL b).toArray) :
    Bk (w.setCells g 33 (r.map byteV)) g 40 (blkL ⟨withR b.hd r, b.ls, b.lc, b.txs⟩).toArray := by
  have e := Bk.ovr_ (w := w) (r.map byteV) 33 w _ K
  have h1 : blkL b = (u32V b.hd.v :: b.hd.p.map byteV) ++ (b.hd.r.map byteV ++ ([u32V b.hd.t, u32V b.hd.b, u32V b.hd.n] ++ [b.lv])) := by
    unfold blkL hdL
    simp
  have h2 : blkL ⟨withR b.hd r, b.ls, b.lc, b.txs⟩ = (u32V b.hd.v :: b.hd.p.map byteV) ++ (r.map byteV ++ ([u32V b.hd.t, u32V b.hd.b, u32V b.hd.n] ++ [b.lv])) := by
    unfold blkL hdL withR BlkM.lv
    simp
  have hl : (u32V b.hd.v :: b.hd.p.map byteV).length = 33 := by rw [List.length_cons, List.length_map, hh.pl]
  have hm := ovr_midL (u32V b.hd.v :: b.hd.p.map byteV) (b.hd.r.map byteV) ([u32V b.hd.t, u32V b.hd.b, u32V b.hd.n] ++ [b.lv]) (r.map byteV) (by rw [List.length_map, List.length_map, hr.1, hh.rl])
  rw [hl, ← h1, ← h2] at hm
  rw [hm] at e
  exact e
end Go.Proofs.YtmjiadfdmchhaaaDoor
