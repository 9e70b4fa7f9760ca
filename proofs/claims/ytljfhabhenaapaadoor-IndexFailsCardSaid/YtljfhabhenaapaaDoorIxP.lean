/-
  The contract of the tree's put.
-/
import Derived.Test.YtljfhabhenaapaaDoorIxS
namespace Go.Proofs.YtljfhabhenaapaaDoor
open Go.RowKit
set_option linter.unusedVariables false
set_option linter.unusedSimpArgs false
set_option maxRecDepth 100000
theorem map_apart {w : World} {m n : Nat} {f : I32 → Option Int} {t : TypeId} {cs : Array Value} (h : MapG akE w m n f) (K : Bk w m t cs) : False := by
  obtain ⟨D, ⟨es, clock, h1, _⟩, _⟩ := h
  unfold Bk at K
  rw [K] at h1
  cases h1
theorem fnd_put {L : List Nd} {x : Nd} (hn : findI L (hID x.h) = none) (y : I32) (hy : y.1 = hID x.h) : upd (fnd L) y (some (L.length : Int)) = fnd (L ++ [x]) := by
  funext z
  unfold upd fnd
  rw [findI_app hn]
  by_cases e : z = y
  · subst e
    rw [if_pos rfl, if_pos hy]
    rfl
  · rw [if_neg e, if_neg (fun h => e (Subtype.ext (h.trans hy.symm)))]
def nameI (h : Hd) : I32 := ⟨hID h, hID_length h, hID_lt h⟩
theorem set74 {r : Ru} (hr : IsRu r) (v v7 : Value) (m : Nat) : ((ruL r ++ [v, .map (some m)]).toArray).setIfInBounds 74 v7 = (ruL r ++ [v7, .map (some m)]).toArray := by
  rw [List.setIfInBounds_toArray, List.set_append_right _ _ (by rw [ruL_len hr]; decide), ruL_len hr]
  rfl
theorem cell_at {w : World} {p : Nat} {r : Ru} {v : Value} {m : Nat} (hr : IsRu r) (K : Bk w p 76 (ruL r ++ [v, .map (some m)]).toArray) : w.cell? ⟨p, 74, none⟩ = some v ∧ w.cell? ⟨p, 75, none⟩ = some (.map (some m)) := by
  constructor
  · rw [K.cell, List.getElem?_toArray, List.getElem?_append_right (by rw [ruL_len hr]; decide), ruL_len hr]; rfl
  · rw [K.cell, List.getElem?_toArray, List.getElem?_append_right (by rw [ruL_len hr]; decide), ruL_len hr]; rfl
theorem id_range {w : World} {b : Nat} {x : Nd} (hx : IsHd x.h) (K : Bk w b 45 (ndL x).toArray) : w.rangeAt b 68 (idL (nameI x.h)) := fun j u hu => by
  rw [K.cell, List.getElem?_toArray]
  have hj : j < 32 := by have := (List.getElem?_eq_some_iff.1 hu).1; rw [idL_len] at this; exact this
  rw [ndL_id hx j hj]
  exact hu
/-- What a put leaves. -/
structure PutV (w w' : World) (p lo : Nat) (r : Ru) (L : List Nd) (v : Value) (m : Nat) (v' : Value) : Prop where
  blk : Bk w' p 76 (ruL r ++ [v', .map (some m)]).toArray
  row : MineR ndR w' lo v' (L.map ndC)
  mp : MapG akE w' m L.length (fnd L)
  but : But (F0 p v m) w w'
  new : ∀ k, slb v' k → slb v k ∨ w.heap.size ≤ k
set_option maxHeartbeats 8000000 in
theorem put_raw {w : World} {p lo m : Nat} {r : Ru} {L : List Nd} {v : Value} (hr : IsRu r) (blk : Bk w p 76 (ruL r ++ [v, .map (some m)]).toArray) (row : MineR ndR w lo v (L.map ndC)) (mp : MapG akE w m L.length (fnd L)) (lp : lo ≤ p)
    (x : Nd) (hx : IsHd x.h) (hn : findI L (hID x.h) = none) (hl : L.length ≤ 20000) :
    Calls Tryd.prog 28 #[pv p, nodeV x] w fun e w' => e = .returned (.int .i64 (L.length : Int)) ∧ ∃ v', PutV w w' p lo r (L ++ [x]) v m v' := by
  have hlo : lo ≤ w.heap.size := Nat.le_trans lp (Nat.le_of_lt blk.lt)
  have hpm : ¬ p = m := fun e => map_apart (by rw [← e] at mp; exact mp) blk
  have hnp : ¬ slb v p := row.apart blk (by decide)
  have hnm : ¬ slb v m := fun hk => by obtain ⟨_, _, ys, K⟩ := row.slb_lo hk; exact map_apart mp K
  obtain ⟨s0, c0, hv⟩ := row.slice
  rw [List.length_map] at hv
  have hnx := ndC_val hx
  have hsz : (ndL x).length = 108 := ndL_len hx
  obtain ⟨w1, hw1⟩ : ∃ w1, w1 = w.alloc (.cells (ndL x).toArray 45) := ⟨_, rfl⟩
  have hb1 : Below w.heap.size w w1 := by rw [hw1]; exact (Below.refl _ _).alloc (Nat.le_refl _) _
  have hbu1 : But (F0 p v m) w w1 := But.of hb1
  have K3 : Bk w1 w.heap.size 45 (ndL x).toArray := by rw [hw1]; exact Bk.new _ _ _
  have blk1 := blk.keep hb1
  have row1 := row.keep hb1
  have mp1 := mp.keep hb1
  have hs1 : ∀ k, slb v k → k < w.heap.size := fun k hk => (row.slb_lo hk).2.1
  have zp0 := blk.lt
  have zp : p < w1.heap.size := Nat.lt_of_lt_of_le blk.lt hb1.size
  have z3 := K3.lt
  have hn3 : ¬ (slb v w.heap.size ∨ w.heap.size = p) := fun h => h.elim (fun h => absurd (hs1 _ h) (Nat.lt_irrefl _)) (fun h => by omega)
  have h3m : ¬ w.heap.size = m := fun h => absurd mp.lt (by omega)
  have hc := cell_at hr blk1
  have hf := blk1.frozen 74
  have hrg : w1.rangeAt w.heap.size 0 (ndC x).1 := by rw [hnx]; exact fun j u hu => by rw [Nat.zero_add, K3.cell, List.getElem?_toArray]; exact hu
  have HALL : Hid (∀ (v7 : Value) (ww : World), But (slb v) w1 ww → MineR ndR ww lo v7 (L.map ndC ++ [ndC x]) → (∀ k, slb v7 k → slb v k ∨ w1.heap.size ≤ k) →
      Bk (ww.setCell ⟨p, 74, none⟩ v7) p 76 (ruL r ++ [v7, .map (some m)]).toArray ∧ MineR ndR (ww.setCell ⟨p, 74, none⟩ v7) lo v7 ((L ++ [x]).map ndC) ∧ MapG akE (ww.setCell ⟨p, 74, none⟩ v7) m L.length (fnd L) ∧ But (F0 p v m) w (ww.setCell ⟨p, 74, none⟩ v7) ∧ (∀ k, slb v7 k → slb v k ∨ w.heap.size ≤ k) ∧ (ww.setCell ⟨p, 74, none⟩ v7).rangeAt w.heap.size 68 (idL (nameI x.h)) ∧ w.heap.size < (ww.setCell ⟨p, 74, none⟩ v7).heap.size ∧ ¬ slb v7 m) := by
    show ∀ _, _
    intro v7 ww hb hm7 hs7
    have hbs : But (fun k => k = p) ww (ww.setCell ⟨p, 74, none⟩ v7) := But.set_ (S := fun k => k = p) (But.refl _ _) (g := p) (.inl rfl) 74 none v7
    have B1 := hb.keep blk1 hnp
    have M1 := mp1.but hb hnm
    have hnp7 : ¬ slb v7 p := hm7.apart B1 (by decide)
    have hnm7 : ¬ slb v7 m := fun hk => by obtain ⟨_, _, ys, K⟩ := hm7.slb_lo hk; exact map_apart M1 K
    have h3p : ¬ w.heap.size = p := fun h => by omega
    have hn3' : ¬ slb v w.heap.size := fun h => hn3 (.inl h)
    refine ⟨?_, ?_, M1.but hbs (fun e => hpm e.symm), ?_, fun k hk => (hs7 k hk).imp id (fun h => Nat.le_trans hb1.size h), ?_, ?_, hnm7⟩
    · have := B1.set_ 74 v7
      rw [set74 hr] at this
      exact this
    · rw [List.map_append]
      exact hm7.but_ hbs (fun k hk e => hnp7 (e ▸ hk))
    · exact (hbu1.trans (hb.mono (fun k hk h => Or.inr (Or.inl h) : ∀ k, k < w1.heap.size → slb v k → F0 p v m k)) (fun _ _ h => h)).trans (hbs.mono (fun k _ h => (Or.inl h : F0 p v m k))) (fun _ _ h => h)
    · have hrg3 := id_range hx ((hbs.trans (S' := fun k => k = p) (But.refl _ _) (fun _ _ h => h)).keep (hb.keep K3 hn3') h3p)
      exact hrg3
    · exact Nat.lt_of_lt_of_le z3 (Nat.le_trans hb.size hbs.size)
  have HPUT : Hid (∀ W : World, MapG akE W m L.length (fnd L) → ∃ w', (Instr.mapUpdate 73 (.map (some m)) (.agg (idL (nameI x.h)).toArray) (.int .i64 (L.length : Int))).run Tryd.prog W.drew = .ok () w' ∧ MapG akE w' m (L ++ [x]).length (fnd (L ++ [x])) ∧ But (fun k => k = m) W.drew w') := by
    show ∀ _, _
    intro W hW
    obtain ⟨w', h1, h2, h3⟩ := (hW.keep (Below.refl _ _).drew).put akE_ok (x := nameI x.h) trivial (L.length : Int) (by unfold maxLen; omega)
    refine ⟨w', h1, ?_, h3⟩
    have hz : fnd L (nameI x.h) = none := by unfold fnd; rw [show (nameI x.h).1 = hID x.h from rfl, hn]; rfl
    rw [hz, fnd_put hn _ rfl] at h2
    rw [List.length_append]
    exact h2
  have HLT : Hid ((L.map ndC).length + [ndC x].length ≤ 1500000) := by show _ ≤ _; simp; omega
  have HM := Lib.hid row1
  have HC := Lib.hid hc.1
  have HF := Lib.hid hf
  have HRG := Lib.hid hrg
  have HX := Lib.hid hx
  have HLO := Lib.hid (Nat.le_trans hlo hb1.size)
  unfold pv nodeV
  obtain ⟨k3, hk3⟩ : ∃ k3, k3 = w.heap.size := ⟨_, rfl⟩
  obtain ⟨n, hnn⟩ : ∃ n, n = L.length := ⟨_, rfl⟩
  have c74 : w1.cell? ⟨p, 74, none⟩ = some (.slice s0 n c0) := by rw [hc.1, hv, hnn]
  have HN := Lib.hid hnn
  have HK3 := Lib.hid hk3
  clear K3 blk1 row1 mp1 hs1 blk row mp hc hf hrg hnx hbu1 hb1 hn hl lp hlo zp0
  go_enter Tryd.func28, Tryd.ntmps28
  go_upto_region 1 with fail
  rw [← hw1, ← hk3]
  have z3' : k3 < w1.heap.size := by rw [hk3]; exact z3
  have hn3' : ¬ (slb v k3 ∨ k3 = p) := by rw [hk3]; exact hn3
  have h3m' : ¬ k3 = m := by rw [hk3]; exact h3m
  have HRG' : Hid (w1.rangeAt k3 0 (ndC x).1) := by rw [hk3]; exact HRG.out
  clear hw1 hk3 z3 hn3 h3m HRG hnn
  go_upto_region 2 with fail
  clear c74
  refine put2 p k3 lo v x (L.map ndC) w1 _ _ _ _ _ _ _ _ _ _ _ _ _ _ _ _ _ _ _ _ _ _ _ _ _ _ _ _ zp z3' hnp hn3' HLO.out HC HF HX.out HRG'.out HM HLT.out (Lib.hid (fun x11 x12 x13 x14 x15 x16 x17 x18 x19 x20 v7 w2 hE => ?_))
  obtain ⟨ww, rfl, hb7, hm7, hs7⟩ := hE
  obtain ⟨g1, g2, g3, g4, g5, g6, g7, g8⟩ := HALL.out v7 ww hb7 hm7 hs7
  generalize ww.setCell ⟨p, 74, none⟩ v7 = w2 at *
  clear hb7 hm7 hs7
  have HG1 := Lib.hid g1
  have HG2 := Lib.hid g2
  have HG4 := Lib.hid g4
  have HG5 := Lib.hid g5
  have HG8 := Lib.hid g8
  have zp2 := g1.lt
  have hc2 := Lib.hid (cell_at hr g1).2
  have z32 : k3 < w2.heap.size := by rw [HK3.out]; exact g7
  have hrg2 : w2.rangeAt k3 68 (idL (nameI x.h)) := by rw [HK3.out]; exact g6
  have HUP := Lib.hid (HPUT.out w2 g3)
  clear g1 g2 g3 g4 g5 g6 g7 g8 HALL HPUT
  go_upto_region 3 with fail
  refine put3 p k3 m (n : Int) (nameI x.h) (fun w' => MapG akE w' m (L ++ [x]).length (fnd (L ++ [x]))) w2 _ _ _ _ _ _ _ _ _ _ _ _ _ _ _ _ _ _ _ _ _ _ _ _ _ _ _ zp2 z32 hpm h3m' hc2 hrg2 (by rw [HN.out]; exact HUP) (Lib.hid (fun x21 x22 x23 x24 x25 x26 x27 w3 hb3 hG => ?_))
  have HEND : Hid (PutV w w3 p lo r (L ++ [x]) v m v7) := ⟨hb3.keep HG1.out hpm, HG2.out.but_ hb3 (fun k hk e => HG8.out (e ▸ hk)), hG, HG4.out.trans (hb3.mono (fun k _ h => (Or.inr (Or.inr h) : F0 p v m k))) (fun _ _ h => h), HG5.out⟩
  clear hb3 hG HUP hrg2 hc2 HG1 HG2 HG4 HG5 HG8
  go_wp2_with fail
  go_ret
  exact ⟨by rw [← HN.out]; rfl, v7, HEND.out⟩
end Go.Proofs.YtljfhabhenaapaaDoor
