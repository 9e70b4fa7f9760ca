/-
  The contract of package hash's mix.
-/
import Derived.Test.YtkkkfcdoilojmaaDoorHashB
import Derived.Deep.RegionHeld3
import Derived.Deep.DeepCutAuto
import Derived.Deep.DrawnRows
namespace Go.Proofs.YtkkkfcdoilojmaaDoor
open Go.RowKit
set_option linter.unusedVariables false

theorem range_below {B : Nat} {w w' : World} (hb : Below B w w') {b o : Nat} {cs : List Value} (h : w.rangeAt b o cs) (hB : b < B) : w'.rangeAt b o cs := fun j v hv => (hb.cell (p := ⟨b, o + j, none⟩) hB).trans (h j v hv)
theorem cell_below {B : Nat} {w w' : World} (hb : Below B w w') {b o : Nat} {v : Value} (h : w.cell? ⟨b, o, none⟩ = some v) (hB : b < B) : w'.cell? ⟨b, o, none⟩ = some v := (hb.cell (p := ⟨b, o, none⟩) hB).trans h

theorem dw_range (l blk : List Nat) (u n : Nat) (hl : l.length = 8) {w : World} {D : Nat} {t : TypeId} (h : Bk w D t (dw l blk u n)) : w.rangeAt D 8 (idA blk).toList := fun j v hv => by
  have hj : j < blk.length := by
    have := (List.getElem?_eq_some_iff.1 hv).1
    simpa [idA] using this
  rw [h.cell, dw_blk _ _ _ _ _ hl hj]
  rw [Array.getElem?_toList, idA_get _ _ hj] at hv
  exact hv

abbrev L8 (s : S8) : Array Value := #[.int .u32 (s.a : Int), .int .u32 (s.b : Int), .int .u32 (s.c : Int), .int .u32 (s.d : Int), .int .u32 (s.e : Int), .int .u32 (s.f : Int), .int .u32 (s.g : Int), .int .u32 (s.h : Int)]
theorem L8_eq (s : S8) : L8 s = wA s.toL := rfl

/-- All that a walk asks of a block of eight cells. -/
theorem Bk.f8 {w : World} {g : Nat} {t : TypeId} {a b c d e f p q : Value} (h : Bk w g t #[a, b, c, d, e, f, p, q]) :
    (w.cell? ⟨g, 0, none⟩ = some a ∧ w.cell? ⟨g, 1, none⟩ = some b ∧ w.cell? ⟨g, 2, none⟩ = some c ∧ w.cell? ⟨g, 3, none⟩ = some d ∧ w.cell? ⟨g, 4, none⟩ = some e ∧ w.cell? ⟨g, 5, none⟩ = some f ∧ w.cell? ⟨g, 6, none⟩ = some p ∧ w.cell? ⟨g, 7, none⟩ = some q) ∧
    (w.frozen? ⟨g, 0, none⟩ = false ∧ w.frozen? ⟨g, 1, none⟩ = false ∧ w.frozen? ⟨g, 2, none⟩ = false ∧ w.frozen? ⟨g, 3, none⟩ = false ∧ w.frozen? ⟨g, 4, none⟩ = false ∧ w.frozen? ⟨g, 5, none⟩ = false ∧ w.frozen? ⟨g, 6, none⟩ = false ∧ w.frozen? ⟨g, 7, none⟩ = false) ∧ g < w.heap.size :=
  ⟨by refine ⟨?_, ?_, ?_, ?_, ?_, ?_, ?_, ?_⟩ <;> (rw [h.cell]; rfl), ⟨h.frozen 0, h.frozen 1, h.frozen 2, h.frozen 3, h.frozen 4, h.frozen 5, h.frozen 6, h.frozen 7⟩, h.lt⟩
theorem Bk.set8 {w : World} {g : Nat} {t : TypeId} {a b c d e f p q : Value} (h : Bk w g t #[a, b, c, d, e, f, p, q]) (x0 x1 x2 x3 x4 x5 x6 x7 : Value) :
    Bk ((((((((w.setCell ⟨g, 0, none⟩ x0).setCell ⟨g, 1, none⟩ x1).setCell ⟨g, 2, none⟩ x2).setCell ⟨g, 3, none⟩ x3).setCell ⟨g, 4, none⟩ x4).setCell ⟨g, 5, none⟩ x5).setCell ⟨g, 6, none⟩ x6).setCell ⟨g, 7, none⟩ x7) g t #[x0, x1, x2, x3, x4, x5, x6, x7] :=
  by
  have := (((((((h.set_ 0 x0).set_ 1 x1).set_ 2 x2).set_ 3 x3).set_ 4 x4).set_ 5 x5).set_ 6 x6).set_ 7 x7
  simpa only [List.setIfInBounds_toArray, List.set_cons_zero, List.set_cons_succ] using this

theorem Below.set8 {B : Nat} {a w : World} (h : Below B a w) {g : Nat} (hg : B ≤ g) (x0 x1 x2 x3 x4 x5 x6 x7 : Value) :
    Below B a ((((((((w.setCell ⟨g, 0, none⟩ x0).setCell ⟨g, 1, none⟩ x1).setCell ⟨g, 2, none⟩ x2).setCell ⟨g, 3, none⟩ x3).setCell ⟨g, 4, none⟩ x4).setCell ⟨g, 5, none⟩ x5).setCell ⟨g, 6, none⟩ x6).setCell ⟨g, 7, none⟩ x7) :=
  (((((((h.setCell hg x0).setCell hg x1).setCell hg x2).setCell hg x3).setCell hg x4).setCell hg x5).setCell hg x6).setCell hg x7
theorem new_below {w w' : World} {cs : Array Value} {t : TypeId} (h : Below (w.alloc (.cells cs t)).heap.size (w.alloc (.cells cs t)) w') : Bk w' w.heap.size t cs := Bk.keep (Bk.new _ _ _) h
theorem new_below_drew {w w' : World} {cs : Array Value} {t : TypeId} (h : Below (w.alloc (.cells cs t)).drew.heap.size (w.alloc (.cells cs t)).drew w') : Bk w' w.heap.size t cs := Bk.keep (Bk.drew (Bk.new w t cs)) h

abbrev Z64 : Array Value := #[.int .u8 0, .int .u8 0, .int .u8 0, .int .u8 0, .int .u8 0, .int .u8 0, .int .u8 0, .int .u8 0, .int .u8 0, .int .u8 0, .int .u8 0, .int .u8 0, .int .u8 0, .int .u8 0, .int .u8 0, .int .u8 0, .int .u8 0, .int .u8 0, .int .u8 0, .int .u8 0, .int .u8 0, .int .u8 0, .int .u8 0, .int .u8 0, .int .u8 0, .int .u8 0, .int .u8 0, .int .u8 0, .int .u8 0, .int .u8 0, .int .u8 0, .int .u8 0, .int .u8 0, .int .u8 0, .int .u8 0, .int .u8 0, .int .u8 0, .int .u8 0, .int .u8 0, .int .u8 0, .int .u8 0, .int .u8 0, .int .u8 0, .int .u8 0, .int .u8 0, .int .u8 0, .int .u8 0, .int .u8 0, .int .u8 0, .int .u8 0, .int .u8 0, .int .u8 0, .int .u8 0, .int .u8 0, .int .u8 0, .int .u8 0, .int .u8 0, .int .u8 0, .int .u8 0, .int .u8 0, .int .u8 0, .int .u8 0, .int .u8 0, .int .u8 0]
theorem Z64_eq : Z64 = idA (zeros 64) := by kernel_rfl
theorem Z64_one : Z64.all (·.oneCell') = true := by kernel_rfl
theorem Z64_size : Z64.size = 64 := by kernel_rfl
theorem dw_zero {w : World} {D : Nat} {t : TypeId} {l blk : List Nat} {u n : Nat} (Z : Array Value) (hZ : Z = idA (zeros 64)) (h : Bk w D t (dw l blk u n)) (hl : l.length = 8) (hb : blk.length = 64) : Bk (w.setCells D 8 Z.toList) D t (dw l (zeros 64) u n) := by
  have e := Bk.ovr_ (w := w) Z.toList 8 w _ h
  have e2 : ovr (dw l blk u n) 8 Z.toList = dw l (zeros 64) u n := by
    apply Array.ext_getElem?
    intro i
    have hz : (zeros 64).length = 64 := zeros_length 64
    rw [ovr_get, hZ, dw_size _ _ _ _ hl hb]
    have hlen : (idA (zeros 64)).toList.length = 64 := by rw [Array.length_toList, idA_size, hz]
    rw [hlen]
    by_cases h1 : 8 ≤ i ∧ i < 8 + 64 ∧ i < 74
    · obtain ⟨j, rfl⟩ : ∃ j, i = 8 + j := ⟨i - 8, by omega⟩
      rw [if_pos h1, dw_blk _ _ _ _ _ hl (by omega), show 8 + j - 8 = j from by omega, Array.getElem?_toList, idA_get _ _ (by omega)]
      rfl
    · rw [if_neg h1]
      by_cases h2 : i < 8
      · rw [dw_word _ _ _ _ _ (by omega), dw_word _ _ _ _ _ (by omega)]
      · by_cases h3 : i = 72
        · subst h3; rw [dw_used _ _ _ _ hl hb, dw_used _ _ _ _ hl hz]
        · by_cases h4 : i = 73
          · subst h4; rw [dw_bytes _ _ _ _ hl hb, dw_bytes _ _ _ _ hl hz]
          · rw [Array.getElem?_eq_none (by rw [dw_size _ _ _ _ hl hb]; omega), Array.getElem?_eq_none (by rw [dw_size _ _ _ _ hl hz]; omega)]
  rwa [e2] at e

set_option maxRecDepth 100000 in
set_option maxHeartbeats 1000000 in
theorem mix_any (s : S8) (blk : List Nat) (u n D : Nat) (w : World) (hs : s.ok) (hl : blk.length = 64) (hb : ∀ x ∈ blk, x < 256) (hD : Bk w D 72 (dw s.toL blk u n)) (hL : Laid w) :
    Calls Tryd.prog 50 #[.pointer (some ⟨D, 0, none⟩)] w fun e w' => e = .returned (.tuple #[]) ∧ Bk w' D 72 (dw (comp s blk).toL (zeros 64) 0 n) ∧ Only D w w' := by
  have hDl := hD.lt
  have HSC : Hid (∀ W, Calls Tryd.prog 58 #[.agg (idA blk)] W fun e w' => e = .returned (.agg (wA (sched blk 48))) ∧ Below W.heap.size W w') := fun W => schedule_any blk W hl hb
  have HTU : Hid (∀ W, Laid W → Calls Tryd.prog 57 #[.agg (L8 s), .agg (wA (sched blk 48))] W fun e w' => e = .returned (.agg (L8 (rnds (sched blk 48) s 64))) ∧ Below W.heap.size W w') := fun W h => turn_any s (sched blk 48) W hs (by rw [sched_length]) (sched_lt blk hb 48) h
  have HP : Hid (comp s blk = plus8 s (rnds (sched blk 48) s 64)) := rfl
  generalize rnds (sched blk 48) s 64 = T at *
  generalize sched blk 48 = sc at *
  have HLL := Lib.hid hl
  have hu := Tryd.underlying70
  have hi : (Tryd.prog.info? 70).map (·.size) = some (idA blk).toList.length := by rw [Array.length_toList, idA_size, hl]; exact bytes64_info
  have h1 : ∀ v ∈ (idA blk).toList, v.oneCell' = true := by intro v hv; simp only [idA, List.mem_map] at hv; obtain ⟨x, _, rfl⟩ := hv; rfl
  have hn : (idA blk).toList.length = 64 := by rw [Array.length_toList, idA_size, hl]
  have hr := dw_range s.toL blk u n rfl hD
  have c0 : w.cell? ⟨D, 0, none⟩ = some (.int .u32 (s.a : Int)) := (hD.cell 0).trans (dw_word s.toL blk u n 0 (by rw [S8.toL_length]; omega))
  have c1 : w.cell? ⟨D, 1, none⟩ = some (.int .u32 (s.b : Int)) := (hD.cell 1).trans (dw_word s.toL blk u n 1 (by rw [S8.toL_length]; omega))
  have c2 : w.cell? ⟨D, 2, none⟩ = some (.int .u32 (s.c : Int)) := (hD.cell 2).trans (dw_word s.toL blk u n 2 (by rw [S8.toL_length]; omega))
  have c3 : w.cell? ⟨D, 3, none⟩ = some (.int .u32 (s.d : Int)) := (hD.cell 3).trans (dw_word s.toL blk u n 3 (by rw [S8.toL_length]; omega))
  have c4 : w.cell? ⟨D, 4, none⟩ = some (.int .u32 (s.e : Int)) := (hD.cell 4).trans (dw_word s.toL blk u n 4 (by rw [S8.toL_length]; omega))
  have c5 : w.cell? ⟨D, 5, none⟩ = some (.int .u32 (s.f : Int)) := (hD.cell 5).trans (dw_word s.toL blk u n 5 (by rw [S8.toL_length]; omega))
  have c6 : w.cell? ⟨D, 6, none⟩ = some (.int .u32 (s.g : Int)) := (hD.cell 6).trans (dw_word s.toL blk u n 6 (by rw [S8.toL_length]; omega))
  have c7 : w.cell? ⟨D, 7, none⟩ = some (.int .u32 (s.h : Int)) := (hD.cell 7).trans (dw_word s.toL blk u n 7 (by rw [S8.toL_length]; omega))
  have S9 : Hid (∀ W', Below w.heap.size w W' → (W'.cell? ⟨D, 0, none⟩ = some (.int .u32 (s.a : Int)) ∧ W'.cell? ⟨D, 1, none⟩ = some (.int .u32 (s.b : Int)) ∧ W'.cell? ⟨D, 2, none⟩ = some (.int .u32 (s.c : Int)) ∧ W'.cell? ⟨D, 3, none⟩ = some (.int .u32 (s.d : Int)) ∧ W'.cell? ⟨D, 4, none⟩ = some (.int .u32 (s.e : Int)) ∧ W'.cell? ⟨D, 5, none⟩ = some (.int .u32 (s.f : Int)) ∧ W'.cell? ⟨D, 6, none⟩ = some (.int .u32 (s.g : Int)) ∧ W'.cell? ⟨D, 7, none⟩ = some (.int .u32 (s.h : Int)) ∧ W'.rangeAt D 8 (idA blk).toList)) := fun W' hE =>
    ⟨cell_below hE c0 hDl, cell_below hE c1 hDl, cell_below hE c2 hDl, cell_below hE c3 hDl, cell_below hE c4 hDl, cell_below hE c5 hDl, cell_below hE c6 hDl, cell_below hE c7 hDl, range_below hE hr hDl⟩
  clear hl hb
  go_enter Tryd.func50, Tryd.ntmps50
  go_upto_region 0 with fail
  go_cut [2] (fun s2 wx => ∃ g : Nat, s2 = .pointer (some ⟨g, 0, none⟩) ∧ Below w.heap.size w wx ∧ w.heap.size ≤ g ∧ Bk wx g 69 (L8 T))
  case first =>
    go_region_held3 (fun w' => w'.cell? ⟨D, 0, none⟩ = some (.int .u32 (s.a : Int)) ∧ w'.cell? ⟨D, 1, none⟩ = some (.int .u32 (s.b : Int)) ∧ w'.cell? ⟨D, 2, none⟩ = some (.int .u32 (s.c : Int)) ∧ w'.cell? ⟨D, 3, none⟩ = some (.int .u32 (s.d : Int)) ∧
      w'.cell? ⟨D, 4, none⟩ = some (.int .u32 (s.e : Int)) ∧ w'.cell? ⟨D, 5, none⟩ = some (.int .u32 (s.f : Int)) ∧ w'.cell? ⟨D, 6, none⟩ = some (.int .u32 (s.g : Int)) ∧ w'.cell? ⟨D, 7, none⟩ = some (.int .u32 (s.h : Int)) ∧ w'.rangeAt D 8 (idA blk).toList)
      ((refine S9.out _ ?_; (repeat' (first | with_reducible exact Below.refl _ _ | with_reducible assumption | with_reducible refine Below.drew ?_ | with_reducible refine Below.setCell ?_ ?_ _ | with_reducible refine Below.alloc ?_ ?_ _ | with_reducible exact Nat.le_refl _ | omega | (simp; done) | (simp; omega)))))
      (first
        | (go_at_call 58; refine (HSC.out _).mono ?_; rintro e w5 ⟨rfl, hb5⟩; have hE5 : Below w.heap.size w w5 := below_step (by repeat' (first | with_reducible exact Below.refl _ _ | with_reducible assumption | with_reducible refine Below.drew ?_ | with_reducible refine Below.setCell ?_ ?_ _ | with_reducible refine Below.alloc ?_ ?_ _ | with_reducible exact Nat.le_refl _ | omega | (simp; done) | (simp; omega))) (by first | (simp; done) | (simp; omega)) hb5; have z5 := hE5.size; try (first | (with_reducible have N5 := new_below hb5) | (with_reducible have N5 := new_below_drew hb5)))
        | (go_at_call 57; refine (HTU.out _ (hL.below (B := w.heap.size) (by repeat' (first | with_reducible exact Below.refl _ _ | with_reducible assumption | with_reducible refine Below.drew ?_ | with_reducible refine Below.setCell ?_ ?_ _ | with_reducible refine Below.alloc ?_ ?_ _ | with_reducible exact Nat.le_refl _ | omega | (simp; done) | (simp; omega))) hL.size)).mono ?_; rintro e w6 ⟨rfl, hb6⟩; have hE6 : Below w.heap.size w w6 := below_step (by repeat' (first | with_reducible exact Below.refl _ _ | with_reducible assumption | with_reducible refine Below.drew ?_ | with_reducible refine Below.setCell ?_ ?_ _ | with_reducible refine Below.alloc ?_ ?_ _ | with_reducible exact Nat.le_refl _ | omega | (simp; done) | (simp; omega))) (by first | omega | (simp; done) | (simp; omega)) hb6; have z6 := hE6.size; (first | (have N6 := Bk.keep N5 hb6; obtain ⟨⟨n0, n1, n2, n3, n4, n5, n6, n7⟩, ⟨m0, m1, m2, m3, m4, m5, m6, m7⟩, n8⟩ := N6.f8) | (with_reducible have N6 := new_below hb6; obtain ⟨⟨n0, n1, n2, n3, n4, n5, n6, n7⟩, ⟨m0, m1, m2, m3, m4, m5, m6, m7⟩, n8⟩ := N6.f8) | skip)))
    · go_wp2_with fail
      go_meet
      exact ⟨w6.heap.size, rfl, Below.alloc hE6 (by omega) _, z6, Bk.new _ _ _⟩
    · go_wp2_with fail
      go_meet
      exact ⟨w5.heap.size, rfl, Below.set8 hE6 z5 _ _ _ _ _ _ _ _, z5, N6.set8 _ _ _ _ _ _ _ _⟩
    · go_wp2_with fail
      go_meet
      exact ⟨w.heap.size, rfl, Below.set8 hE6 (Nat.le_refl _) _ _ _ _ _ _ _ _, Nat.le_refl _, N6.set8 _ _ _ _ _ _ _ _⟩
  case rest =>
    obtain ⟨g, rfl, hbc, hg, N⟩ := hcut
    have N : Bk wc g 69 (wA T.toL) := N
    have D0 := hD.keep hbc
    have hne : D ≠ g := by omega
    clear c0 c1 c2 c3 c4 c5 c6 c7 hr h1 hn hi hu S9 HSC HTU hD
    have HO : Only D w wc := Only.of hbc
    clear hbc
    go_wp2_with (refine wpList_load_row rfl 69 (.tmp 2) rfl g rfl 69 (wA T.toL) (0, 0) _ N Tryd.underlying69 rfl (by rw [wA_size]; exact words8_info) ?_)
    go_loopw [16] (fun i wr => ∃ k : Nat, k ≤ 8 ∧ i = .int .i64 k ∧ Only D w wr ∧ (∃ l : List Nat, Hid (l = pl s T k) ∧ Bk wr D 72 (dw l blk u n))) (fun i _ => 8 - (intOf i).toNat)
    case atStart => exact ⟨0, Nat.zero_le _, rfl, HO, ⟨s.toL, rfl, D0⟩⟩
    case round =>
      obtain ⟨k, hk, rfl, HO, ⟨l, Hl, D1⟩⟩ := hrel
      have hll : l.length = 8 := by rw [Hl.out]; exact pl_length _ _ _ hk
      by_cases hlt : k < 8
      · have hc := (D1.cell k).trans (dw_word l blk u n k (by omega))
        have hf := D1.frozen k
        have hz := D1.lt
        have hix : ∀ w : World, (Instr.index 69 (.agg (wA T.toL)) (.int .i64 (k : Int))).run Tryd.prog w = .ok (.int .u32 ((nth T.toL k : Nat) : Int)) w := fun w =>
          run_index_arr (t := 69) (e := 59) (len := 8) (k := .u32) (by kernel_rfl) (by kernel_rfl) (by kernel_rfl) (wA T.toL) k _ hlt (wA_get T.toL k hlt) w
        have j0 : (0 : Int) ≤ (k : Int) := by omega
        have j1 : (k : Int) < 8 := by omega
        have HLl := Lib.hid hll
        clear hll
        go_wp2_with fail
        go_still_tail 11, (by kernel_rfl)
        change wpList _ _ _ _ _ wr.drew
        go_wp2_with fail
        go_roundw
        case rel =>
          refine ⟨k + 1, by omega, by go_num, (HO.set_ _ none _).drew, ⟨pl s T (k + 1), rfl, ?_⟩⟩
          have e := D1.set_ k (.int .u32 ((nth (plus8 s T).toL k : Nat) : Int))
          rw [dw_set_word l blk u n k _ (by rw [HLl.out]; exact hlt), Hl.out, pl_step s T k hlt] at e
          have ev : (((nth l k : Nat) : Int) + ((nth T.toL k : Nat) : Int)) % 4294967296 = ((nth (plus8 s T).toL k : Nat) : Int) := by rw [← pl_nth s T k hlt, ← Hl.out]; rfl
          rw [ev]
          exact e.drew
        case measure => simp [intOf]; omega
      · have hk8 : k = 8 := by omega
        have D2 : Bk wr D 72 (dw (comp s blk).toL blk u n) := by
          rw [HP.out, ← pl_all, ← hk8, ← Hl.out]; exact D1
        have hdk : decide ((k : Int) < 8) = false := decide_eq_false (by omega)
        clear hlt hk hk8 hll D1
        generalize hC : comp s blk = C at *
        have HC := Lib.hid hC
        clear hC
        have hz := D2.lt
        have hth : wr.there D 8 Z64.size := by
          rw [Z64_size]
          intro j hj
          refine ⟨?_, D2.frozen _⟩
          rw [D2.cell, dw_blk _ _ _ _ _ (S8.toL_length _) (by rw [HLL.out]; exact hj)]; rfl
        go_upto_region 7 with (refine wpList_store_mid rfl 70 (.tmp 35) (.tmp 33) rfl D 8 Z64 rfl rfl hth (by rw [Z64_size]; exact bytes64_info) Z64_one ?_)
        have D3 := dw_zero Z64 Z64_eq D2 (S8.toL_length _) HLL.out
        refine wp_any (fun W => Only D w W ∧ Bk W D 72 (dw C.toL (zeros 64) u n)) ⟨HO.sets _ _ _ HO, D3⟩ ?_
        clear D2 D3 HO hth hz
        rintro W ⟨HO, D3⟩
        have hc := (D3.cell 72).trans (dw_used _ _ _ _ (S8.toL_length _) (zeros_length 64))
        have hf := D3.frozen 72
        have hz := D3.lt
        go_wp2_with fail
        go_end0
        refine ⟨rfl, ?_, HO.set_ _ none _⟩
        rw [HC.out]
        have e := D3.set_ 72 (.int .i64 ((0 : Nat) : Int))
        rw [dw_set_used _ _ _ _ _ (S8.toL_length _) (zeros_length 64)] at e
        exact e
end Go.Proofs.YtkkkfcdoilojmaaDoor
