/-
  The contract of package hash's end.
-/
import Derived.Test.YtkkkfcdoilojmaaDoorHashD
namespace Go.Proofs.YtkkkfcdoilojmaaDoor
open Go.RowKit
set_option linter.unusedVariables false

theorem putSize_at (z : Int) (m : Nat) (hz : z = (m : Int)) (l blk : List Nat) (u n D : Nat) (w : World) (hl : l.length = 8) (hb : blk.length = 64) (hD : Bk w D 72 (dw l blk u n)) :
    Calls Tryd.prog 51 #[.pointer (some ⟨D, 8, none⟩), .int .u64 z] w fun e w' => e = .returned (.tuple #[]) ∧ Bk w' D 72 (dw l (blk.take 56 ++ be8 m) u n) ∧ Only D w w' := by
  subst hz
  exact putSize_any l blk u n m D w hl hb hD

theorem dw_words {l blk : List Nat} {u n : Nat} {w : World} {D : Nat} {t : TypeId} (h : Bk w D t (dw l blk u n)) (hl : l.length = 8) : w.rangeAt D 0 (wA l).toList := fun j v hv => by
  have hj : j < l.length := by
    have := (List.getElem?_eq_some_iff.1 hv).1
    simpa [wA] using this
  rw [Nat.zero_add, h.cell, dw_word _ _ _ _ _ hj]
  rw [Array.getElem?_toList, wA_get _ _ hj] at hv
  exact hv

/-- What is known ahead of the last three steps. -/
def Tail (w : World) (D n : Nat) (out : List Nat) (W : World) : Prop := ∃ (S : S8) (bb : List Nat) (uu : Nat), S.ok ∧ bb.length = 64 ∧ (∀ x ∈ bb, x < 256) ∧ Bk W D 72 (dw S.toL bb uu n) ∧ outL (comp S (bb.take 56 ++ be8 (n * 8))) = out ∧ Bk W w.heap.size 23 (idA (zeros 32)) ∧ Only D w W

set_option maxRecDepth 100000 in
set_option maxHeartbeats 1000000 in
theorem end_any (L : List Nat) (D : Nat) (w : World) (hx : ∀ x ∈ L, x < 256) (hlen : L.length < 1152921504606846976) (hD : Bk w D 72 (dw (inW L).toL (inB L) (L.length % 64) L.length)) (hL : Laid w) :
    Calls Tryd.prog 38 #[.pointer (some ⟨D, 0, none⟩)] w fun e w' => e = .returned (idv (sha L)) ∧ Only D w w' := by
  obtain ⟨u, hu⟩ : ∃ u, u = L.length % 64 := ⟨_, rfl⟩
  obtain ⟨n, hn⟩ : ∃ n, n = L.length := ⟨_, rfl⟩
  have hul : u < 64 := by omega
  have hok := inW_ok L
  have hbl := inB_length L
  have hset : (inB L).set u 128 = inT L ++ 128 :: zeros (63 - u) := by rw [hu]; exact inB_set L
  have htl : (inT L).length = u := by rw [hu]; exact inT_length L
  have hfin : sha L = outL (if u < 56 then comp (inW L) (inT L ++ 128 :: zeros (55 - u) ++ be8 (n * 8)) else comp (comp (inW L) (inT L ++ 128 :: zeros (63 - u))) (zeros 56 ++ be8 (n * 8))) := by
    unfold sha finW
    rw [htl, hn]
  have h128 : ∀ x ∈ inT L ++ 128 :: zeros (63 - u), x < 256 := by
    intro x hm
    rcases List.mem_append.1 hm with h | h
    · exact inT_lt L hx x h
    · rcases List.mem_cons.1 h with h | h
      · omega
      · exact zeros_lt _ x h
  have hlt1 : (inT L ++ 128 :: zeros (63 - u)).length = 64 := by
    rw [List.length_append, List.length_cons, zeros_length, htl]; omega
  rw [hfin]
  rw [← hu, ← hn] at hD
  have hn60 : n < 1152921504606846976 := by omega
  clear hx hlen
  have t56 : u < 56 → (inT L ++ 128 :: zeros (63 - u)).take 56 = inT L ++ 128 :: zeros (55 - u) := fun h => by
    have := take56 (inT L) (by omega)
    rwa [htl] at this
  generalize inW L = s at *
  generalize hb1 : inT L ++ 128 :: zeros (63 - u) = b1 at *
  generalize inB L = b0 at *
  generalize hb2 : inT L ++ 128 :: zeros (55 - u) = b2 at *
  have HSET := Lib.hid hset
  have HT := Lib.hid t56
  have HBL := Lib.hid hbl
  have HL1 := Lib.hid hlt1
  have H128 := Lib.hid h128
  have hb2l : u < 56 → b2.length = 56 := fun h => by rw [← hb2, List.length_append, List.length_cons, zeros_length, htl]; omega
  have HB2 := Lib.hid hb2l
  clear hfin hu hn hset t56 hbl hlt1 h128 hb1 hb2 htl hb2l
  have hDl := hD.lt
  have h2 := hL.ge2 hD (dw_size _ _ _ _ (S8.toL_length _) HBL.out)
  have HLA : Hid (Laid w) := hL
  clear hL
  have HMIX : Hid (∀ (S : S8) (bb : List Nat) (uu : Nat) (W : World), S.ok → bb.length = 64 → (∀ x ∈ bb, x < 256) → Bk W D 72 (dw S.toL bb uu n) → Only D w W →
    Calls Tryd.prog 50 #[.pointer (some ⟨D, 0, none⟩)] W fun e w' => e = .returned (.tuple #[]) ∧ Bk w' D 72 (dw (comp S bb).toL (zeros 64) 0 n) ∧ Only D W w') := fun S bb uu W a b c d e => mix_any S bb uu n D W a b c d (HLA.out.only e h2)
  generalize hout : outL (if u < 56 then comp s (b2 ++ be8 (n * 8)) else comp (comp s b1) (zeros 56 ++ be8 (n * 8))) = out
  have HOUT := Lib.hid hout
  clear hout
  have j0 : (0 : Int) ≤ (u : Int) := by omega
  have j1 : (u : Int) < 64 := by omega
  have hne : w.heap.size ≠ D := by omega
  rcases Nat.lt_or_ge u 56 with h56 | h56
  all_goals
    go_enter Tryd.func38, Tryd.ntmps38
    go_wp2_with fail
    refine wp_any (fun W => Bk W D 72 (dw s.toL b0 u n) ∧ Bk W w.heap.size 23 (idA (zeros 32)) ∧ Only D w W ∧ w.heap.size < W.heap.size) ⟨hD.alloc _, Bk.new _ _ _, (Only.refl _ _).alloc _, by simp⟩ ?_
    clear hD
    rintro W ⟨D1, R1, HO, hsz⟩
    have c0 := (D1.cell 72).trans (dw_used _ _ _ _ (S8.toL_length _) HBL.out)
    have c1 := (D1.cell (8 + u)).trans (dw_blk _ _ _ _ u (S8.toL_length _) (by rw [HBL.out]; exact hul))
    have f0 := D1.frozen 72
    have f1 := D1.frozen (8 + u)
    have hz := D1.lt
    go_still_tail 8, (by kernel_rfl)
    change wpList _ _ _ _ _ W.drew
    go_upto_region 3 with fail
    refine wp_any (fun W1 => Bk W1 D 72 (dw s.toL b1 (u + 1) n) ∧ Bk W1 w.heap.size 23 (idA (zeros 32)) ∧ Only D w W1) ?_ ?_
    · have e := (D1.set_ (8 + u) (.int .u8 ((128 : Nat) : Int))).set_ 72 (.int .i64 ((u + 1 : Nat) : Int))
      rw [dw_set_blk _ _ _ _ _ _ (S8.toL_length _) (by rw [HBL.out]; exact hul), HSET.out, dw_set_used _ _ _ _ _ (S8.toL_length _) HL1.out] at e
      exact ⟨e.drew, ((R1.far hne _).far hne _).drew, ((HO.set_ _ none _).set_ _ none _).drew⟩
    clear D1 R1 HO c0 c1 f0 f1 hz hsz
    rintro W1 ⟨D1, R1, HO⟩
    have c0 := (D1.cell 72).trans (dw_used _ _ _ _ (S8.toL_length _) HL1.out)
  · have hd : decide (56 < (u : Int) + 1) = false := decide_eq_false (by omega)
    go_wp2_with fail
    refine wp_any (Tail w D n out) ⟨s, b1, u + 1, hok, HL1.out, H128.out, D1, by rw [HT.out h56, ← HOUT.out, if_pos h56], R1, HO⟩ ?_
    clear D1 R1 HO c0
    rintro W ⟨S, bb, uu, hS, hbb, hbx, D1, hE, R1, HO⟩
    have HBB := Lib.hid hbb
    have HBX := Lib.hid hbx
    have HE := Lib.hid hE
    clear hbb hbx hE
    have c0 := (D1.cell 73).trans (dw_bytes _ _ _ _ (S8.toL_length _) HBB.out)
    go_still_tail 8, (by kernel_rfl)
    change wpList _ _ _ _ _ W.drew
    go_wp2_with fail
    refine (putSize_at _ (n * 8) (by first | (rw [IntKind.wrap_u64]; omega) | omega) S.toL bb uu n D _ (S8.toL_length _) HBB.out (Bk.drew D1)).mono ?_
    rintro e w5 ⟨rfl, D2, O2⟩
    have HO5 : Only D w w5 := HO.drew.trans O2
    have R5 := O2.keep (Bk.drew R1) hne
    have hb5l : (bb.take 56 ++ be8 (n * 8)).length = 64 := by rw [List.length_append, List.length_take, be8_length, HBB.out]; rfl
    have hb5x : ∀ x ∈ bb.take 56 ++ be8 (n * 8), x < 256 := by
      intro x hx
      rcases List.mem_append.1 hx with h | h
      · exact HBX.out x (List.mem_of_mem_take h)
      · exact be8_lt _ x h
    generalize bb.take 56 ++ be8 (n * 8) = b5 at *
    have HB5 := Lib.hid hb5l
    have HX5 := Lib.hid hb5x
    clear hb5l hb5x D1 R1 HO O2 c0
    go_wp2_with fail
    refine (HMIX.out _ _ _ _ hS HB5.out HX5.out D2 HO5).mono ?_
    rintro e w6 ⟨rfl, D6, O6⟩
    have hC := comp_ok S b5
    generalize comp S b5 = C at *
    have HO6 := HO5.trans O6
    have R6 := O6.keep R5 hne
    have hrng := dw_words D6 (S8.toL_length _)
    have hu37 := Tryd.underlying69
    have hol : (outL C).length = 32 := rfl
    have HNA := fun W : World => name_any C W hC
    have hE := HE.out
    clear HE
    generalize outL C = OC at *
    have HOL := Lib.hid hol
    have HE := Lib.hid hE
    clear hol hE
    have HN : Hid (∀ W : World, Calls Tryd.prog 52 #[.agg (wA C.toL)] W fun e w' => e = .returned (idv OC) ∧ Below W.heap.size W w') := HNA
    clear HNA
    go_wp2_with (first
      | (refine wpList_load_mid rfl 69 (.tmp 38) rfl D 0 rfl (wA C.toL).toList _ hrng hu37 rfl (by rw [Array.length_toList, wA_size]; exact words8_info) ?_)
      | (go_at_call 52; refine (HN.out _).mono ?_; rintro e w7 ⟨rfl, hb7⟩)
      | (refine wpList_store_mid rfl 23 (.tmp 2) (.tmp 40) rfl w.heap.size 0 (idA OC) rfl rfl (by rw [idA_size, HOL.out]; exact (R6.keep hb7).there 32 (by rw [idA_size]; decide)) (by rw [idA_size, HOL.out]; exact id_info') (all_oneCell_toArray (by intro v hv; simp only [List.mem_map] at hv; obtain ⟨x, _, rfl⟩ := hv; rfl)) ?_))
    refine bodyPost_ret (results_cell_row rfl _ _ w.heap.size 23 (idA OC) (0, 0) _ rfl ((R6.keep hb7).setAll (by rw [idA_size, idA_size, HOL.out]; rfl)) Tryd.underlying23 rfl (by rw [idA_size, HOL.out]; exact id_info')) rfl ⟨?_, Only.setsFar (Nat.le_refl _) _ _ _ (HO6.step hb7)⟩
    rw [← HE.out]
  · have hd : decide (56 < (u : Int) + 1) = true := decide_eq_true (by omega)
    go_wp2_with (go_at_call 50; refine (HMIX.out _ _ _ _ hok HL1.out H128.out D1 HO).mono ?_; rintro e w3 ⟨rfl, D2, O2⟩)
    refine wp_any (Tail w D n out) ⟨comp s b1, zeros 64, 0, comp_ok _ _, zeros_length _, zeros_lt _, D2, by rw [zeros56, ← HOUT.out, if_neg (by omega)], O2.keep R1 hne, HO.trans O2⟩ ?_
    clear D1 R1 HO c0 D2 O2
    rintro W ⟨S, bb, uu, hS, hbb, hbx, D1, hE, R1, HO⟩
    have HBB := Lib.hid hbb
    have HBX := Lib.hid hbx
    have HE := Lib.hid hE
    clear hbb hbx hE
    have c0 := (D1.cell 73).trans (dw_bytes _ _ _ _ (S8.toL_length _) HBB.out)
    go_still_tail 8, (by kernel_rfl)
    change wpList _ _ _ _ _ W.drew
    go_wp2_with fail
    refine (putSize_at _ (n * 8) (by first | (rw [IntKind.wrap_u64]; omega) | omega) S.toL bb uu n D _ (S8.toL_length _) HBB.out (Bk.drew D1)).mono ?_
    rintro e w5 ⟨rfl, D2, O2⟩
    have HO5 : Only D w w5 := HO.drew.trans O2
    have R5 := O2.keep (Bk.drew R1) hne
    have hb5l : (bb.take 56 ++ be8 (n * 8)).length = 64 := by rw [List.length_append, List.length_take, be8_length, HBB.out]; rfl
    have hb5x : ∀ x ∈ bb.take 56 ++ be8 (n * 8), x < 256 := by
      intro x hx
      rcases List.mem_append.1 hx with h | h
      · exact HBX.out x (List.mem_of_mem_take h)
      · exact be8_lt _ x h
    generalize bb.take 56 ++ be8 (n * 8) = b5 at *
    have HB5 := Lib.hid hb5l
    have HX5 := Lib.hid hb5x
    clear hb5l hb5x D1 R1 HO O2 c0
    go_wp2_with fail
    refine (HMIX.out _ _ _ _ hS HB5.out HX5.out D2 HO5).mono ?_
    rintro e w6 ⟨rfl, D6, O6⟩
    have hC := comp_ok S b5
    generalize comp S b5 = C at *
    have HO6 := HO5.trans O6
    have R6 := O6.keep R5 hne
    have hrng := dw_words D6 (S8.toL_length _)
    have hu37 := Tryd.underlying69
    have hol : (outL C).length = 32 := rfl
    have HNA := fun W : World => name_any C W hC
    have hE := HE.out
    clear HE
    generalize outL C = OC at *
    have HOL := Lib.hid hol
    have HE := Lib.hid hE
    clear hol hE
    have HN : Hid (∀ W : World, Calls Tryd.prog 52 #[.agg (wA C.toL)] W fun e w' => e = .returned (idv OC) ∧ Below W.heap.size W w') := HNA
    clear HNA
    go_wp2_with (first
      | (refine wpList_load_mid rfl 69 (.tmp 38) rfl D 0 rfl (wA C.toL).toList _ hrng hu37 rfl (by rw [Array.length_toList, wA_size]; exact words8_info) ?_)
      | (go_at_call 52; refine (HN.out _).mono ?_; rintro e w7 ⟨rfl, hb7⟩)
      | (refine wpList_store_mid rfl 23 (.tmp 2) (.tmp 40) rfl w.heap.size 0 (idA OC) rfl rfl (by rw [idA_size, HOL.out]; exact (R6.keep hb7).there 32 (by rw [idA_size]; decide)) (by rw [idA_size, HOL.out]; exact id_info') (all_oneCell_toArray (by intro v hv; simp only [List.mem_map] at hv; obtain ⟨x, _, rfl⟩ := hv; rfl)) ?_))
    refine bodyPost_ret (results_cell_row rfl _ _ w.heap.size 23 (idA OC) (0, 0) _ rfl ((R6.keep hb7).setAll (by rw [idA_size, idA_size, HOL.out]; rfl)) Tryd.underlying23 rfl (by rw [idA_size, HOL.out]; exact id_info')) rfl ⟨?_, Only.setsFar (Nat.le_refl _) _ _ _ (HO6.step hb7)⟩
    rw [← HE.out]
end Go.Proofs.YtkkkfcdoilojmaaDoor
