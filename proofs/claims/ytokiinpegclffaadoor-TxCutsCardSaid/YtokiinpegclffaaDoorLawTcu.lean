/-
  What is proved: for every block, every cut and every byte the law TxCuts returns true, and its arguments read behind the call as they read before it; the two listed tables of package hash are taken to hold what the program's text lays in them, and the card ties them to it.
-/
import Derived.Test.YtokiinpegclffaaDoorTxZ
import Derived.Test.YtokiinpegclffaaDoorTxT
import Derived.Test.YtokiinpegclffaaDoorBlkP
import Derived.Test.YtokiinpegclffaaDoorTie
import Derived.Test.YtokiinpegclffaaDoorCards
import Derived.Stop.Joined
namespace Go.Proofs.YtokiinpegclffaaDoor.txCuts
open Go.ChangeShapes Go.WideShapes Go.ChangeAt Go.RowKit
set_option linter.unusedVariables false

theorem own : ownKnob Tryd.prog.godebug = none := by kernel_rfl
theorem laidOut : laidOutB Tryd.prog = true := by kernel_rfl
theorem wf_i64 {z : Int} (h : (Lit.int .i64 z).wf = true) : -9223372036854775808 ≤ z ∧ z ≤ 9223372036854775807 := by
  simp [Lit.wf, IntKind.min, IntKind.max, IntKind.signed, IntKind.bits] at h
  omega
set_option maxRecDepth 100000
theorem TxV.ok {w : World} {B : Nat} {t : TxM} (h : TxV w B t) : (∀ x ∈ t.ins, x.ix < 4294967296) ∧ ∀ x ∈ t.outs, OutOk x := ⟨fun x hx => (h.2.1 x hx).1, h.2.2.2⟩
theorem wf_u8 {z : Int} (h : (Lit.int .u8 z).wf = true) : 0 ≤ z ∧ z < 256 := by
  simp [Lit.wf, IntKind.min, IntKind.max, IntKind.signed, IntKind.bits] at h
  omega
theorem BlkV.keep {w w' : World} {B : Nat} {b : BlkM} (h : BlkV w B b) {C : Nat} (hb : Below C w w') (hC : B ≤ C) : BlkV w' B b := ⟨h.1, h.2.1.keep hb hC, fun t ht => (h.2.2 t ht).keep hb hC⟩
theorem BlkV.mono {w : World} {B C : Nat} {b : BlkM} (h : BlkV w B b) (hC : B ≤ C) : BlkV w C b := ⟨h.1, h.2.1.mono hC, fun t ht => (h.2.2 t ht).mono hC⟩
theorem blkB_lt {w : World} {B : Nat} {b : BlkM} (h : BlkV w B b) : ∀ x ∈ blkB b, x < 256 := by
  intro x hx
  unfold blkB at hx
  simp only [List.mem_append] at hx
  rcases hx with h1 | h1 | h1
  · exact hB_lt h.1 x h1
  · exact countL_lt _ x h1
  · exact txsB_lt h.2.2 x h1
theorem made_mine (w : World) (g : Nat) (h : Bk w g 5 #[]) : Mine w g (.slice (some ⟨g, 0, none⟩) 0 0) [] := .inr ⟨g, 0, 0, rfl, rfl, by omega, Nat.le_refl _, h⟩
theorem read_cut (b : BlkM) (hg : BlkGood b) (hx : ∀ x ∈ blkB b, x < 256) (hl : (blkB b).length ≤ 8192) (k : Nat) (hk : k < (blkB b).length) (W : World) (v : Value) (hb : BsV W W.heap.size v ((blkB b).take k)) :
    Calls Tryd.prog 28 #[v] W fun r w' => ∃ (b2 : BlkM) (c : Nat), r = .returned (.tuple #[.agg (blkL b2).toArray, .int .i64 (c : Int)]) ∧ IsHd b2.hd ∧ c ≠ 0 ∧ Below W.heap.size W w' := by
  refine (trb_in v _ W hb (by rw [List.length_take]; omega) (fun x h => hx x (List.mem_of_mem_take h))).mono ?_
  rintro e w' ⟨b2, rfl, hbel, h1, h2⟩
  have hne : rdEnd (rbSt ((blkB b).take k)) ≠ 0 := fun h0 => cut_bad b b2 k hg hx hl hk (h1 h0).1 h0
  exact ⟨b2, _, rfl, by rw [h2 hne]; exact hd0_is, hne, hbel⟩
theorem read_more (b : BlkM) (hg : BlkGood b) (hx : ∀ x ∈ blkB b, x < 256) (q : Nat) (hq : q < 256) (W : World) (v : Value) (hb : BsV W W.heap.size v (blkB b ++ [q])) :
    Calls Tryd.prog 28 #[v] W fun r w' => ∃ (b2 : BlkM) (c : Nat), r = .returned (.tuple #[.agg (blkL b2).toArray, .int .i64 (c : Int)]) ∧ IsHd b2.hd ∧ c ≠ 0 ∧ Below W.heap.size W w' := by
  by_cases hl : (blkB b ++ [q]).length ≤ 8192
  · refine (trb_in v _ W hb hl (fun x h => by
      rcases List.mem_append.1 h with h | h
      · exact hx x h
      · rw [List.mem_singleton.1 h]; exact hq)).mono ?_
    rintro e w' ⟨b2, rfl, hbel, h1, h2⟩
    have hne : rdEnd (rbSt (blkB b ++ [q])) ≠ 0 := by
      rw [(blk_back b [q] hg).1]
      simp [rdEnd]
    exact ⟨b2, _, rfl, by rw [h2 hne]; exact hd0_is, hne, hbel⟩
  · obtain ⟨s, c, rfl, _⟩ := hb
    refine (trb_long s _ c W (by omega)).mono ?_
    rintro e w' ⟨rfl, hbel⟩
    exact ⟨blk0, 2, rfl, hd0_is, by decide, hbel⟩
theorem readtx_more (t : TxM) (hg : TxGood t) (hi : ∀ x ∈ t.ins, x.ix < 4294967296) (ho : ∀ x ∈ t.outs, OutOk x) (hx : ∀ x ∈ txB t, x < 256) (hl : (txB t).length ≤ 100000) (q : Nat) (hq : q < 256) (W : World) (v : Value) (hb : BsV W W.heap.size v (txB t ++ [q])) :
    Calls Tryd.prog 21 #[v] W fun r w' => r = .returned (.tuple #[.agg #[.slice none 0 0, .slice none 0 0], .int .i64 70]) ∧ Below W.heap.size W w' := by
  refine (tread_any v _ W hb (by rw [List.length_append, List.length_singleton]; omega) (fun x h => by
    rcases List.mem_append.1 h with h | h
    · exact hx x h
    · rw [List.mem_singleton.1 h]; exact hq)).mono ?_
  rintro e w' ⟨u, rfl, hbel, h1, h2⟩
  have e0 : rdEnd (nxSt (txB t ++ [q], 0)) = 70 := by
    rw [(tx_back t [q] hg hi ho).1]
    simp [rdEnd]
  have hu := h2 (by rw [e0]; decide)
  rw [e0, hu]
  exact ⟨rfl, hbel⟩
theorem bk_range {w : World} {g : Nat} {t : TypeId} {L : List Value} (K : Bk w g t L.toArray) : w.rangeAt g 0 L := by
  intro j v hv
  exact K.range0 j v (by simpa using hv)
theorem blk_done (W : World) (b2 : BlkM) (h : IsHd b2.hd) : Below W.heap.size W ((W.alloc (.cells Tryd.zeroCells56 56)).setCells W.heap.size 0 (blkL b2).toArray.toList) := Below.setCells (Nat.le_refl _) _ _ _ ((Below.refl _ _).alloc (Nat.le_refl _) _)
set_option maxHeartbeats 16000000 in
theorem walk (b : BlkM) (cut : Int) (q : Nat) (w : World) (hL : Laid w) (hV : BlkV w w.heap.size b) (hq : q < 256) :
    Calls Tryd.prog 7 #[.agg (blkL b).toArray, .int .i64 cut, .int .u8 (q : Int)] w fun e w' => e = .returned (.bool true) ∧ Below w.heap.size w w' := by
  have hbx := blkB_lt hV
  have HQ := Lib.hid hq
  have HWR : Hid (∀ W, Below w.heap.size w W → Calls Tryd.prog 16 #[] W fun e w' => e = .returned (.bool true) ∧ Below W.heap.size W w') := fun W h => txwrites_any W (hL.below h hL.size)
  have HFI : Hid (∀ t, TxV w w.heap.size t → ∀ W, Below w.heap.size w W → Calls Tryd.prog 17 #[.agg #[t.iv, t.ov]] W fun e w' => e = .returned (.bool (fitB t)) ∧ Below W.heap.size W w') := fun t hT W h => fits_any t W ((hT.keep h (Nat.le_refl _)).mono h.size)
  have HGO : Hid (∀ t, TxV w w.heap.size t → ∀ W, Below w.heap.size w W → Calls Tryd.prog 20 #[.agg #[t.iv, t.ov]] W fun e w' => e = .returned (.bool (goodB t)) ∧ Below W.heap.size W w') := fun t hT W h => good_any t W ((hT.keep h (Nat.le_refl _)).mono h.size)
  have HBY : Hid (∀ t, TxV w w.heap.size t → TxFit t → ∀ W, Below w.heap.size w W → Calls Tryd.prog 18 #[.agg #[t.iv, t.ov]] W fun e w' => ∃ v', e = .returned v' ∧ Mine w' W.heap.size v' (txB t) ∧ Below W.heap.size W w') := fun t hT hf W h => tbytes_any t W ((hT.keep h (Nat.le_refl _)).mono h.size) hf
  have HGB : Hid ((∀ t ∈ b.txs, TxFit t ∧ TxGood t) → b.txs.length ≤ 4 → BlkGood b) := fun h hn => ⟨hV.1, by omega, fun t ht => ⟨(h t ht).2, TxV.ok (hV.2.2 t ht)⟩⟩
  have HTB : Hid ((∀ t ∈ b.txs, TxFit t ∧ TxGood t) → b.txs.length ≤ 4 → ∀ W, Below w.heap.size w W → Calls Tryd.prog 27 #[.agg (blkL b).toArray] W fun e w' => ∃ v', e = .returned v' ∧ Mine w' W.heap.size v' (blkB b) ∧ Below W.heap.size W w') := fun h hn W hb => tblock_any b W (BlkV.mono (BlkV.keep hV hb (Nat.le_refl _)) hb.size) (fun t ht => (h t ht).1) (by omega)
  have HLEN : Hid (0 < (blkB b).length) := by
    show 0 < _
    unfold blkB
    rw [List.length_append, hB_length hV.1]
    omega
  have HRC : Hid (BlkGood b → (blkB b).length ≤ 8192 → ∀ (k : Nat), k < (blkB b).length → ∀ W v, BsV W W.heap.size v ((blkB b).take k) → Calls Tryd.prog 28 #[v] W fun r w' => ∃ (b2 : BlkM) (c : Nat), r = .returned (.tuple #[.agg (blkL b2).toArray, .int .i64 (c : Int)]) ∧ IsHd b2.hd ∧ c ≠ 0 ∧ Below W.heap.size W w') := fun hg hl k hk W v h => read_cut b hg hbx hl k hk W v h
  have HRM : Hid (BlkGood b → ∀ W v, BsV W W.heap.size v (blkB b ++ [q]) → Calls Tryd.prog 28 #[v] W fun r w' => ∃ (b2 : BlkM) (c : Nat), r = .returned (.tuple #[.agg (blkL b2).toArray, .int .i64 (c : Int)]) ∧ IsHd b2.hd ∧ c ≠ 0 ∧ Below W.heap.size W w') := fun hg W v h => read_more b hg hbx q hq W v h
  have HRT : Hid (∀ t, TxV w w.heap.size t → TxFit t → TxGood t → ∀ W v, BsV W W.heap.size v (txB t ++ [q]) → Calls Tryd.prog 21 #[v] W fun r w' => r = .returned (.tuple #[.agg #[.slice none 0 0, .slice none 0 0], .int .i64 70]) ∧ Below W.heap.size W w') := fun t hT hf hg W v h => readtx_more t hg (TxV.ok hT).1 (TxV.ok hT).2 hT.lt (by have := txB_len t hf; omega) q hq W v h
  have HTL : Hid (∀ t, TxV w w.heap.size t → TxFit t → (∀ x ∈ txB t, x < 256) ∧ (txB t).length ≤ 100000) := fun t hT hf => ⟨hT.lt, by have := txB_len t hf; omega⟩
  have HRW : Hid (RowV txR w w.heap.size (.slice b.ls b.txs.length b.lc) b.txs) := hV.2.1
  have HTX := Lib.hid hV.2.2
  have H68 := Lib.hid (blk_68 hV.1)
  have HPS : Hid ((Tryd.prog.info? 56).map (·.size) = some (blkL b).length) := by rw [blkL_len hV.1]; exact blk_infos
  have HBX := Lib.hid hbx
  unfold BlkM.lv at H68
  obtain ⟨X, hX⟩ : ∃ X, X = blkB b := ⟨_, rfl⟩
  rw [← hX] at HBX HRC HRM HTB HLEN
  obtain ⟨L, hLL⟩ : ∃ L, L = blkL b := ⟨_, rfl⟩
  rw [← hLL] at HTB H68 HPS ⊢
  obtain ⟨G, hG⟩ : ∃ G, G = BlkGood b := ⟨_, rfl⟩
  rw [← hG] at HRC HRM HGB
  obtain ⟨TS, hTS⟩ : ∃ TS, TS = b.txs := ⟨_, rfl⟩
  rw [← hTS] at HGB HTB HRW HTX H68
  obtain ⟨ls, hls⟩ : ∃ ls, ls = b.ls := ⟨_, rfl⟩
  rw [← hls] at HRW H68
  obtain ⟨lc, hlc⟩ : ∃ lc, lc = b.lc := ⟨_, rfl⟩
  rw [← hlc] at HRW H68
  obtain ⟨n, hn⟩ : ∃ n, n = TS.length := ⟨_, rfl⟩
  rw [← hn] at HGB HTB HRW H68
  have HN := Lib.hid hn
  clear hX hLL hG hTS hls hlc hn hbx hV hL hq
  go_enter Tryd.func7, Tryd.ntmps7
  go_upto_region 1 with fail
  refine wp_any (fun W => Below w.heap.size w W ∧ Bk W w.heap.size 56 L.toArray) ⟨(Below.refl _ _).alloc (Nat.le_refl _) _, Bk.new _ _ _⟩ ?_
  obtain ⟨g1, hg1⟩ : ∃ g1, g1 = w.heap.size := ⟨_, rfl⟩
  have HG := Lib.hid hg1
  rw [← hg1]
  clear hg1
  rintro W ⟨hW, K1⟩
  have HW : Hid (Below w.heap.size w W) := by rw [← HG.out]; exact hW
  clear hW
  go_wp2_with fail
  refine (HWR.out W HW.out).mono ?_
  rintro e W1 ⟨rfl, hb1⟩
  have K1 := K1.keep hb1
  have HW1 := Lib.hid (below_step HW.out HW.out.size hb1)
  have c68 := (K1.cell 68).trans H68.out
  have z1 := K1.lt
  clear hb1 HW HWR
  by_cases hn4 : ¬ n ≤ 4
  · have q1 : decide ((4 : Int) < (n : Int)) = true := decide_eq_true (by omega)
    clear hn4
    go_wp2_with fail
    go_ret
    exact ⟨rfl, HW1.out⟩
  have hn4 : n ≤ 4 := by omega
  by_cases hn0 : n = 0
  · have q1 : decide ((4 : Int) < (n : Int)) = false := decide_eq_false (by omega)
    have q2 : ((n : Int) == 0) = true := by rw [hn0]; rfl
    clear hn0 hn4
    go_wp2_with fail
    go_ret
    exact ⟨rfl, HW1.out⟩
  have q1 : decide ((4 : Int) < (n : Int)) = false := decide_eq_false (by omega)
  have q2 : ((n : Int) == 0) = false := by simp; omega
  have HN4 := Lib.hid hn4
  have HN0 := Lib.hid hn0
  clear hn0
  go_wp2_with fail
  go_loopw [32] (fun i wr => ∃ k : Nat, k ≤ n ∧ i = .int .i64 k ∧ Hid (Below w.heap.size w wr) ∧ Bk wr g1 56 L.toArray ∧ Hid (∀ j t, j < k → TS[j]? = some t → TxFit t ∧ TxGood t)) (fun i _ => n - (intOf i).toNat)
  case atStart => exact ⟨0, Nat.zero_le _, rfl, HW1.out, K1, fun j t hj _ => absurd hj (by omega)⟩
  case round =>
    obtain ⟨k, hk, rfl, HWr, Kr, HX⟩ := hrel
    clear K1 HW1 c68 z1 q1 q2
    by_cases hlt : k < n
    · obtain ⟨t, bb, o, hkt, rfl, hbw, hrg⟩ := row_at HRW.out k (by have := HN.out; omega)
      have j1 : decide ((k : Int) < (n : Int)) = true := decide_eq_true (by omega)
      have hTT := HTX.out t (List.mem_of_getElem? hkt)
      replace hrg := rr_below hrg HWr.out hbw
      change wr.rangeAt bb (o + k * 2) [t.iv, t.ov] at hrg
      have c0_ : wr.cell? ⟨bb, o + k * 2, none⟩ = some t.iv := hrg 0 _ rfl
      have c1_ : wr.cell? ⟨bb, o + k * 2 + 1, none⟩ = some t.ov := hrg 1 _ rfl
      have hbr : bb < wr.heap.size := Nat.lt_of_lt_of_le hbw HWr.out.size
      have HFT := Lib.hid (HFI.out t hTT)
      have HGT := Lib.hid (HGO.out t hTT)
      have HKT := Lib.hid hkt
      obtain ⟨B1, hB1⟩ : ∃ B, B = fitB t := ⟨_, rfl⟩
      obtain ⟨B2, hB2⟩ : ∃ B, B = goodB t := ⟨_, rfl⟩
      have HF : Hid (B1 = true → TxFit t) := by show _ → _; rw [hB1]; exact (fitB_iff t).1
      have HGG : Hid (B2 = true → TxGood t) := by show _ → _; rw [hB2]; exact (goodB_iff t).1
      rw [← hB1] at HFT
      rw [← hB2] at HGT
      obtain ⟨a, ha⟩ : ∃ a, a = t.iv := ⟨_, rfl⟩
      obtain ⟨b', hb'⟩ : ∃ b, b = t.ov := ⟨_, rfl⟩
      rw [← ha, ← hb'] at HFT HGT
      rw [← ha] at c0_
      rw [← hb'] at c1_
      obtain ⟨sa, na, ca, ea⟩ : ∃ s n c, a = .slice s n c := ⟨_, _, _, ha⟩
      obtain ⟨sb, nb, cb, eb⟩ : ∃ s n c, b' = .slice s n c := ⟨_, _, _, hb'⟩
      subst ea
      subst eb
      clear hrg hTT hkt ha hb' hB1 hB2
      go_upto_region 8 with fail
      have hA : Below wr.heap.size wr (wr.alloc (.cells #[.slice sa na ca, .slice sb nb cb] 25)) := (Below.refl _ _).alloc (Nat.le_refl _) _
      refine wp_any (fun W => Below w.heap.size w W ∧ Bk W g1 56 L.toArray ∧ Bk W wr.heap.size 25 #[.slice sa na ca, .slice sb nb cb]) ⟨below_step HWr.out HWr.out.size hA, Kr.keep hA, Bk.new _ _ _⟩ ?_
      clear hA Kr HWr c0_ c1_ hbr
      generalize wr.heap.size = g8 at *
      rintro W ⟨hW, K1, K8⟩
      have HW := Lib.hid hW
      have c0 := K8.cell 0
      have c1 := K8.cell 1
      have z8 := K8.lt
      clear hW
      go_wp2_with fail
      refine (HFT.out W HW.out).mono ?_
      rintro e W2 ⟨rfl, hb2⟩
      have K1 := K1.keep hb2
      have K8 := K8.keep hb2
      have HW2 := Lib.hid (below_step HW.out HW.out.size hb2)
      have c0 := K8.cell 0
      have c1 := K8.cell 1
      have z8 := K8.lt
      clear hb2 HW HFT
      cases B1
      · go_wp2_with fail
        go_ret
        exact ⟨rfl, HW2.out⟩
      have HF1 := Lib.hid (HF.out rfl)
      clear HF
      go_wp2_with fail
      refine (HGT.out W2 HW2.out).mono ?_
      rintro e W3 ⟨rfl, hb3⟩
      have K1 := K1.keep hb3
      have HW3 := Lib.hid (below_step HW2.out HW2.out.size hb3)
      clear hb3 HW2 HGT c0 c1 z8 K8
      cases B2
      · go_wp2_with fail
        go_ret
        exact ⟨rfl, HW3.out⟩
      have HG1 := Lib.hid (HGG.out rfl)
      clear HGG
      go_wp2_with fail
      go_roundw
      case rel =>
        refine ⟨k + 1, by omega, by go_num, HW3.out, K1, ?_⟩
        show ∀ j u, j < k + 1 → TS[j]? = some u → TxFit u ∧ TxGood u
        intro j u hj hu
        rcases Nat.lt_or_ge j k with h | h
        · exact HX.out j u h hu
        · obtain rfl : j = k := by omega
          have e := HKT.out
          rw [hu] at e
          obtain rfl : u = t := by simpa using e
          exact ⟨HF1.out, HG1.out⟩
      case measure => simp [intOf]; omega
    · have hkn : k = n := by omega
      have j1 : decide ((k : Int) < (n : Int)) = false := decide_eq_false (by omega)
      have j0 : decide (k < n) = false := decide_eq_false (by omega)
      have HALL : Hid (∀ t ∈ TS, TxFit t ∧ TxGood t) := fun t ht => by
        obtain ⟨j, hj, rfl⟩ := List.mem_iff_getElem.1 ht
        exact HX.out j _ (by have := HN.out; omega) (List.getElem?_eq_getElem hj)
      have HGB := Lib.hid (HGB.out HALL.out HN4.out)
      have HTB := Lib.hid (HTB.out HALL.out HN4.out)
      have HRC := Lib.hid (HRC.out HGB.out)
      have HRM := Lib.hid (HRM.out HGB.out)
      clear HX hlt hkn HGB hk
      have hrg := bk_range Kr
      have z1 := Kr.lt
      go_wp2_with (refine wpList_load_mid rfl 56 (.tmp 3) rfl g1 0 rfl L _ hrg Tryd.underlying56 rfl HPS.out ?_)
      refine (HTB.out _ HWr.out).mono ?_
      rintro e W4 ⟨v4, rfl, M4, hb4⟩
      have K1 := Kr.keep hb4
      have HW4 := Lib.hid (below_step HWr.out HWr.out.size hb4)
      clear hrg z1 Kr HWr hb4 HTB j1 j0
      rcases M4 with ⟨_, e0⟩ | ⟨T, cap, z, hv4, hcap, hcap2, hT4, KT⟩
      · have := HLEN.out
        rw [e0] at this
        simp at this
      obtain ⟨m, hm⟩ : ∃ m, m = X.length := ⟨_, rfl⟩
      rw [← hm] at hv4 hcap
      subst hv4
      have HM := Lib.hid hm
      clear hm hT4
      by_cases h8 : ¬ m ≤ 8192
      · have q3 : decide ((8192 : Int) < (m : Int)) = true := decide_eq_true (by omega)
        clear h8
        go_wp2_with fail
        go_ret
        exact ⟨rfl, HW4.out⟩
      have h8 : m ≤ 8192 := by omega
      have q3 : decide ((8192 : Int) < (m : Int)) = false := decide_eq_false (by omega)
      by_cases hc0 : cut < 0
      · have q4 : decide (cut < 0) = true := decide_eq_true hc0
        clear hc0
        go_wp2_with fail
        go_ret
        exact ⟨rfl, HW4.out⟩
      have q4 : decide (cut < 0) = false := decide_eq_false hc0
      by_cases hcm : (m : Int) ≤ cut
      · have q5 : decide ((m : Int) ≤ cut) = true := decide_eq_true hcm
        clear hcm
        go_wp2_with fail
        go_ret
        exact ⟨rfl, HW4.out⟩
      have q5 : decide ((m : Int) ≤ cut) = false := decide_eq_false hcm
      obtain ⟨c, rfl⟩ := Int.eq_ofNat_of_zero_le (show 0 ≤ cut by omega)
      have hcl : c < m := by omega
      have hc3 : (c : Int) ≤ (cap : Int) := by omega
      have HZ := Lib.hid (show cap = m + z from hcap)
      have hBC : BsV W4 W4.heap.size (.slice (some ⟨T, 0, none⟩) c cap) (X.take c) := by
        have h := bs_row KT (n := c) (cap := cap) (by rw [List.length_append, ← HM.out]; omega) (by omega) hcap2 (fun y hy => by
          rcases List.mem_append.1 hy with h | h
          · exact HBX.out y h
          · have := List.eq_of_mem_replicate h
            omega)
        rw [List.take_append_of_le_length (by rw [← HM.out]; omega)] at h
        exact h
      have HRC := Lib.hid (HRC.out (by rw [← HM.out]; exact h8) c (by rw [← HM.out]; exact hcl) W4 _ hBC)
      have HKT := Lib.hid KT
      have HC2 := Lib.hid hcap2
      have H8 := Lib.hid h8
      clear hBC hcap hc0 hcm KT h8
      go_wp2_with fail
      refine HRC.out.mono ?_
      rintro e W5 ⟨b2, c2, rfl, hd2, hne2, hb5⟩
      have K1 := K1.keep hb5
      have HKT := Lib.hid (HKT.out.keep hb5)
      have HW5 := Lib.hid (below_step HW4.out HW4.out.size hb5)
      have HH2 := Lib.hid hd2
      have HE2 : Hid (((c2 : Int) != 0) = true) := by show _ = _; simp; omega
      clear hb5 hd2 hne2 HRC HW4 q3 q4 q5 hc3
      go_upto_region 15 with (refine wpList_store_mid rfl 56 (.tmp 10) (.tmp 65) rfl W5.heap.size 0 (blkL b2).toArray rfl rfl (by rw [blk_size HH2.out]; exact zc_there W5 69 (Nat.le_refl _)) (by rw [blk_size HH2.out]; exact blk_infos) (blk_ones _) ?_)
      have hA := blk_done W5 b2 HH2.out
      refine wp_any (fun W => Below w.heap.size w W ∧ Bk W g1 56 L.toArray ∧ Bk W T 5 (idA (X ++ zeros z))) ⟨below_step HW5.out HW5.out.size hA, K1.keep hA, HKT.out.keep hA⟩ ?_
      clear hA K1 HKT HW5 HH2
      generalize W5.heap.size = g10 at *
      rintro W ⟨hW, K1, KT⟩
      have HW := Lib.hid hW
      have hE0 : Bk (W.alloc (.cells #[] 5)) W.heap.size 5 #[] := Bk.new _ _ _
      have hA0 : Below W.heap.size W (W.alloc (.cells #[] 5)) := (Below.refl _ _).alloc (Nat.le_refl _) _
      have hBX : BsV (W.alloc (.cells #[] 5)) (W.alloc (.cells #[] 5)).heap.size (.slice (some ⟨T, 0, none⟩) m cap) X := by
        have M : Mine (W.alloc (.cells #[] 5)) 0 (.slice (some ⟨T, 0, none⟩) m cap) X := .inr ⟨T, cap, z, by rw [← HM.out], by rw [← HM.out]; exact HZ.out, HC2.out, Nat.zero_le _, KT.keep hA0⟩
        exact M.bs HBX.out
      obtain ⟨v6, W6, hrun6, M6, hb6⟩ := app2 [] X _ _ W.heap.size _ (made_mine _ _ hE0) (by simp) hBX (by have := H8.out; have := HM.out; simp; omega)
      rw [List.nil_append] at M6
      obtain ⟨s6, c6, hs6⟩ := M6.slice
      rw [← HM.out] at hs6
      subst hs6
      have hA6 : Below W6.heap.size W6 (W6.alloc (.cells #[.int .u8 (q : Int)] 5)) := (Below.refl _ _).alloc (Nat.le_refl _) _
      obtain ⟨v7, W7, hrun7, M7, hb7⟩ := app2 X [q] _ _ W.heap.size _ (M6.keep hA6) (by have h1 := hb6.size; have h2 := hA0.size; have h3 := hA6.size; simp at h1 h2 h3 ⊢; omega) (one_bs HQ.out (Bk.new W6 5 #[.int .u8 (q : Int)])) (by have := H8.out; have := HM.out; simp; omega)
      have hB7 : Below W.heap.size W W7 := (hA0.trans hb6).trans ((hA6.mono (by have h1 := hb6.size; have h2 := hA0.size; simp at h1 h2 ⊢; omega)).trans hb7)
      have hBM := M7.bs (fun x h => by
        rcases List.mem_append.1 h with h | h
        · exact HBX.out x h
        · rw [List.mem_singleton.1 h]; exact HQ.out)
      have K1 := K1.keep hB7
      have HW7 := Lib.hid (below_step HW.out HW.out.size hB7)
      have HRM := Lib.hid (HRM.out W7 _ hBM)
      clear hW KT HW hE0 hA0 hBX M6 hb6 hA6 M7 hb7 hB7 hBM
      go_wp2_with (first | (at_builtin; refine wpList_app (v1 := .slice (some ⟨W.heap.size, 0, none⟩) 0 0) (v2 := .slice (some ⟨T, 0, none⟩) m cap) (v := .slice s6 m c6) rfl (.tmp 68) (.tmp 69) rfl rfl rfl rfl hrun6 ?_) | (at_builtin; refine wpList_app (v1 := .slice s6 m c6) (v2 := .slice (some ⟨W6.heap.size, 0, none⟩) 1 1) (v := v7) rfl (.tmp 70) (.tmp 72) rfl rfl rfl rfl hrun7 ?_))
      clear hrun6 hrun7
      refine HRM.out.mono ?_
      rintro e W8 ⟨b3, c3, rfl, hd3, hne3, hb8⟩
      have K1 := K1.keep hb8
      have HW8 := Lib.hid (below_step HW7.out HW7.out.size hb8)
      have HH3 := Lib.hid hd3
      have HE3 : Hid (((c3 : Int) != 0) = true) := by show _ = _; simp; omega
      clear hb8 hd3 hne3 HRM HW7
      go_upto_region 16 with (refine wpList_store_mid rfl 56 (.tmp 12) (.tmp 75) rfl W8.heap.size 0 (blkL b3).toArray rfl rfl (by rw [blk_size HH3.out]; exact zc_there W8 69 (Nat.le_refl _)) (by rw [blk_size HH3.out]; exact blk_infos) (blk_ones _) ?_)
      have hA := blk_done W8 b3 HH3.out
      refine wp_any (fun W => Below w.heap.size w W ∧ Bk W g1 56 L.toArray) ⟨below_step HW8.out HW8.out.size hA, K1.keep hA⟩ ?_
      clear hA K1 HW8 HH3
      generalize W8.heap.size = g12 at *
      rintro W9 ⟨hW9, K1⟩
      have HW9 := Lib.hid hW9
      clear hW9
      obtain ⟨t, bb, o, hkt, rfl, hbw, hrg⟩ := row_at HRW.out 0 (by have := HN.out; have := HN0.out; omega)
      have hTT := HTX.out t (List.mem_of_getElem? hkt)
      have hFG := HALL.out t (List.mem_of_getElem? hkt)
      replace hrg := rr_below hrg HW9.out hbw
      change W9.rangeAt bb (o + 0 * 2) [t.iv, t.ov] at hrg
      rw [Nat.zero_mul, Nat.add_zero] at hrg
      have c0_ : W9.cell? ⟨bb, o, none⟩ = some t.iv := hrg 0 _ rfl
      have c1_ : W9.cell? ⟨bb, o + 1, none⟩ = some t.ov := hrg 1 _ rfl
      have c68 := (K1.cell 68).trans H68.out
      have z1 := K1.lt
      have hbr : bb < W9.heap.size := Nat.lt_of_lt_of_le hbw HW9.out.size
      have hn1 : (0 : Int) < (n : Int) := by have := HN0.out; omega
      have HBT := Lib.hid (HBY.out t hTT hFG.1)
      have HRT := Lib.hid (HRT.out t hTT hFG.1 hFG.2)
      have HTL := Lib.hid (HTL.out t hTT hFG.1)
      obtain ⟨Y, hY⟩ : ∃ Y, Y = txB t := ⟨_, rfl⟩
      rw [← hY] at HBT HRT HTL
      obtain ⟨a, ha⟩ : ∃ a, a = t.iv := ⟨_, rfl⟩
      obtain ⟨b', hb'⟩ : ∃ b, b = t.ov := ⟨_, rfl⟩
      rw [← ha, ← hb'] at HBT
      rw [← ha] at c0_
      rw [← hb'] at c1_
      obtain ⟨sa, na, ca, ea⟩ : ∃ s n c, a = .slice s n c := ⟨_, _, _, ha⟩
      obtain ⟨sb, nb, cb, eb⟩ : ∃ s n c, b' = .slice s n c := ⟨_, _, _, hb'⟩
      subst ea
      subst eb
      clear hrg hTT hFG hkt hY ha hb' HKT
      go_wp2_with fail
      refine (HBT.out W9 HW9.out).mono ?_
      rintro e Wa ⟨va, rfl, Ma, hba⟩
      obtain ⟨sx, cx, hsx⟩ := Ma.slice
      obtain ⟨l, hl⟩ : ∃ l, l = Y.length := ⟨_, rfl⟩
      have HLL := Lib.hid hl
      rw [← hl] at hsx
      subst hsx
      have HWa := Lib.hid (below_step HW9.out HW9.out.size hba)
      have hE0 : Bk (Wa.alloc (.cells #[] 5)) Wa.heap.size 5 #[] := Bk.new _ _ _
      have hA0 : Below Wa.heap.size Wa (Wa.alloc (.cells #[] 5)) := (Below.refl _ _).alloc (Nat.le_refl _) _
      obtain ⟨vb, Wb, hrunb, Mb, hbb⟩ := app2 [] Y _ _ Wa.heap.size _ (made_mine _ _ hE0) (by simp) ((Ma.keep hA0).bs HTL.out.1) (by have := HTL.out.2; simp; omega)
      rw [List.nil_append] at Mb
      obtain ⟨sy, cy, hsy⟩ := Mb.slice
      rw [← HLL.out] at hsy
      subst hsy
      have hAb : Below Wb.heap.size Wb (Wb.alloc (.cells #[.int .u8 (q : Int)] 5)) := (Below.refl _ _).alloc (Nat.le_refl _) _
      obtain ⟨vc, Wc, hrunc, Mc, hbc⟩ := app2 Y [q] _ _ Wa.heap.size _ (Mb.keep hAb) (by have h1 := hbb.size; have h2 := hA0.size; have h3 := hAb.size; simp at h1 h2 h3 ⊢; omega) (one_bs HQ.out (Bk.new Wb 5 #[.int .u8 (q : Int)])) (by have := HTL.out.2; simp; omega)
      have hBc : Below Wa.heap.size Wa Wc := (hA0.trans hbb).trans ((hAb.mono (by have h1 := hbb.size; have h2 := hA0.size; simp at h1 h2 ⊢; omega)).trans hbc)
      have hBM := Mc.bs (fun x h => by
        rcases List.mem_append.1 h with h | h
        · exact HTL.out.1 x h
        · rw [List.mem_singleton.1 h]; exact HQ.out)
      have HWc := Lib.hid (below_step HWa.out HWa.out.size hBc)
      have HRT := Lib.hid (HRT.out Wc _ hBM)
      clear hba Ma HW9 HWa hE0 hA0 Mb hbb hAb Mc hbc hBc hBM hl c0_ c1_ c68 z1 hbr hn1 K1
      go_wp2_with (first | (at_builtin; refine wpList_app (v1 := .slice (some ⟨Wa.heap.size, 0, none⟩) 0 0) (v2 := .slice sx l cx) (v := .slice sy l cy) rfl (.tmp 83) (.tmp 84) rfl rfl rfl rfl hrunb ?_) | (at_builtin; refine wpList_app (v1 := .slice sy l cy) (v2 := .slice (some ⟨Wb.heap.size, 0, none⟩) 1 1) (v := vc) rfl (.tmp 85) (.tmp 87) rfl rfl rfl rfl hrunc ?_))
      clear hrunb hrunc
      refine HRT.out.mono ?_
      rintro e Wd ⟨rfl, hbd⟩
      have HWd := Lib.hid (below_step HWc.out HWc.out.size hbd)
      have e2 := HE2.out
      have e3 := HE3.out
      clear hbd HWc HRT
      go_wp2_with fail
      go_ret
      exact ⟨rfl, HWd.out.alloc HWd.out.size _⟩

/-- The door's own heap meets the condition. -/
theorem door_met (os : Os) (args : Array Value) : laidMetH Tryd.prog laidL ((World.doorLaid Tryd.prog 19 os).forCall (fun _ _ => 0) ⟨#[], args, []⟩).memory :=
  laidMetH_of_parts3 (fuel := 8) (laidMet_of_run' 8 (by kernel_rfl) (by kernel_rfl)) (by kernel_rfl) (by kernel_rfl)

set_option maxRecDepth 100000 in
theorem lifted (os : Os) (started : os.Started) (H : Type) (enc : TypeId × Value → H) :
    ReturnsInHanded {} Tryd.checked os 7 .any (fun w args => (Rows.txCutsSpec.pre enc Tryd.prog Tryd.f7 [] false w args ∧ laidMetH Tryd.prog laidL w) ∧ sizedMet enc Tryd.prog Tryd.f7 (OpenSpec.ofChange Rows.txCutsSpec) false w args)
      (Rows.txCutsSpec.post enc Tryd.prog Tryd.f7 false true false false) := by
  refine returnsInHanded_of_change_and (C := Tryd.checked) (X := fun w _ => laidMetH Tryd.prog laidL w) (fun _ _ _ hh h => h.of_heap hh) own started (by kernel_rfl) Tryd.func7
    (ChangeSpec.witness_shaped (enc := enc) (C := Tryd.checked) (os := os) (X := fun w _ => laidMetH Tryd.prog laidL w) false (World.doorLaid Tryd.prog 19 os) #[.agg (blkL blk0).toArray, .int .i64 0, .int .u8 0] 8 rfl (World.shaped_of_RefB (by kernel_rfl) (by kernel_rfl)) (by kernel_rfl) (by kernel_rfl) (by kernel_rfl) (door_met os _)) ?_
  intro W base args ds gs before hval0 hW _ _ hL _
  have hval : ∀ (j : Nat) t v, Tryd.f7.params[j]? = some t → args[j]? = some v → Value.okWide Tryd.prog W .any base t v := hval0
  have hW' := hW
  obtain ⟨p, q, hA0, hV, rfl, hfz, hnd⟩ := hW
  have hA : DataW.TrodAll enc Tryd.prog W 0 (fun _ => true) true Tryd.f7.params.toList args.toList ds p := hA0
  rw [Tryd.params7] at hA hval
  obtain ⟨v0, vs0, d0, ds0, p0, q0, hargs, rfl, rfl, h0, r0⟩ := trodAll_cons hA
  obtain ⟨v1, vs1, d1, ds1, p1, q1, rfl, rfl, rfl, h1, r1⟩ := trodAll_cons r0
  obtain ⟨v2, vs2, d2, ds2, p2, q2, rfl, rfl, rfl, h2, r2⟩ := trodAll_cons r1
  obtain ⟨rfl, rfl, rfl⟩ := trodAll_nil r2
  obtain rfl : args = #[v0, v1, v2] := by cases args; simp_all
  obtain ⟨rfl, rfl⟩ := trodVars_none hV
  have lt0 : ∀ x ∈ p0, x.block < W.heap.size := by obtain ⟨m, hm⟩ := h0; exact DataW.trod_lt m _ _ _ hm
  have lt1 : ∀ x ∈ p1, x.block < W.heap.size := by obtain ⟨m, hm⟩ := h1; exact DataW.trod_lt m _ _ _ hm
  have lt2 : ∀ x ∈ p2, x.block < W.heap.size := by obtain ⟨m, hm⟩ := h2; exact DataW.trod_lt m _ _ _ hm
  obtain ⟨x0, hb0, rfl⟩ := blk_arg (hval 0 56 v0 rfl rfl) h0
  obtain ⟨y1, rfl, _, _, hwf1⟩ := open_int (k := .i64) Tryd.underlying3 (hval 1 3 v1 rfl rfl) h1
  have hy1 := wf_i64 hwf1
  obtain ⟨y2, rfl, _, _, hwf2⟩ := open_int (k := .u8) Tryd.underlying5 (hval 2 5 v2 rfl rfl) h2
  have hy2 := wf_u8 hwf2
  obtain ⟨x2, rfl⟩ := Int.eq_ofNat_of_zero_le hy2.1
  have hwalk := walk x0 y1 x2 W (of_laid hL) hb0 (by omega)
  clear hA0 hval0
  refine hwalk.mono fun e W' ⟨he, bel⟩ => ?_
  subst he
  exact ⟨_, rfl, _, _, _, [], _, [], hW', trodAll_mk1 (shut_bool Tryd.underlying4 _), (trodAll_cons_mk (Below.trod laidOut (by kernel_rfl) (of_decide_eq_true (by kernel_rfl)) h0 bel lt0) (trodAll_cons_mk (Below.trod laidOut (by kernel_rfl) (of_decide_eq_true (by kernel_rfl)) h1 bel lt1) (trodAll_cons_mk (Below.trod laidOut (by kernel_rfl) (of_decide_eq_true (by kernel_rfl)) h2 bel lt2) trodAll_mk0))), rfl, bel.frame _, fun h => by cases h⟩

theorem over : Rows.TxCutsSaid :=
  OpenClaim.holds_of_wide 7 Tryd.f7 rfl rfl rfl rfl rfl rfl rfl ⟨rfl, rfl, rfl, rfl, rfl⟩ rfl rfl rfl rfl rfl (by kernel_rfl) Tryd.func7 (by kernel_rfl)
    (of_decide_eq_true (by kernel_rfl)) (by unfold Func.isWrapper; first | (rw [if_pos (by decide +kernel)]; kernel_rfl) | (rw [if_neg (by decide +kernel)]; exact ⟨rfl, rfl⟩))
    (fun os started H enc _ => lifted os started H enc)

theorem proved : Rows.TxCutsCardSaid :=
  Claim7.holds_tied_plain_at .later [] [.data, .data] true Rows.txCutsCard.stood.harness false
    over (fun _ h => by cases h) (by kernel_rfl) (fun _ h => by cases h) txCuts_row_tie rfl ⟨rfl, rfl⟩ (by kernel_rfl) rfl
    (fun f fn hf hfn => by
      obtain rfl : f = 7 := Option.some.inj ((show Tryd.prog.funcNamed "tallystick/tallysticklaw07.TxCuts" = some 7 by kernel_rfl).symm.trans hf) |>.symm
      obtain rfl : fn = Tryd.f7 := (Option.some.inj (Tryd.func7.symm.trans hfn)).symm
      exact ⟨by kernel_rfl, fun j t ht => by
        rw [Tryd.params7] at ht
        have hm : t ∈ [56, 3, 5] := by simpa using Array.mem_of_getElem? ht
        have hall : ([56, 3, 5].all fun u => !Tryd.prog.wantsStandIn u) = true := by kernel_rfl
        exact (show Tryd.prog.wantsStandIn t = false by simpa using List.all_eq_true.1 hall t hm)⟩)
    (by kernel_rfl)
#print axioms proved
end Go.Proofs.YtokiinpegclffaaDoor.txCuts
