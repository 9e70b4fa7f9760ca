/-
  Package check: a block.
-/
import Derived.Test.YtmjiadfdmchhaaaDoorCkF
namespace Go.Proofs.YtmjiadfdmchhaaaDoor
open Go.RowKit
set_option linter.unusedVariables false
set_option linter.unusedSimpArgs false
set_option maxRecDepth 100000

def txsE : Bool → List TxM → Nat
  | _, [] => 0
  | f, t :: r => if txE f t ≠ 0 then txE f t else txsE false r
/-- Why a block is refused; 0: it is not. -/
def blkE (b : BlkM) : Nat := if ¬ (0 < b.txs.length ∧ b.txs.length ≤ 32) then 120 else if txsE true b.txs ≠ 0 then txsE true b.txs else if 8192 < (blkB b).length then 2 else rootE b.hd.r b.txs
theorem blk_info' : (Tryd.prog.info? 40).map (·.size) = some 69 := by kernel_rfl
set_option maxHeartbeats 8000000 in
theorem cblock_any (b : BlkM) (w : World) (hV : BlkV w w.heap.size b) (hF : ∀ t ∈ b.txs, TxFit t) (hn : b.txs.length ≤ 40) (hLd : Laid w) :
    Calls Tryd.prog 10 #[.agg (blkL b).toArray] w fun r w' => r = .returned (.int .i64 (blkE b : Nat)) ∧ Below w.heap.size w w' := by
  have HVW : Hid (∀ W, Below w.heap.size w W → BlkV W W.heap.size b) := fun W h => ⟨hV.1, (hV.2.1.keep h (Nat.le_refl _)).mono h.size, fun t ht => ((hV.2.2 t ht).keep h (Nat.le_refl _)).mono h.size⟩
  have HTB : Hid (∀ W, Below w.heap.size w W → Calls Tryd.prog 26 #[.agg (blkL b).toArray] W fun e w' => ∃ s c, e = .returned (.slice s (blkB b).length c) ∧ Below W.heap.size W w') := fun W h => (tblock_any b W (HVW.out W h) hF hn).mono fun e w' ⟨v', he, M, hb⟩ => by
    obtain ⟨s, c, e2⟩ := M.slice
    exact ⟨s, c, by rw [he, e2], hb⟩
  have HRO : Hid (∀ W, Below w.heap.size w W → Calls Tryd.prog 9 #[.agg (blkL b).toArray] W fun r w' => r = .returned (.int .i64 (rootE b.hd.r b.txs : Nat)) ∧ Below W.heap.size W w') := fun W h => croot_any b W (HVW.out W h) hF hn (hLd.keep h)
  have HTX : Hid (∀ t ∈ b.txs, ∀ f W, Below w.heap.size w W → Calls Tryd.prog 16 #[.agg #[t.iv, t.ov], .bool f] W fun r w' => r = .returned (.int .i64 (txE f t : Nat)) ∧ Below W.heap.size W w') := fun t ht f W h => ctx_any t f W ((HVW.out W h).2.2 t ht)
  have h68 := blk_68 hV.1
  have hlen := blkL_len hV.1
  obtain ⟨s0, c, hlv⟩ : ∃ s c, b.lv = .slice s b.txs.length c := ⟨_, _, rfl⟩
  have HROW := hV.2.1
  rw [hlv] at h68 HROW
  have HL := Lib.hid (row_at HROW)
  clear HROW
  have HSO := Lib.hid (csome_nat b.txs.length)
  obtain ⟨n, hnn⟩ : ∃ n, n = b.txs.length := ⟨_, rfl⟩
  have HN := Lib.hid hnn
  rw [← hnn] at h68 HL hn HSO
  obtain ⟨res, hres⟩ : ∃ r, r = blkE b := ⟨_, rfl⟩
  rw [← hres]
  obtain ⟨re, hre⟩ : ∃ r, r = rootE b.hd.r b.txs := ⟨_, rfl⟩
  obtain ⟨bl, hbl⟩ : ∃ r, r = (blkB b).length := ⟨_, rfl⟩
  rw [← hre] at HRO
  rw [← hbl] at HTB
  obtain ⟨rest, hrest⟩ : ∃ r, r = if 8192 < bl then 2 else re := ⟨_, rfl⟩
  have HRT := Lib.hid hrest
  have HRS : Hid (res = if ¬ (0 < n ∧ n ≤ 32) then 120 else if txsE true b.txs ≠ 0 then txsE true b.txs else rest) := by
    show _ = _
    rw [hres, hrest, hbl, hre, hnn]
    rfl
  obtain ⟨A, hA⟩ : ∃ A, A = (blkL b).toArray := ⟨_, rfl⟩
  have hin : (Tryd.prog.info? 40).map (·.size) = some A.size := by rw [blk_info', hA, List.size_toArray, hlen]
  have HIN := Lib.hid hin
  rw [← hA] at h68 HTB HRO ⊢
  have H68 := Lib.hid h68
  clear hV hF hLd hnn hA h68 hlv hres hre hbl hrest hlen hin
  go_enter Tryd.func10, Tryd.ntmps10
  go_upto_region 1 with fail
  refine wp_any (fun W => Below w.heap.size w W ∧ Bk W w.heap.size 40 A) ⟨(Below.refl _ _).alloc (Nat.le_refl _) _, Bk.new _ _ _⟩ ?_
  obtain ⟨g, hg⟩ : ∃ g, g = w.heap.size := ⟨_, rfl⟩
  rw [← hg]
  rintro W ⟨hW, K⟩
  have HW : Hid (Below w.heap.size w W) := by rw [hg] at hW; exact hW
  have HK := Lib.hid K
  have c68 := (K.cell 68).trans H68.out
  have zg := K.lt
  clear hW K hg
  by_cases h1 : 0 < n ∧ n ≤ 32
  · have S1 := HSO.out
    rw [decide_eq_true h1] at S1
    have S1 := Lib.hid S1
    have HRS := Lib.hid (HRS.out.trans (if_neg (fun h => h h1)))
    clear h1 HSO
    go_wp2_with fail
    refine (S1.out _).mono ?_
    rintro e w' ⟨rfl, rfl⟩
    go_wp2_with fail
    go_loopw [14] (fun i wr => ∃ k : Nat, k ≤ n ∧ i = .int .i64 k ∧ Hid (res = if txsE (decide (k = 0)) (b.txs.drop k) ≠ 0 then txsE (decide (k = 0)) (b.txs.drop k) else rest) ∧ Hid (Below w.heap.size w wr) ∧ Hid (Bk wr g 40 A)) (fun i _ => n - (intOf i).toNat)
    case atStart => exact ⟨0, Nat.zero_le _, rfl, HRS, HW.out, HK.out⟩
    case round =>
      obtain ⟨k, hk, rfl, HR, HWr, HKr⟩ := hrel
      clear HW HK c68 zg HRS
      by_cases hlt : k < n
      · obtain ⟨t, bb, o, hkt, rfl, hbw, hrg⟩ := HL.out k (by have := HN.out; omega)
        have j1 : decide ((k : Int) < (n : Int)) = true := decide_eq_true (by omega)
        have hmem := List.mem_of_getElem? hkt
        replace hrg := rr_below hrg HWr.out hbw
        change wr.rangeAt bb (o + k * 2) [t.iv, t.ov] at hrg
        have c0_ : wr.cell? ⟨bb, o + k * 2, none⟩ = some t.iv := hrg 0 _ rfl
        have c1_ : wr.cell? ⟨bb, o + k * 2 + 1, none⟩ = some t.ov := hrg 1 _ rfl
        have hbr : bb < wr.heap.size := Nat.lt_of_lt_of_le hbw HWr.out.size
        have hDR : b.txs.drop k = t :: b.txs.drop (k + 1) := by
          obtain ⟨hk', hx⟩ := List.getElem?_eq_some_iff.1 hkt
          rw [List.drop_eq_getElem_cons hk', hx]
        obtain ⟨kf, hkf⟩ : ∃ f, f = decide (k = 0) := ⟨_, rfl⟩
        have q0 : ((k : Int) == 0) = kf := by
          rw [hkf]
          by_cases h : k = 0
          · rw [h]; rfl
          · rw [decide_eq_false h]
            simp
            omega
        have hr1 := HR.out
        rw [hDR, ← hkf] at hr1
        unfold txsE at hr1
        have HTC := Lib.hid (HTX.out t hmem kf)
        obtain ⟨te, hte⟩ : ∃ e, e = txE kf t := ⟨_, rfl⟩
        rw [← hte] at hr1 HTC
        have hk1 : decide (k + 1 = 0) = false := decide_eq_false (by omega)
        have HRB : Hid (te ≠ 0 → res = te) := fun h => by rw [if_pos h, if_pos h] at hr1; exact hr1
        have HRG : Hid (te = 0 → res = if txsE (decide (k + 1 = 0)) (b.txs.drop (k + 1)) ≠ 0 then txsE (decide (k + 1 = 0)) (b.txs.drop (k + 1)) else rest) := fun h => by
          rw [show (if te ≠ 0 then te else txsE false (b.txs.drop (k + 1))) = txsE false (b.txs.drop (k + 1)) from if_neg (fun h' => h' h)] at hr1
          rw [hk1]
          exact hr1
        obtain ⟨a1, ha1⟩ : ∃ a, a = t.iv := ⟨_, rfl⟩
        obtain ⟨a2, ha2⟩ : ∃ a, a = t.ov := ⟨_, rfl⟩
        rw [← ha1, ← ha2] at HTC
        rw [← ha1] at c0_
        rw [← ha2] at c1_
        obtain ⟨sa, na, ca, ea⟩ : ∃ s n c, a1 = .slice s n c := ⟨_, _, _, ha1⟩
        obtain ⟨sb, nb, cb, eb⟩ : ∃ s n c, a2 = .slice s n c := ⟨_, _, _, ha2⟩
        subst ea
        subst eb
        clear ha1 ha2 hrg hkt hmem hbw hDR hr1 hte hk1 hkf HR
        go_upto_region 6 with fail
        have hA : Below wr.heap.size wr (wr.alloc (.cells #[.slice sa na ca, .slice sb nb cb] 28)) := (Below.refl _ _).alloc (Nat.le_refl _) _
        refine wp_any (fun W => Below w.heap.size w W ∧ Bk W g 40 A ∧ Bk W wr.heap.size 28 #[.slice sa na ca, .slice sb nb cb]) ⟨below_step HWr.out HWr.out.size hA, HKr.out.keep hA, Bk.new _ _ _⟩ ?_
        clear hA HKr HWr c0_ c1_ hbr
        generalize wr.heap.size = g6 at *
        rintro W ⟨hW, K, K6⟩
        have HW := Lib.hid hW
        have HK := Lib.hid K
        have c0 := K6.cell 0
        have c1 := K6.cell 1
        have z6 := K6.lt
        clear hW K K6
        cases kf
        all_goals
          go_wp2_with fail
          refine (HTC.out _ HW.out).mono ?_
          rintro e W1 ⟨rfl, hb1⟩
          have HW1 := Lib.hid (below_step HW.out HW.out.size hb1)
          have HK1 := Lib.hid (HK.out.keep hb1)
          clear hb1 c0 c1 z6
          by_cases ht : te = 0
          · have q : ((te : Int) != 0) = false := by rw [ht]; rfl
            have HR2 := Lib.hid (HRG.out ht)
            clear ht
            go_wp2_with fail
            go_roundw
            case rel => exact ⟨k + 1, by omega, by go_num, HR2, HW1, HK1⟩
            case measure => simp [intOf]; omega
          · have q : ((te : Int) != 0) = true := by simp; omega
            have hr := HRB.out ht
            clear ht
            go_wp2_with fail
            go_ret
            exact ⟨by first | rfl | (rw [hr]; rfl), HW1.out⟩
      · obtain rfl : k = n := by omega
        have j1 : decide ((k : Int) < (k : Int)) = false := decide_eq_false (by omega)
        have hr := HR.out
        rw [show b.txs.drop k = [] by rw [HN.out]; exact List.drop_length] at hr
        have hr : res = rest := by
          unfold txsE at hr
          simpa using hr
        have HR2 := Lib.hid (hr.trans HRT.out)
        have HWB := HWr
        have KB := HKr.out
        have zg := KB.lt
        clear hlt hr HR
        go_upto_region 10 with fail
        go_wp2_with (refine wpList_load_row rfl 40 (.tmp 1) rfl g rfl 40 A (0, 0) _ KB Tryd.underlying40 rfl HIN.out ?_)
        refine (HTB.out _ HWr.out).mono ?_
        rintro e W1 ⟨s1, l1, rfl, hb1⟩
        have HW1 := Lib.hid (below_step HWr.out HWr.out.size hb1)
        have KB := KB.keep hb1
        have zg := KB.lt
        clear hb1
        by_cases h8 : 8192 < bl
        · have d8 : decide ((8192 : Int) < (bl : Int)) = true := decide_eq_true (by omega)
          have hr : res = 2 := HR2.out.trans (if_pos h8)
          clear h8
          go_wp2_with fail
          go_ret
          exact ⟨by first | rfl | (rw [hr]; rfl), HW1.out⟩
        · have d8 : decide ((8192 : Int) < (bl : Int)) = false := decide_eq_false (by omega)
          have hr : res = re := HR2.out.trans (if_neg h8)
          clear h8
          go_wp2_with (refine wpList_load_row rfl 40 (.tmp 1) rfl g rfl 40 A (0, 0) _ KB Tryd.underlying40 rfl HIN.out ?_)
          refine (HRO.out _ HW1.out).mono ?_
          rintro e W2 ⟨rfl, hb2⟩
          have HW2 := Lib.hid (below_step HW1.out HW1.out.size hb2)
          clear hb2
          go_wp2_with fail
          go_ret
          exact ⟨by first | rfl | (rw [hr]; rfl), HW2.out⟩
  · have S1 := HSO.out
    rw [decide_eq_false h1] at S1
    have S1 := Lib.hid S1
    have hr : res = 120 := HRS.out.trans (if_pos h1)
    clear h1 HSO
    go_wp2_with fail
    refine (S1.out _).mono ?_
    rintro e w' ⟨rfl, rfl⟩
    go_wp2_with fail
    go_ret
    exact ⟨by first | rfl | (rw [hr]; rfl), HW.out⟩
end Go.Proofs.YtmjiadfdmchhaaaDoor
