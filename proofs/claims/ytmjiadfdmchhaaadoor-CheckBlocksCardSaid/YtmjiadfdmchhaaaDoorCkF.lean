/-
  Package check: a block's root.
-/
import Derived.Test.YtmjiadfdmchhaaaDoorCkE
import Derived.Test.YtmjiadfdmchhaaaDoorTxH
import Derived.Test.YtmjiadfdmchhaaaDoorTxI
namespace Go.Proofs.YtmjiadfdmchhaaaDoor
open Go.RowKit
set_option linter.unusedVariables false
set_option linter.unusedSimpArgs false
set_option maxRecDepth 100000

/-- Whether a block's transactions belong to its root; 0: they do. -/
def rootE (r : List Nat) (L : List TxM) : Nat := if ∃ t ∈ L, (txB t).length = 64 then 40 else if (rootV (L.map tID)).2 = true then 40 else if (rootV (L.map tID)).1 = r then 0 else 40
theorem blk_root {w : World} {g : Nat} {b : BlkM} (hH : IsHd b.hd) (K : Bk w g 40 (blkL b).toArray) : (loadCellsFrom ⟨g, 33, none⟩ 0 32 #[]).run Tryd.prog w = .ok (idA b.hd.r) w := by
  have hh := blk_head K
  have e := run_loadCells_list (P := Tryd.prog) w ⟨g, 33, none⟩ (idA b.hd.r).toList (fun j v hv => by
    have hj : j < 32 := by
      have := (List.getElem?_eq_some_iff.1 hv).1
      rw [Array.length_toList, idA_size, hH.rl] at this
      exact this
    rw [Addr.add_mid]
    have h1 := hdA_r hH j hj
    have h2 : v = .int .u8 ((nth b.hd.r j : Nat) : Int) := by
      have h3 := idA_get b.hd.r j (by rw [hH.rl]; exact hj)
      rw [Array.getElem?_toList] at hv
      rw [h3] at hv
      exact (Option.some.inj hv).symm
    rw [h2]
    have h4 := hh (33 + j) (.int .u8 ((nth b.hd.r j : Nat) : Int)) (by
      unfold hdA at h1
      rwa [List.getElem?_toArray] at h1)
    rw [Nat.zero_add] at h4
    exact h4)
  rw [Array.length_toList, idA_size, hH.rl] at e
  exact e
set_option maxHeartbeats 8000000 in
theorem croot_any (b : BlkM) (w : World) (hV : BlkV w w.heap.size b) (hF : ∀ t ∈ b.txs, TxFit t) (hn : b.txs.length ≤ 40) (hLd : Laid w) :
    Calls Tryd.prog 9 #[.agg (blkL b).toArray] w fun r w' => r = .returned (.int .i64 (rootE b.hd.r b.txs : Nat)) ∧ Below w.heap.size w w' := by
  have HV := Lib.hid hV
  have HF := Lib.hid hF
  have HLD := Lib.hid hLd
  have h68 := blk_68 hV.1
  obtain ⟨s0, c, hlv⟩ : ∃ s c, b.lv = .slice s b.txs.length c := ⟨_, _, rfl⟩
  have HROW := hV.2.1
  rw [hlv] at h68 HROW
  have HL := Lib.hid (row_at HROW)
  have HROW := Lib.hid HROW
  obtain ⟨n, hnn⟩ : ∃ n, n = b.txs.length := ⟨_, rfl⟩
  have HN := Lib.hid hnn
  rw [← hnn] at h68 HROW HL hn
  have HBR : Hid (∀ W g, Bk W g 40 (blkL b).toArray → (loadCellsFrom ⟨g, 33, none⟩ 0 32 #[]).run Tryd.prog W = .ok (idA b.hd.r) W) := fun W g K => blk_root hV.1 K
  obtain ⟨A, hA⟩ : ∃ A, A = (blkL b).toArray := ⟨_, rfl⟩
  rw [← hA] at h68 HBR ⊢
  have H68 := Lib.hid h68
  obtain ⟨res, hres⟩ : ∃ r, r = rootE b.hd.r b.txs := ⟨_, rfl⟩
  rw [← hres]
  have HRS := Lib.hid hres
  clear hV hF hLd hnn hA h68 hlv hres
  go_enter Tryd.func9, Tryd.ntmps9
  go_upto_region 1 with fail
  refine wp_any (fun W => Below w.heap.size w W ∧ Bk W w.heap.size 40 A) ⟨(Below.refl _ _).alloc (Nat.le_refl _) _, Bk.new _ _ _⟩ ?_
  obtain ⟨g, hg⟩ : ∃ g, g = w.heap.size := ⟨_, rfl⟩
  have HG := Lib.hid hg
  rw [← hg]
  rintro W ⟨hW, K⟩
  have HW : Hid (Below w.heap.size w W) := by rw [hg] at hW; exact hW
  have HK := Lib.hid K
  have c68 := (K.cell 68).trans H68.out
  have zg := K.lt
  clear hW K hg
  go_wp2_with fail
  go_loopw [10] (fun i wr => ∃ k : Nat, k ≤ n ∧ i = .int .i64 k ∧ Hid (∀ t ∈ b.txs.take k, (txB t).length ≠ 64) ∧ Hid (Below w.heap.size w wr) ∧ Hid (Bk wr g 40 A)) (fun i _ => n - (intOf i).toNat)
  case atStart => exact ⟨0, Nat.zero_le _, rfl, fun t ht => by simp at ht, HW.out, HK.out⟩
  case round =>
    obtain ⟨k, hk, rfl, HP, HWr, HKr⟩ := hrel
    clear HW HK c68 zg
    by_cases hlt : k < n
    · obtain ⟨t, bb, o, hkt, rfl, hbw, hrg⟩ := HL.out k (by have := HN.out; omega)
      have j1 : decide ((k : Int) < (n : Int)) = true := decide_eq_true (by omega)
      have hmem := List.mem_of_getElem? hkt
      have hTV := HV.out.2.2 t hmem
      replace hrg := rr_below hrg HWr.out hbw
      change wr.rangeAt bb (o + k * 2) [t.iv, t.ov] at hrg
      have c0_ : wr.cell? ⟨bb, o + k * 2, none⟩ = some t.iv := hrg 0 _ rfl
      have c1_ : wr.cell? ⟨bb, o + k * 2 + 1, none⟩ = some t.ov := hrg 1 _ rfl
      have hbr : bb < wr.heap.size := Nat.lt_of_lt_of_le hbw HWr.out.size
      have HTB : Hid (∀ W, Below w.heap.size w W → Calls Tryd.prog 24 #[.agg #[t.iv, t.ov]] W fun e w' => ∃ s c, e = .returned (.slice s (txB t).length c) ∧ Below W.heap.size W w') := fun W h => (tbytes_any t W ((hTV.keep h (Nat.le_refl _)).mono h.size) (HF.out t hmem)).mono fun e w' ⟨v', he, M, hb⟩ => by
        obtain ⟨s, c, e2⟩ := M.slice
        exact ⟨s, c, by rw [he, e2], hb⟩
      have HPN : Hid ((txB t).length ≠ 64 → ∀ u ∈ b.txs.take (k + 1), (txB u).length ≠ 64) := fun h u hu => by
        rw [List.take_add_one, hkt] at hu
        rcases List.mem_append.1 hu with h1 | h1
        · exact HP.out u h1
        · simp at h1; subst h1; exact h
      have HRE : Hid ((txB t).length = 64 → res = 40) := fun h => HRS.out.trans (if_pos ⟨t, hmem, h⟩)
      obtain ⟨tn, htn⟩ : ∃ l, l = (txB t).length := ⟨_, rfl⟩
      rw [← htn] at HTB HPN HRE
      obtain ⟨a1, ha1⟩ : ∃ a, a = t.iv := ⟨_, rfl⟩
      obtain ⟨a2, ha2⟩ : ∃ a, a = t.ov := ⟨_, rfl⟩
      have o1 : a1.oneCell' = true := by rw [ha1]; rfl
      have o2 : a2.oneCell' = true := by rw [ha2]; rfl
      rw [← ha1, ← ha2] at HTB
      rw [← ha1] at c0_
      rw [← ha2] at c1_
      clear hrg hkt hmem hTV htn hbw HP
      obtain ⟨sa, na, ca, ea⟩ : ∃ s n c, a1 = .slice s n c := ⟨_, _, _, ha1⟩
      obtain ⟨sb, nb, cb, eb⟩ : ∃ s n c, a2 = .slice s n c := ⟨_, _, _, ha2⟩
      subst ea
      subst eb
      clear ha1 ha2 o1 o2
      go_upto_region 4 with fail
      have hA : Below wr.heap.size wr (wr.alloc (.cells #[.slice sa na ca, .slice sb nb cb] 28)) := (Below.refl _ _).alloc (Nat.le_refl _) _
      refine wp_any (fun W => Below w.heap.size w W ∧ Bk W g 40 A ∧ Bk W wr.heap.size 28 #[.slice sa na ca, .slice sb nb cb]) ⟨below_step HWr.out HWr.out.size hA, HKr.out.keep hA, Bk.new _ _ _⟩ ?_
      clear hA HKr HWr c0_ c1_ hbr
      generalize wr.heap.size = g6 at *
      rintro W ⟨hW, K, K6⟩
      have HW := Lib.hid hW
      have HK := Lib.hid K
      have c0 := K6.cell 0
      have c1 := K6.cell 1
      have z6 := K6.lt
      clear hW K K6
      go_wp2_with fail
      refine (HTB.out _ HW.out).mono ?_
      rintro e W1 ⟨s1, l1, rfl, hb1⟩
      have HW1 := Lib.hid (below_step HW.out HW.out.size hb1)
      have HK1 := Lib.hid (HK.out.keep hb1)
      clear hb1 c0 c1 z6
      by_cases h64 : tn = 64
      · have hr := HRE.out h64
        have q : ((tn : Int) == 64) = true := by simp; omega
        clear h64
        go_wp2_with fail
        go_ret
        exact ⟨by first | rfl | (rw [hr]; rfl), HW1.out⟩
      · have q : ((tn : Int) == 64) = false := by simp; omega
        have HP2 := Lib.hid (HPN.out h64)
        clear h64
        go_wp2_with fail
        go_roundw
        case rel => exact ⟨k + 1, by omega, by go_num, HP2, HW1, HK1⟩
        case measure => simp [intOf]; omega
    · obtain rfl : k = n := by omega
      have j1 : decide ((k : Int) < (k : Int)) = false := decide_eq_false (by omega)
      have hp := HP.out
      rw [show b.txs.take k = b.txs by rw [HN.out]; exact List.take_length] at hp
      have HRT := troot_any s0 k c b.txs wr ((HROW.out.keep HWr.out (Nat.le_refl _)).mono HWr.out.size) HN.out (fun t ht => ⟨((HV.out.2.2 t ht).keep HWr.out (Nat.le_refl _)).mono HWr.out.size, HF.out t ht⟩) (HLD.out.below HWr.out HLD.out.size) (by omega)
      have HRE : Hid (res = if (rootV (b.txs.map tID)).2 = true then 40 else if (rootV (b.txs.map tID)).1 = b.hd.r then 0 else 40) := HRS.out.trans (if_neg (fun ⟨t, ht, h⟩ => hp t ht h))
      have HRI : Hid (IsId (rootV (b.txs.map tID)).1) := rootV_id _ (tIDs_is b.txs)
      have HRL : Hid (b.hd.r.length = 32) := HV.out.1.rl
      obtain ⟨rv, hrv⟩ : ∃ r, r = rootV (b.txs.map tID) := ⟨_, rfl⟩
      rw [← hrv] at HRT HRE HRI
      clear hrv
      obtain ⟨Q, sm⟩ := rv
      simp only at HRT HRE HRI
      have c68 := (HKr.out.cell 68).trans H68.out
      have zg := HKr.out.lt
      clear hlt hp HP
      go_wp2_with fail
      refine HRT.mono ?_
      rintro e W1 ⟨rfl, hb1⟩
      have HW1 := Lib.hid (below_step HWr.out HWr.out.size hb1)
      have HK1 := Lib.hid (HKr.out.keep hb1)
      have hys : (idA Q).toList.length = 32 := by rw [Array.length_toList, idA_size]; exact HRI.out.1
      have HQL : Hid (∀ W g, Bk W g 23 (idA Q) → (loadCellsFrom ⟨g, 0, none⟩ 0 32 #[]).run Tryd.prog W = .ok (idA Q) W) := fun W g h => by
        have e := run_loadCells_list (P := Tryd.prog) W ⟨g, 0, none⟩ (idA Q).toList (fun j v hv => by rw [Addr.add_mid]; exact h.range0 j v hv)
        rw [hys] at e
        exact e
      have HEQ : Hid (∀ W, (Op.equalIn 10000 23 (.agg (idA Q)) (.agg (idA b.hd.r))).run Tryd.prog W = .ok (decide (Q = b.hd.r)) W) := fun W => id_eql Q b.hd.r HRI.out.1 HRL.out W
      have hin : (Tryd.prog.info? 23).map (·.size) = some (idA Q).size := by rw [idA_size, HRI.out.1]; kernel_rfl
      have hon := id_ones Q
      have HSZ : Hid ((idA Q).size = 32) := by show _ = _; rw [idA_size]; exact HRI.out.1
      obtain ⟨QA, hQA⟩ : ∃ q, q = idA Q := ⟨_, rfl⟩
      obtain ⟨RA, hRA⟩ : ∃ q, q = idA b.hd.r := ⟨_, rfl⟩
      rw [← hQA] at HQL HEQ hin hon HSZ hys
      rw [← hRA] at HEQ HBR
      have hid : idv Q = .agg QA := by rw [hQA]
      rw [hid]
      clear hQA hRA hid hb1 c68 zg HRT
      go_upto_region 8 with (refine wpList_store_mid rfl 23 (.tmp 5) (.tmp 23) rfl W1.heap.size 0 QA rfl rfl (Bk.there (Bk.new W1 _ _) _ (by rw [HSZ.out]; exact Nat.le_refl _)) hin hon ?_)
      refine wp_any (fun W => Below w.heap.size w W ∧ Bk W W1.heap.size 23 QA ∧ Bk W g 40 A) ⟨Below.setCells HW1.out.size _ _ _ (HW1.out.alloc HW1.out.size _), Bk.setAll (xs := QA) (Bk.new _ _ _) (by rw [HSZ.out]; rfl), (HK1.out.alloc _).farCells (by have := HK1.out.lt; omega) _ _⟩ ?_
      generalize W1.heap.size = g5 at *
      rintro W8 ⟨hW8, K5, K0⟩
      have HW8 := Lib.hid hW8
      obtain ⟨tl, htl⟩ : ∃ tl : TypeId, tl = 23 := ⟨_, rfl⟩
      obtain ⟨szl, hszl⟩ : ∃ szl : Nat, szl = 32 := ⟨_, rfl⟩
      have hag : ∀ w, (isAgg tl).run Tryd.prog w = .ok true w := by rw [htl]; intro w; kernel_rfl
      have hsz : ∀ w, (sizeOf tl).run Tryd.prog w = .ok szl w := by rw [htl, hszl]; intro w; kernel_rfl
      have hl5 : (loadCellsFrom ⟨g5, 0, none⟩ 0 szl #[]).run Tryd.prog W8 = .ok QA W8 := by rw [hszl]; exact HQL.out W8 g5 K5
      have hl0 : (loadCellsFrom ⟨g, 33, none⟩ 0 szl #[]).run Tryd.prog W8 = .ok RA W8 := by rw [hszl]; exact HBR.out W8 g K0
      have HTL := Lib.hid (show ∀ z, Op.load 23 z = Op.load tl z from fun z => by rw [htl])
      have heq := HEQ.out
      have z5 := K5.lt
      have z0 := K0.lt
      clear htl hszl hW8 K5 K0 hin hon hys
      have htl2 := HTL.out
      simp only [htl2]
      clear htl2
      cases sm with
      | true =>
        have hr : res = 40 := HRE.out
        clear heq
        go_wp2_with fail
        go_ret
        exact ⟨by first | rfl | (rw [hr]; rfl), HW8.out⟩
      | false =>
        by_cases hq : Q = b.hd.r
        · have hr : res = 0 := HRE.out.trans (if_pos hq)
          rw [decide_eq_true hq] at heq
          clear hq
          go_wp2_with fail
          go_ret
          exact ⟨by first | rfl | (rw [hr]; rfl), HW8.out⟩
        · have hr : res = 40 := HRE.out.trans (if_neg hq)
          rw [decide_eq_false hq] at heq
          clear hq
          go_wp2_with fail
          go_ret
          exact ⟨by first | rfl | (rw [hr]; rfl), HW8.out⟩
end Go.Proofs.YtmjiadfdmchhaaaDoor
