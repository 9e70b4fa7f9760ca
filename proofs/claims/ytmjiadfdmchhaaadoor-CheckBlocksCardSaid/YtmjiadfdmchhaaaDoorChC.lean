/-
  Package check: the laws' head asks.
-/
import Derived.Test.YtmjiadfdmchhaaaDoorChB
namespace Go.Proofs.YtmjiadfdmchhaaaDoor
open Go.RowKit
set_option linter.unusedVariables false
set_option linter.unusedSimpArgs false
set_option maxRecDepth 100000

theorem idA_toList' (l : List Nat) : (idA l).toList = l.map byteV := rfl
theorem blk_agg (w : World) : (isAgg 40).run Tryd.prog w = .ok true w := by kernel_rfl
theorem blk_sizeC (w : World) : (sizeOf 40).run Tryd.prog w = .ok 69 w := by kernel_rfl
theorem blk_load {w : World} {g : Nat} {A : Array Value} (hA : A.size = 69) (K : Bk w g 40 A) : (loadCellsFrom ⟨g, 0, none⟩ 0 69 #[]).run Tryd.prog w = .ok A w := by
  have e := run_loadCells_list (P := Tryd.prog) w ⟨g, 0, none⟩ A.toList (fun j v hv => by
    rw [Addr.add_mid, Nat.zero_add, K.cell]
    simpa using hv)
  rw [Array.length_toList, hA] at e
  exact e
theorem zblk : Tryd.zeroCells40 = (blkL ⟨hd0, none, 0, []⟩).toArray := by kernel_rfl
theorem zblk_set (s : Option Addr) (n c : Nat) : Tryd.zeroCells40.toList.set 68 (Value.slice s n c) = hdL hd0 ++ [Value.slice s n c] := by
  rw [zblk]
  show (hdL hd0 ++ [_]).set 68 _ = _
  rw [List.set_append_right _ _ (by rw [hdL_length hd0_is]; exact Nat.le_refl _), hdL_length hd0_is]
  rfl
theorem zblk_size : Tryd.zeroCells40.size = 69 := by rw [zblk, List.size_toArray, blkL_len hd0_is]
theorem hdL_oneC (h : Hd) : ∀ v ∈ hdL h, v.oneCell' = true := by
  intro v hv
  unfold hdL at hv
  simp only [List.mem_cons, List.mem_append, List.mem_map, List.not_mem_nil, or_false] at hv
  rcases hv with rfl | ⟨_, _, rfl⟩ | ⟨_, _, rfl⟩ | rfl | rfl | rfl <;> rfl
theorem row_put (w : World) (t : TypeId) (ZC : Array Value) (l : List Value) (hz : ZC.size = l.length) (h1 : ∀ v ∈ l, v.oneCell' = true) :
    (storeCells ⟨w.heap.size, 0, none⟩ l).run Tryd.prog (w.alloc (.cells ZC t)) = .ok () ((w.alloc (.cells ZC t)).setCells w.heap.size 0 l) ∧
    Bk ((w.alloc (.cells ZC t)).setCells w.heap.size 0 l) w.heap.size t l.toArray ∧ Below w.heap.size w ((w.alloc (.cells ZC t)).setCells w.heap.size 0 l) := by
  have K := Bk.new w t ZC
  exact ⟨cells_store w.heap.size l l.length _ h1 rfl (K.there l.length (by rw [hz]; exact Nat.le_refl _)), Bk.setAll (xs := l.toArray) K (by rw [List.size_toArray, hz]), Below.setCells (Nat.le_refl _) _ _ _ ((Below.refl _ _).alloc (Nat.le_refl _) _)⟩
theorem maker_ix (w : World) : (Instr.field 54 (.agg (poL mkP).toArray) 1).run Tryd.prog w = .ok (.int .u32 4294967295) w := by
  have h32 : (poL mkP).toArray[32]? = some (.int .u32 4294967295) := by kernel_rfl
  generalize (poL mkP).toArray = PA at *
  simp [Instr.field, run_underlying Tryd.underlying54, asAgg, run_part_int Tryd.underlying35 PA 32 _ h32]
/-- Such a first transaction, and where it lies. -/
structure FirstV (a : Int) (s1 : Option Addr) (c1 : Nat) (s2 : Option Addr) (c2 : Nat) (w0 : World) (w : World) (t : TxM) : Prop where
  iv : t.iv = .slice s1 1 c1
  ov : t.ov = .slice s2 1 c2
  ins : t.ins = [in1]
  outs : t.outs = [out1 a]
  V : TxV w w.heap.size t
  fit : TxFit t
  B : Below w0.heap.size w0 w
theorem first_any' (a : Int) (w : World) (ha : OutOk (out1 a)) :
    Calls Tryd.prog 14 #[.int .i64 a] w fun e w' => ∃ s1 c1 s2 c2 t, e = .returned (.agg #[.slice s1 1 c1, .slice s2 1 c2]) ∧ FirstV a s1 c1 s2 c2 w w' t := by
  refine (first_any a w ha).mono ?_
  rintro e w1 ⟨t, rfl, hin, hout, hT, hb1⟩
  have hiv : t.iv = .slice t.is_ 1 t.ic := by unfold TxM.iv; rw [hin]; rfl
  have hov : t.ov = .slice t.os_ 1 t.oc := by unfold TxM.ov; rw [hout]; rfl
  exact ⟨t.is_, t.ic, t.os_, t.oc, t, by rw [← hiv, ← hov], hiv, hov, hin, hout, hT, ⟨by rw [hin]; exact (by decide : 1 ≤ 40), by rw [hout]; exact (by decide : 1 ≤ 40), fun x hx => by rw [hin] at hx; rw [List.mem_singleton.1 hx]; show 0 ≤ 200; decide⟩, hb1⟩
set_option maxHeartbeats 8000000 in
theorem asks_any (w : World) (hLd : Laid w) : Calls Tryd.prog 5 #[] w fun e w' => e = .returned (.bool true) ∧ Below w.heap.size w w' := by
  have HLD := Lib.hid hLd
  have hfi := first_any' 5 w (by unfold OutOk out1; decide)
  obtain ⟨tl, htl⟩ : ∃ tl : TypeId, tl = 40 := ⟨_, rfl⟩
  obtain ⟨sz, hsz0⟩ : ∃ sz : Nat, sz = 69 := ⟨_, rfl⟩
  have hag : ∀ w, (isAgg tl).run Tryd.prog w = .ok true w := by rw [htl]; exact blk_agg
  have hsz : ∀ w, (sizeOf tl).run Tryd.prog w = .ok sz w := by rw [htl, hsz0]; exact blk_sizeC
  have HLO : Hid (∀ W g A, A.size = 69 → Bk W g 40 A → (loadCellsFrom ⟨g, 0, none⟩ 0 sz #[]).run Tryd.prog W = .ok A W) := by show ∀ _, _; rw [hsz0]; exact fun W g A h K => blk_load h K
  have HTL := Lib.hid (show ∀ z, Op.load 40 z = Op.load tl z from fun z => by rw [htl])
  clear hLd htl hsz0
  go_enter Tryd.func5, Tryd.ntmps5
  go_wp2_with fail
  refine hfi.mono ?_
  rintro e w1 ⟨s1, c1, s2, c2, t, rfl, hFV⟩
  have HF := Lib.hid hFV
  have HB1 := Lib.hid hFV.B
  clear hFV hfi
  go_upto_region 2 with fail
  refine wp_any (fun W => Below w.heap.size w W ∧ Bk W w1.heap.size 28 #[.slice s1 1 c1, .slice s2 1 c2] ∧ TxV W W.heap.size t)
    ⟨below_step HB1.out HB1.out.size ((Below.refl _ _).alloc (Nat.le_refl _) _), Bk.new _ _ _, (HF.out.V.keep ((Below.refl _ _).alloc (Nat.le_refl _) _) (Nat.le_refl _)).mono (by simp)⟩ ?_
  have HZ1 : Hid (w.heap.size ≤ w1.heap.size) := HB1.out.size
  clear HB1
  generalize w1.heap.size = p1 at *
  rintro W ⟨hB, K1, hT⟩
  have c0 := K1.cell 0
  have c1' := K1.cell 1
  have z1 := K1.lt
  have HB := Lib.hid hB
  have HBW := Lib.hid hB
  have HK1 := Lib.hid K1
  have HT := Lib.hid hT
  clear hB K1 hT
  obtain ⟨ZC, hZC⟩ : ∃ Z, Z = Tryd.zeroCells40 := ⟨_, rfl⟩
  obtain ⟨BL, hBL⟩ : ∃ l, l = hdL hd0 ++ [Value.slice (some ⟨W.heap.size, 0, none⟩) 1 1] := ⟨_, rfl⟩
  have hset : ZC.toList.set 68 (.slice (some ⟨W.heap.size, 0, none⟩) 1 1) = BL := by rw [hZC, hBL]; exact zblk_set _ _ _
  have hlen : BL.length = 69 := by rw [hBL, List.length_append, hdL_length hd0_is]; rfl
  have hzs : ZC.size = BL.length := by rw [hZC, zblk_size, hlen]
  have hone : ∀ v ∈ BL, v.oneCell' = true := by
    intro v hv
    rw [hBL] at hv
    rcases List.mem_append.1 hv with h | h
    · exact hdL_oneC _ v h
    · rw [List.mem_singleton.1 h]; rfl
  have BT : Below W.heap.size W (W.alloc (.cells #[.slice s1 1 c1, .slice s2 1 c2] 28)) := (Below.refl _ _).alloc (Nat.le_refl _) _
  have KT : Bk (W.alloc (.cells #[.slice s1 1 c1, .slice s2 1 c2] 28)) W.heap.size 28 (txL t).toArray := by
    unfold txL
    rw [HF.out.iv, HF.out.ov]
    exact Bk.new _ _ _
  obtain ⟨hst, KB, BB⟩ := row_put (W.alloc (.cells #[.slice s1 1 c1, .slice s2 1 c2] 28)) 40 ZC BL hzs hone
  have hs1 : (W.alloc (.cells #[.slice s1 1 c1, .slice s2 1 c2] 28)).heap.size = W.heap.size + 1 := by simp
  have RT := one_rowR' txR_ok KT
  have hTT := (HT.out.keep BT (Nat.le_refl _)).mono BT.size
  obtain ⟨W1, hW1⟩ : ∃ W1, W1 = W.alloc (.cells #[.slice s1 1 c1, .slice s2 1 c2] 28) := ⟨_, rfl⟩
  rw [← hW1] at hst KB BB hs1 RT hTT BT KT
  rw [hs1] at hst KB
  have BB' : Below W1.heap.size W1 ((W1.alloc (.cells ZC 40)).setCells (W.heap.size + 1) 0 BL) := by rw [← hs1]; exact BB
  obtain ⟨W2, hW2⟩ : ∃ W2, W2 = (W1.alloc (.cells ZC 40)).setCells (W.heap.size + 1) 0 BL := ⟨_, rfl⟩
  rw [← hW2] at hst KB BB'
  have HBV : Hid (BlkV W2 (W.heap.size + 1) ⟨hd0, some ⟨W.heap.size, 0, none⟩, 1, [t]⟩) := by
    rw [← hs1]
    exact ⟨hd0_is, RT.keep BB' (Nat.le_refl _), fun x hx => by
      rw [List.mem_singleton.1 hx]
      exact hTT.keep BB' (Nat.le_refl _)⟩
  have HTV : Hid (TxV W2 (W.heap.size + 1) t) := by
    rw [← hs1]
    exact hTT.keep BB' (Nat.le_refl _)
  have hst2 : (storeCells ⟨W.heap.size + 1, 0, none⟩ (Tryd.zeroCells40.toList.set 68 (.slice (some ⟨W.heap.size, 0, none⟩) 1 1))).run Tryd.prog ((W.alloc (.cells #[.slice s1 1 c1, .slice s2 1 c2] 28)).alloc (.cells Tryd.zeroCells40 40)) = .ok () W2 := by
    rw [← hZC, hset, ← hW1]
    exact hst
  have KB' : Bk W2 (W.heap.size + 1) 40 (blkL ⟨hd0, some ⟨W.heap.size, 0, none⟩, 1, [t]⟩).toArray := by
    have e : blkL ⟨hd0, some ⟨W.heap.size, 0, none⟩, 1, [t]⟩ = BL := by rw [hBL]; rfl
    rw [e]
    exact KB
  have HKB := Lib.hid KB'
  have HB2 := Lib.hid (below_step (below_step HB.out HB.out.size BT) (by have := HB.out.size; have := BT.size; omega) BB')
  have HK12 := Lib.hid ((HK1.out.keep BT).keep BB')
  clear hst KB BB BB' hW2 hs1 RT hTT BT KT hset hlen hzs hone KB' hBL hZC hW1 HT HB HK1
  go_upto_region 3 with fail
  clear hst2
  have hid1 := tID_like (t := t) (u := t0 5) HF.out.ins HF.out.outs
  have htxb := txB_like (t := t) (u := t0 5) HF.out.ins HF.out.outs
  have htx1 : txE true t = 0 := (txE_like (u := t0 5) HF.out.ins HF.out.outs).trans e1
  have htx2 : txE false t = 120 := (txE_like (u := t0 5) HF.out.ins HF.out.outs).trans e2
  have hl64 : (txB t).length ≠ 64 := by rw [htxb]; exact e3
  have hl8 : (txB t).length ≤ 8000 := by rw [htxb]; decide +kernel
  have hz : tID t ≠ zeros 32 := by rw [hid1]; exact e4
  obtain ⟨Z, hZ⟩ : ∃ Z, Z = W.heap.size := ⟨_, rfl⟩
  have HZ : Hid (w.heap.size ≤ Z) := by rw [hZ]; exact HBW.out.size
  have hp1 : Hid (p1 < Z) := by rw [hZ]; exact z1
  have HZ2 : Hid (Z + 1 < W2.heap.size) := by rw [hZ]; exact HKB.out.lt
  rw [← hZ] at HBV HTV HKB ⊢
  have HBE0 : Hid (blkE ⟨hd0, some ⟨Z, 0, none⟩, 1, [t]⟩ = 40) := by
    show _ = _
    rw [blkE_one _ _ _ _ htx1 hd0_is hl64 hl8]
    exact if_neg hz
  obtain ⟨R, hRt⟩ : ∃ R, R = tID t := ⟨_, rfl⟩
  have hR : IsId R := by rw [hRt]; exact tID_is t
  have HRT := Lib.hid hRt
  have HBE1 : Hid (blkE ⟨withR hd0 R, some ⟨Z, 0, none⟩, 1, [t]⟩ = 0) := by
    show _ = _
    rw [blkE_one _ _ _ _ htx1 (withR_is hd0_is hR) hl64 hl8]
    exact if_pos hRt.symm
  have HRE1 : Hid (rootE R [t] = 0) := by
    show _ = _
    rw [rootE_one _ _ hl64]
    exact if_pos hRt.symm
  have HTX1 := Lib.hid htx1
  have HTX2 := Lib.hid htx2
  have HR := Lib.hid hR
  have HLD2 := Lib.hid (HLD.out.keep HB2.out)
  clear hid1 htxb htx1 htx2 hl64 hl8 hz hZ hR z1 hRt
  generalize hp2 : Z + 1 = p2 at *
  have hblk := cblock_any ⟨hd0, some ⟨Z, 0, none⟩, 1, [t]⟩ W2 ⟨HBV.out.1, HBV.out.2.1.mono (Nat.le_of_lt HZ2.out), fun x hx => (HBV.out.2.2 x hx).mono (Nat.le_of_lt HZ2.out)⟩ (fun x hx => by rw [List.mem_singleton.1 hx]; exact HF.out.fit) (by show 1 ≤ 40; decide) HLD2.out
  rw [HBE0.out] at hblk
  obtain ⟨A0, hA0⟩ : ∃ A, A = (blkL ⟨hd0, some ⟨Z, 0, none⟩, 1, [t]⟩).toArray := ⟨_, rfl⟩
  have hA69 : A0.size = 69 := by rw [hA0, List.size_toArray]; exact blkL_len hd0_is
  rw [← hA0] at hblk HKB
  have HA0 := Lib.hid hA0
  have hla := HLO.out W2 p2 A0 hA69 HKB.out
  have z2 := HKB.out.lt
  clear hA0 hA69
  have htl2 := HTL.out
  simp only [htl2]
  go_wp2_with fail
  refine hblk.mono ?_
  rintro e w3 ⟨rfl, hb3⟩
  have HK13 := Lib.hid (HK12.out.keep hb3)
  have HB3 := Lib.hid (below_step HB2.out HB2.out.size hb3)
  have HP3 : Hid (Below p2 W2 w3) := hb3.mono (Nat.le_of_lt HZ2.out)
  have HKB3 := Lib.hid (HKB.out.keep hb3)
  have c0 := HK13.out.cell 0
  have c1' := HK13.out.cell 1
  have z1 := HK13.out.lt
  clear hblk hb3 hla z2 htl2
  have BT3 : Below w3.heap.size w3 (w3.alloc (.cells #[.slice s1 1 c1, .slice s2 1 c2] 28)) := (Below.refl _ _).alloc (Nat.le_refl _) _
  have KT3 : Bk (w3.alloc (.cells #[.slice s1 1 c1, .slice s2 1 c2] 28)) w3.heap.size 28 (txL t).toArray := by
    unfold txL
    rw [HF.out.iv, HF.out.ov]
    exact Bk.new _ _ _
  have HTVa : Hid (∀ W, Below p2 W2 W → TxV W W.heap.size t) := by
    show ∀ _, _
    exact fun W h => (HTV.out.keep h (Nat.le_refl _)).mono (Nat.le_trans (Nat.le_of_lt HZ2.out) h.size)
  have hp3 : p2 ≤ w3.heap.size := Nat.le_trans (Nat.le_of_lt HZ2.out) HP3.out.size
  have hroot := troot_any (some ⟨w3.heap.size, 0, none⟩) 1 1 [t] _ (one_rowR' txR_ok KT3) rfl (fun x hx => by
    rw [List.mem_singleton.1 hx]
    exact ⟨HTVa.out _ (HP3.out.trans (BT3.mono hp3)), HF.out.fit⟩) ((HLD.out.keep HB3.out).keep BT3) (by decide)
  rw [List.map_cons, List.map_nil, rootV_one, ← HRT.out] at hroot
  obtain ⟨RA, hRA⟩ : ∃ RA, RA = idA R := ⟨_, rfl⟩
  change Calls _ _ _ _ (fun e w' => e = .returned (.tuple #[.agg (idA R), .bool false]) ∧ _) at hroot
  rw [← hRA] at hroot
  have HRA := Lib.hid hRA
  have HP4 := Lib.hid (HP3.out.trans (BT3.mono hp3))
  have HB4 := Lib.hid (below_step HB3.out HB3.out.size BT3)
  have HK14 := Lib.hid (HK13.out.keep BT3)
  have HKB4 := Lib.hid (HKB3.out.keep BT3)
  clear BT3 KT3 hRA hp3
  go_wp2_with fail
  refine hroot.mono ?_
  rintro e w5 ⟨rfl, hb5⟩
  have HP5 : Hid (Below p2 W2 w5) := HP4.out.trans (hb5.mono (Nat.le_trans (Nat.le_of_lt HZ2.out) HP4.out.size))
  have HB5 := Lib.hid (below_step HB4.out HB4.out.size hb5)
  have HK15 := Lib.hid (HK14.out.keep hb5)
  have HKB5 := Lib.hid (HKB4.out.keep hb5)
  have z2 := HKB5.out.lt
  have hth : w5.there p2 33 RA.size := there_at HKB5.out 33 _ (by rw [HRA.out, idA_size, HR.out.1, HA0.out, List.size_toArray, blkL_len hd0_is]; decide)
  have hin : (Tryd.prog.info? 23).map (·.size) = some RA.size := by rw [HRA.out, idA_size, HR.out.1]; kernel_rfl
  have ho : RA.all (·.oneCell') = true := by rw [HRA.out]; exact id_ones _
  clear hroot hb5 c0 c1' z1 HK14 HKB4
  go_upto_region 5 with (refine wpList_store_mid rfl 23 (.tmp 19) (.tmp 16) rfl p2 33 RA rfl rfl hth hin ho ?_)
  have hrl : RA.toList = R.map byteV := by rw [HRA.out, idA_toList']
  obtain ⟨A1, hA1⟩ : ∃ A, A = (blkL ⟨withR hd0 R, some ⟨Z, 0, none⟩, 1, [t]⟩).toArray := ⟨_, rfl⟩
  have hA69 : A1.size = 69 := by rw [hA1, List.size_toArray]; exact blkL_len (withR_is hd0_is HR.out)
  have hne : p2 ≠ p1 := by have := hp1.out; omega
  refine wp_any (fun W => Below w.heap.size w W ∧ Below p2 W2 W ∧ Bk W p1 28 #[.slice s1 1 c1, .slice s2 1 c2] ∧ Bk W p2 40 A1) ⟨?_, ?_, ?_, ?_⟩ ?_
  · exact Below.setCells (by have := HZ.out; omega) _ _ _ HB5.out
  · exact Below.setCells (Nat.le_refl _) _ _ _ HP5.out
  · exact rowFar HK15.out (fun e => hne e.symm) _ _
  · rw [hrl, hA1]
    have hk := HKB5.out
    rw [HA0.out] at hk
    exact set_root hd0_is HR.out hk
  clear hrl hth hin ho z2 HKB5 HK15 HB5 HP5
  rintro w6 ⟨hB6, hP6, hK16, hKB6⟩
  have HB6 := Lib.hid hB6
  have HP6 := Lib.hid hP6
  have HK16 := Lib.hid hK16
  have HKB6 := Lib.hid hKB6
  have c0 := hK16.cell 0
  have c1' := hK16.cell 1
  have z1 := hK16.lt
  have HA1 := Lib.hid hA1
  have HA69 := Lib.hid hA69
  obtain ⟨_, _, hOV, hOK⟩ := HTVa.out _ hP6
  rw [HF.out.ov, HF.out.outs] at hOV
  rw [HF.out.outs] at hOK
  have hsum := csum_any [out1 5] _ w6 hOV hOK
  rw [show osum 0 [out1 5] = (5, true) from by decide +kernel] at hsum
  clear hB6 hP6 hK16 hKB6 hA1 hA69 hOV hOK hne
  go_wp2_with fail
  refine hsum.mono ?_
  rintro e w7 ⟨rfl, hb7⟩
  have HB7 := Lib.hid (below_step HB6.out HB6.out.size hb7)
  have HP7 : Hid (Below p2 W2 w7) := HP6.out.trans (hb7.mono (Nat.le_trans (Nat.le_of_lt HZ2.out) HP6.out.size))
  have HK17 := Lib.hid (HK16.out.keep hb7)
  have HKB7 := Lib.hid (HKB6.out.keep hb7)
  have c0 := HK17.out.cell 0
  have c1' := HK17.out.cell 1
  have z1 := HK17.out.lt
  have htxa := ctx_any t true w7 (HTVa.out _ HP7.out)
  rw [HTX1.out] at htxa
  change Calls _ _ #[.agg #[t.iv, t.ov], _] _ _ at htxa
  rw [HF.out.iv, HF.out.ov] at htxa
  clear hb7 hsum
  go_upto_region 6 with fail
  have htl2 := HTL.out
  simp only [htl2]
  clear htl2
  go_wp2_with fail
  refine htxa.mono ?_
  rintro e w8 ⟨rfl, hb8⟩
  have HB8 := Lib.hid (below_step HB7.out HB7.out.size hb8)
  have HP8 : Hid (Below p2 W2 w8) := HP7.out.trans (hb8.mono (Nat.le_trans (Nat.le_of_lt HZ2.out) HP7.out.size))
  have HK18 := Lib.hid (HK17.out.keep hb8)
  have HKB8 := Lib.hid (HKB7.out.keep hb8)
  have c0 := HK18.out.cell 0
  have c1' := HK18.out.cell 1
  have z1 := HK18.out.lt
  have htxb := ctx_any t false w8 (HTVa.out _ HP8.out)
  rw [HTX2.out] at htxb
  change Calls _ _ #[.agg #[t.iv, t.ov], _] _ _ at htxb
  rw [HF.out.iv, HF.out.ov] at htxb
  clear hb8 htxa HK17 HKB7
  go_wp2_with fail
  refine htxb.mono ?_
  rintro e w9 ⟨rfl, hb9⟩
  have HB9 := Lib.hid (below_step HB8.out HB8.out.size hb9)
  have HP9 : Hid (Below p2 W2 w9) := HP8.out.trans (hb9.mono (Nat.le_trans (Nat.le_of_lt HZ2.out) HP8.out.size))
  have HKB9 := Lib.hid (HKB8.out.keep hb9)
  have HBVa : Hid (∀ W, Below p2 W2 W → BlkV W W.heap.size ⟨withR hd0 R, some ⟨Z, 0, none⟩, 1, [t]⟩) := by
    show ∀ _, _
    intro W h
    have hs := Nat.le_trans (Nat.le_of_lt HZ2.out) h.size
    exact ⟨withR_is hd0_is HR.out, (HBV.out.2.1.keep h (Nat.le_refl _)).mono hs, fun x hx => by rw [List.mem_singleton.1 hx]; exact HTVa.out W h⟩
  have hblk := cblock_any ⟨withR hd0 R, some ⟨Z, 0, none⟩, 1, [t]⟩ w9 (HBVa.out _ HP9.out) (fun x hx => by rw [List.mem_singleton.1 hx]; exact HF.out.fit) (by show 1 ≤ 40; decide) (HLD.out.keep HB9.out)
  rw [HBE1.out, ← HA1.out] at hblk
  have hla := HLO.out w9 p2 A1 HA69.out HKB9.out
  have z2 := HKB9.out.lt
  clear hb9 htxb HK18 HKB8 c0 c1' z1
  go_wp2_with fail
  refine hblk.mono ?_
  rintro e w10 ⟨rfl, hb10⟩
  have HB10 := Lib.hid (below_step HB9.out HB9.out.size hb10)
  have HP10 : Hid (Below p2 W2 w10) := HP9.out.trans (hb10.mono (Nat.le_trans (Nat.le_of_lt HZ2.out) HP9.out.size))
  have HKB10 := Lib.hid (HKB9.out.keep hb10)
  have hrt := croot_any ⟨withR hd0 R, some ⟨Z, 0, none⟩, 1, [t]⟩ w10 (HBVa.out _ HP10.out) (fun x hx => by rw [List.mem_singleton.1 hx]; exact HF.out.fit) (by show 1 ≤ 40; decide) (HLD.out.keep HB10.out)
  change Calls _ _ _ _ (fun r w' => r = .returned (.int .i64 (rootE R [t] : Nat)) ∧ _) at hrt
  rw [HRE1.out, ← HA1.out] at hrt
  have hla := HLO.out w10 p2 A1 HA69.out HKB10.out
  have z2 := HKB10.out.lt
  clear hb10 hblk
  go_wp2_with fail
  refine hrt.mono ?_
  rintro e w11 ⟨rfl, hb11⟩
  have HB11 := Lib.hid (below_step HB10.out HB10.out.size hb11)
  have hmk : Calls Tryd.prog 17 #[] w11 fun r w' => r = .returned (.agg (poL mkP).toArray) ∧ Below w11.heap.size w11 w' := maker_any w11
  have hfl : ∀ w, (Instr.field 54 (.agg (poL mkP).toArray) 1).run Tryd.prog w = .ok (.int .u32 4294967295) w := maker_ix
  generalize (poL mkP).toArray = PA at *
  clear hb11 hrt hla z2
  go_wp2_with fail
  refine hmk.mono ?_
  rintro e w12 ⟨rfl, hb12⟩
  have HB12 := Lib.hid (below_step HB11.out HB11.out.size hb12)
  clear hb12 hmk
  go_wp2_with fail
  go_ret
  exact ⟨rfl, HB12.out⟩
end Go.Proofs.YtmjiadfdmchhaaaDoor
