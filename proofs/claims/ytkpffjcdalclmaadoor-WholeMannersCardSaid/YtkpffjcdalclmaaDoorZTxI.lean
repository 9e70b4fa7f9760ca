/- Blocks: what they say, how they lie; the contract of package tx's Block. -/
import Derived.Test.YtkpffjcdalclmaaDoorZTxG
import Derived.Test.YtkpffjcdalclmaaDoorZHeaF
namespace Go.Proofs.YtkpffjcdalclmaaDoor
open Go.RowKit
set_option linter.unusedVariables false
set_option linter.unusedSimpArgs false
set_option maxRecDepth 100000
structure BlkM where
  hd : Hd
  ls : Option Addr
  lc : Nat
  txs : List TxM
def BlkM.lv (b : BlkM) : Value := .slice b.ls b.txs.length b.lc
def blkL (b : BlkM) : List Value := hdL b.hd ++ [b.lv]
def blkB (b : BlkM) : List Nat := hB b.hd ++ (countL b.txs.length ++ txsB b.txs)
def BlkV (w : World) (B : Nat) (b : BlkM) : Prop := IsHd b.hd ∧ RowV txR w B b.lv b.txs ∧ ∀ t ∈ b.txs, TxV w B t
theorem blkL_len {b : BlkM} (h : IsHd b.hd) : (blkL b).length = 69 := by unfold blkL; rw [List.length_append, hdL_length h]; rfl
theorem blk_68 {b : BlkM} (h : IsHd b.hd) : (blkL b).toArray[68]? = some b.lv := by
  unfold blkL
  rw [List.getElem?_toArray, List.getElem?_append_right (by rw [hdL_length h]; exact Nat.le_refl _), hdL_length h]
  rfl
theorem blk_head {w : World} {g : Nat} {b : BlkM} {t : TypeId} (K : Bk w g t (blkL b).toArray) : w.rangeAt g 0 (hdL b.hd) := by
  intro j v hv
  have h := K.range0 j v (by
    have hj := (List.getElem?_eq_some_iff.1 hv).1
    show (blkL b)[j]? = _
    unfold blkL
    rw [List.getElem?_append_left hj]
    exact hv)
  exact h
theorem txsB_lt {w : World} {B : Nat} {L : List TxM} (h : ∀ t ∈ L, TxV w B t) : ∀ x ∈ txsB L, x < 256 := by
  intro x hx
  unfold txsB at hx
  simp only [List.mem_flatten, List.mem_map] at hx
  obtain ⟨_, ⟨t, ht, rfl⟩, h1⟩ := hx
  exact (h t ht).lt x h1
theorem mine_bsn {W : World} {lo : Nat} {u : Value} {xs : List Nat} {S : Nat → Prop} (M : Mine W lo u xs) (hx : ∀ x ∈ xs, x < 256) (hS : ∀ k, lo ≤ k → k < W.heap.size → ¬ S k) : BsN W S u xs := by
  obtain ⟨s, cap, e, h1, h2, h3, h4⟩ := M.bs hx
  refine ⟨s, cap, e, h1, h2, h3, fun hne => ?_⟩
  obtain ⟨b, o, e2, hb, hc⟩ := h4 hne
  exact ⟨b, o, e2, hb, hS b (M.slb_lo (k := b) ⟨_, _, _, by rw [e, e2], rfl⟩).1 hb, hc⟩
theorem ht_blk : (56 : Nat) ≠ 5 := by decide
set_option maxHeartbeats 8000000 in
theorem tblock_any (b : BlkM) (w : World) (hV : BlkV w w.heap.size b) (hF : ∀ t ∈ b.txs, TxFit t) (hn : b.txs.length ≤ 40) :
    Calls Tryd.prog 61 #[.agg (blkL b).toArray] w fun e w' => ∃ v', e = .returned v' ∧ Mine w' w.heap.size v' (blkB b) ∧ Below w.heap.size w w' := by
  have HV := Lib.hid hV
  have HF := Lib.hid hF
  have HHD := Lib.hid hV.1
  have HBX : Hid (∀ x ∈ blkB b, x < 256) := by
    show ∀ x ∈ blkB b, x < 256
    intro x hx
    unfold blkB at hx
    simp only [List.mem_append] at hx
    rcases hx with h | h | h
    · exact hB_lt hV.1 x h
    · exact countL_lt _ x h
    · exact txsB_lt hV.2.2 x h
  have HTL : Hid ((txsB b.txs).length ≤ 44100000 * b.txs.length) := by
    have := txsB_le b.txs b.txs.length hF
    rw [List.take_length] at this
    exact this
  have HHL := Lib.hid (hB_length hV.1)
  have HHX := Lib.hid (hB_lt hV.1)
  have HHB : Hid (∀ W, Calls Tryd.prog 68 #[.agg (hdL b.hd).toArray] W fun e w' => ∃ v', e = .returned v' ∧ MineR byR w' W.heap.size v' (hB b.hd) ∧ Below W.heap.size W w') := fun W => hbytes_any b.hd W hV.1
  have HHN := Lib.hid (hdL_length hV.1)
  have h68 := blk_68 hV.1
  obtain ⟨n, hnn⟩ : ∃ n, n = b.txs.length := ⟨_, rfl⟩
  have HNN := Lib.hid hnn
  have h68 : (blkL b).toArray[68]? = some (.slice b.ls n b.lc) := by rw [hnn]; exact h68
  rw [← hnn] at hn
  have hhd := fun (W : World) (g : Nat) (K : Bk W g 56 (blkL b).toArray) => blk_head K
  have HHD2 := Lib.hid hhd
  obtain ⟨A, hA⟩ : ∃ A, A = (blkL b).toArray := ⟨_, rfl⟩
  rw [← hA] at h68 HHD2 ⊢
  have H68 := Lib.hid h68
  obtain ⟨HL, hHL⟩ : ∃ HL, HL = hdL b.hd := ⟨_, rfl⟩
  rw [← hHL] at HHB HHD2 HHN
  clear hV hF hnn hA hhd h68 hHL
  go_enter Tryd.func61, Tryd.ntmps61
  go_upto_region 2 with fail
  refine wp_any (fun W => Below w.heap.size w W ∧ Bk W w.heap.size 56 A ∧ Bk W (w.heap.size + 1) 104 #[.slice none 0 0] ∧ W.heap.size = w.heap.size + 2) ⟨((Below.refl _ _).alloc (Nat.le_refl _) _).alloc (by simp) _, (Bk.new _ _ _).alloc _, Bk.new' _ _ _ (by simp), by simp⟩ ?_
  rintro W ⟨hW, K0, KG, hsz⟩
  obtain ⟨g0, hg0⟩ : ∃ g0, g0 = w.heap.size := ⟨_, rfl⟩
  obtain ⟨g, hg⟩ : ∃ g, g = w.heap.size + 1 := ⟨_, rfl⟩
  have HG := Lib.hid (show g0 = w.heap.size ∧ g = w.heap.size + 1 ∧ W.heap.size = g + 1 ∧ g0 < g from ⟨hg0, hg, by omega, by omega⟩)
  rw [← hg] at KG ⊢
  rw [← hg0] at K0 ⊢
  have HW := Lib.hid hW
  have hne : g0 ≠ g := by omega
  have HNE := Lib.hid hne
  clear hsz hg0 hg hW hne
  have hrg := HHD2.out W g0 K0
  have hps : (Tryd.prog.info? 53).map (·.size) = some HL.length := by rw [HHN.out]; exact hd_info
  have z0 := K0.lt
  go_wp2_with (refine wpList_load_mid rfl 53 (.tmp 4) rfl g0 0 rfl HL _ hrg Tryd.underlying53 rfl hps ?_)
  refine (HHB.out W).mono ?_
  rintro e W1 ⟨v1, rfl, M1, hb1⟩
  have hbs1 := M1.bs HHX.out
  obtain ⟨s1, c1, rfl⟩ := M1.slice
  obtain ⟨l1, hl1⟩ : ∃ l1, l1 = (hB b.hd).length := ⟨_, rfl⟩
  rw [← hl1] at hbs1 ⊢
  have G1 := KG.keep hb1
  have K1 := K0.keep hb1
  have HW1 := Lib.hid (below_step HW.out HW.out.size hb1)
  have hsz1 : W.heap.size ≤ W1.heap.size := hb1.size
  have hA1 : Below W1.heap.size W1 (W1.alloc (.cells #[.slice s1 l1 c1] 32)) := (Below.refl _ _).alloc (Nat.le_refl _) _
  have MN : Mine (W1.alloc (.cells #[.slice s1 l1 c1] 32)) g (.slice none 0 0) [] := .inl ⟨rfl, rfl⟩
  have hA1' : Below W1.heap.size W1 (W1.alloc (.cells #[.slice s1 l1 c1] 32)) := hA1
  have hbn : BsN (W1.alloc (.cells #[.slice s1 l1 c1] 32)) (fun k => k = g ∨ slb (.slice none 0 0) k) (.slice s1 l1 c1) (hB b.hd) := by
    have M1' : Mine W1 W.heap.size (.slice s1 l1 c1) (hB b.hd) := by rw [hl1]; exact M1.mine
    refine mine_bsn (M1'.keep hA1') HHX.out (fun k hk _ => ?_)
    rintro (h | h)
    · have := HG.out; omega
    · exact slb_none _ _ _ h
  have HC := raw_any g g (some ⟨W1.heap.size, 0, none⟩) 1 [hB b.hd] [] (.slice none 0 0) (W1.alloc (.cells #[.slice s1 l1 c1] 32)) (G1.alloc _) MN (by have := HG.out; simp; omega) (by have := HHL.out; simp; omega) (by simp) (partsN_one hbn (Bk.new _ _ _) (by
    rintro (h | h)
    · have := HG.out; omega
    · exact slb_none _ _ _ h))
  simp only [List.flatten_cons, List.flatten_nil, List.append_nil, List.nil_append] at HC
  have HC := Lib.hid HC
  have S1 := Lib.hid (Ws.refl (G1.alloc (.cells #[.slice s1 l1 c1] 32)) MN)
  have HK1 := Lib.hid (K1.alloc (.cells #[.slice s1 l1 c1] 32))
  have HWA := Lib.hid (HW1.out.alloc HW1.out.size (.cells #[.slice s1 l1 c1] 32))
  have HMN := Lib.hid MN
  have HZ1 : Hid (g < (W1.alloc (.cells #[.slice s1 l1 c1] 32)).heap.size) := by show g < _; have := HG.out; simp; omega
  clear hbs1 G1 K1 hA1 hA1' MN hbn hsz1 hb1 M1 hl1 hrg hps z0 KG K0
  go_wp2_with fail
  refine HC.out.mono ?_
  rintro e W2 h
  have K2 := h.bk HMN.out HK1.out HNE.out ht_blk
  have HW2 := Lib.hid (HWA.out.trans (h.below HMN.out (B := w.heap.size) (by have := HG.out; omega) (by have := HG.out; omega) (by have := HG.out; have := HZ1.out; omega)))
  obtain ⟨rfl, v2, S2⟩ := S1.out.call h
  have HS2 := Lib.hid S2
  have d68 := (K2.cell 68).trans H68.out
  have z2 := K2.lt
  have hz2 : g < W2.heap.size := S2.G.lt
  have HK2 := Lib.hid K2
  clear h S2 K2 HC S1 HK1 HMN HZ1 HWA
  go_wp2_with fail
  refine (count_any g g n (hB b.hd) v2 W2 HS2.out.G HS2.out.M (by omega) (by have := HHL.out; omega)).mono ?_
  rintro e W3 h
  have K3 := h.bk HS2.out.M HK2.out HNE.out ht_blk
  have HW3 := Lib.hid (HW2.out.trans (h.below HS2.out.M (B := w.heap.size) (by have := HG.out; omega) (by have := HG.out; omega) (by have := HG.out; omega)))
  obtain ⟨rfl, v3, S3⟩ := HS2.out.call h
  have HS3 := Lib.hid S3
  have e68 := (K3.cell 68).trans H68.out
  have z3 := K3.lt
  have hz3 : g < W3.heap.size := S3.G.lt
  have HTA : Hid (TxsAt W3 (fun k => k = g ∨ slb v3 k) w.heap.size b.ls n b.txs) := by
    refine ⟨HNN.out, fun k hk => ?_⟩
    have hrow : RowV txR W3 w.heap.size (.slice b.ls b.txs.length b.lc) b.txs := HV.out.2.1.keep HW3.out (Nat.le_refl _)
    obtain ⟨t, bb, o, hkt, hs, hbb, hr⟩ := row_at hrow k (by have := HNN.out; omega)
    have ht := List.mem_of_getElem? hkt
    refine ⟨t, bb, o, hkt, hs, by have := HW3.out.size; omega, ?_, (HV.out.2.2 t ht).keep HW3.out (Nat.le_refl _), HF.out t ht, hr⟩
    rintro (h1 | h1)
    · have := HG.out; omega
    · have := (HS3.out.M.slb_lo h1).1
      have := HG.out
      omega
  have HCL := Lib.hid (countL_len n)
  have HP := Lib.hid (tput_any g g w.heap.size b.ls n b.lc b.txs (hB b.hd ++ countL n) v3 W3 S3.G S3.M (by omega) (by have := HG.out; omega) (by have := HG.out; omega) HTA.out (by have := HHL.out; have := HCL.out; rw [List.length_append]; omega))
  clear h S3 K3 HS2 HK2 d68 z2 hz2
  go_wp2_with fail
  refine HP.out.mono ?_
  rintro e W4 h
  have HW4 := Lib.hid (HW3.out.trans (h.below HS3.out.M (B := w.heap.size) (by have := HG.out; omega) (by have := HG.out; omega) (by have := HG.out; omega)))
  obtain ⟨rfl, v4, S4⟩ := HS3.out.call h
  have e4 : (hB b.hd ++ countL n) ++ txsB b.txs = blkB b := by
    unfold blkB
    rw [HNN.out, List.append_assoc]
  rw [e4] at S4
  have HS4 := Lib.hid S4
  have HBL : Hid ((blkB b).length ≤ 8000000000) := by
    show _ ≤ _
    have h1 := HTL.out
    have h2 := HHL.out
    have h3 := HCL.out
    have h5 := HNN.out
    rw [← e4, List.length_append, List.length_append]
    omega
  clear h S4 HP HTA e68 z3 hz3 HS3 e4
  go_wp2_with fail
  refine (bytes_any g g (blkB b) v4 W4 HS4.out.G HS4.out.M HBX.out HBL.out).mono ?_
  rintro e w' ⟨v', rfl, M', B'⟩
  have MM := M'.mono HW4.out.size
  have hw' := below_step HW4.out HW4.out.size B'
  obtain ⟨s', c', rfl⟩ := M'.slice
  have MM := Lib.hid MM
  clear M' B'
  go_wp2_with fail
  go_ret
  exact ⟨_, rfl, MM.out, hw'⟩
end Go.Proofs.YtkpffjcdalclmaaDoor
