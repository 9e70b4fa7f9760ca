/-
  What is read of a transaction, or a block, was written so; what is written of a block is read again.
-/
import Derived.Test.YtokiinpegclffaaDoorTxZ
import Derived.Test.YtokiinpegclffaaDoorWmb
namespace Go.Proofs.YtokiinpegclffaaDoor
open Go.RowKit
set_option linter.unusedVariables false
set_option linter.unusedSimpArgs false
set_option maxRecDepth 100000

theorem take_code (s : St) (n : Int) (h : s.2 ≠ 0) : (rdTake s n).2.2 ≠ 0 := by
  unfold rdTake
  split
  · exact h
  · show (if s.2 = 0 then 6 else s.2) ≠ 0
    rw [if_neg h]
    exact h
theorem cnt_code (s : St) (h : s.2 ≠ 0) : (rdCnt s).2.2 ≠ 0 := by
  unfold rdCnt
  have h1 : (rdNum s 1).2.2 ≠ 0 := take_code s 1 h
  split
  · exact take_code _ 2 h1
  · split
    · exact take_code _ 4 h1
    · split
      · exact take_code _ 8 h1
      · exact h1
theorem count_code (s : St) (m : Nat) (h : s.2 ≠ 0) : (rdCount s m).2.2 ≠ 0 := by
  unfold rdCount
  rw [if_pos (cnt_code s h)]
  exact cnt_code s h
/-- What is taken. -/
theorem take_eats (s : St) (k : Nat) (n : Int) (hn : n = k) (h : (rdTake s n).2.2 = 0) : s.2 = 0 ∧ (rdTake s n).1.length = k ∧ s.1 = (rdTake s n).1 ++ (rdTake s n).2.1 := by
  subst hn
  obtain ⟨a, b, c⟩ := take_ok s k h
  rw [c]
  exact ⟨a, by rw [List.length_take]; omega, (List.take_append_drop k s.1).symm⟩
theorem num_eats (s : St) (k : Nat) (n : Int) (hn : n = k) (hk : k ≤ 8) (hx : ∀ x ∈ s.1, x < 256) (h : (rdNum s n).2.2 = 0) : s.2 = 0 ∧ s.1 = toL (rdNum s n).1 k ++ (rdNum s n).2.1 := by
  subst hn
  obtain ⟨a, b, c⟩ := num_ok s k hk h
  have e := toL_ofL (s.1.take k) (fun x hx' => hx x (List.mem_of_mem_take hx'))
  rw [List.length_take, Nat.min_eq_left b] at e
  rw [c]
  refine ⟨a, ?_⟩
  show s.1 = toL (ofL (s.1.take k)) k ++ s.1.drop k
  rw [e]
  exact (List.take_append_drop k s.1).symm
theorem count_eats (s : St) (m : Nat) (hx : ∀ x ∈ s.1, x < 256) (h : (rdCount s m).2.2 = 0) : s.2 = 0 ∧ s.1 = countL (rdCount s m).1 ++ (rdCount s m).2.1 := by
  have h0 : s.2 = 0 := Decidable.byContradiction fun hc => count_code s m hc h
  obtain ⟨xs, e⟩ := s
  simp only at h0
  subst h0
  exact ⟨rfl, count_back xs m hx h⟩
theorem text_eats (s : St) (hx : StI s) (h : (rdText s 100).2.2 = 0) : s.2 = 0 ∧ s.1 = countL (rdText s 100).1.length ++ ((rdText s 100).1 ++ (rdText s 100).2.1) := by
  rw [text_route] at h ⊢
  rw [show (max (100 : Int) 0).toNat = 100 by decide] at h ⊢
  obtain ⟨a, b, c⟩ := take_eats _ _ _ rfl h
  obtain ⟨d, e⟩ := count_eats s 100 hx.2.2.1 a
  refine ⟨d, ?_⟩
  rw [b, ← c]
  exact e
theorem am64_i64of (n : Nat) (h : n < 18446744073709551616) : am64 (i64of n) = n := by
  unfold i64of am64
  simp [IntKind.wrap, IntKind.signed, IntKind.bits]
  omega
theorem in_eats (s : St) (x : InM) (hI : StI s) (hs : InSays s x) (h : (inSt s).2 = 0) : s.2 = 0 ∧ s.1 = inpB x ++ (inSt s).1 := by
  obtain ⟨h1, h2, h3⟩ := hs
  have d1 : inSt s = (rdText (inSt2 s) 100).2 := rfl
  have d2 : inSt2 s = (rdNum (inSt1 s) 4).2 := rfl
  have d3 : inSt1 s = (rdTake s 32).2 := rfl
  have i2 := inSt2_inv s hI
  have i1 := inSt1_inv s hI
  rw [d1] at h ⊢
  obtain ⟨a1, a2⟩ := text_eats (inSt2 s) i2 h
  have a1' : (rdNum (inSt1 s) 4).2.2 = 0 := by rw [← d2]; exact a1
  obtain ⟨b1, b2⟩ := num_eats (inSt1 s) 4 4 rfl (by omega) i1.2.2.1 a1'
  have b1' : (rdTake s 32).2.2 = 0 := by rw [← d3]; exact b1
  obtain ⟨c1, c2, c3⟩ := take_eats s 32 32 rfl b1'
  have e1 : x.tx.1 = (rdTake s 32).1 := h1.trans (idOf_whole _ c2)
  refine ⟨c1, ?_⟩
  unfold inpB
  rw [e1, h2, h3]
  rw [← d2] at b2
  rw [← d3] at c3
  simp only [List.append_assoc]
  rw [← a2, ← b2]
  exact c3
theorem out_eats (s : St) (x : OutM) (hI : StI s) (hs : OutSays s x) (h : (outSt s).2 = 0) : s.2 = 0 ∧ s.1 = outB x ++ (outSt s).1 := by
  obtain ⟨h1, h2⟩ := hs
  have d1 : outSt s = (rdTake (outSt1 s) 32).2 := rfl
  have d2 : outSt1 s = (rdNum s 8).2 := rfl
  rw [d1] at h ⊢
  obtain ⟨a1, a2, a3⟩ := take_eats (outSt1 s) 32 32 rfl h
  have a1' : (rdNum s 8).2.2 = 0 := by rw [← d2]; exact a1
  obtain ⟨b1, b2⟩ := num_eats s 8 8 rfl (by omega) hI.2.2.1 a1'
  have e1 : x.lock.1 = (rdTake (outSt1 s) 32).1 := h2.trans (idOf_whole _ a2)
  refine ⟨b1, ?_⟩
  unfold outB
  rw [e1, h1, am64_i64of _ (num8_lt s hI)]
  rw [← d2] at b2
  simp only [List.append_assoc]
  rw [← a3]
  exact b2
theorem insB_snoc (l : List InM) (x : InM) : insB (l ++ [x]) = insB l ++ inpB x := by unfold insB; simp
theorem outsB_snoc (l : List OutM) (x : OutM) : outsB (l ++ [x]) = outsB l ++ outB x := by unfold outsB; simp
theorem ins_eats (s : St) (l : List InM) (hI : StI s) (hs : InsSay s l) : ∀ k, k ≤ l.length → (inSts k s).2 = 0 → s.2 = 0 ∧ s.1 = insB (l.take k) ++ (inSts k s).1 := by
  intro k
  induction k with
  | zero => intro _ h; exact ⟨h, rfl⟩
  | succ k ih =>
    intro hk h
    have hl : l[k]? = some l[k] := List.getElem?_eq_getElem (by omega)
    obtain ⟨a, b⟩ := in_eats (inSts k s) l[k] (inSts_inv k s hI) (hs k _ hl) h
    obtain ⟨c, d⟩ := ih (by omega) a
    refine ⟨c, ?_⟩
    rw [List.take_add_one, hl]
    show s.1 = insB (l.take k ++ [l[k]]) ++ (inSt (inSts k s)).1
    rw [insB_snoc, List.append_assoc, ← b]
    exact d
theorem outs_eats (s : St) (l : List OutM) (hI : StI s) (hs : OutsSay s l) : ∀ k, k ≤ l.length → (outSts k s).2 = 0 → s.2 = 0 ∧ s.1 = outsB (l.take k) ++ (outSts k s).1 := by
  intro k
  induction k with
  | zero => intro _ h; exact ⟨h, rfl⟩
  | succ k ih =>
    intro hk h
    have hl : l[k]? = some l[k] := List.getElem?_eq_getElem (by omega)
    obtain ⟨a, b⟩ := out_eats (outSts k s) l[k] (outSts_inv k s hI) (hs k _ hl) h
    obtain ⟨c, d⟩ := ih (by omega) a
    refine ⟨c, ?_⟩
    rw [List.take_add_one, hl]
    show s.1 = outsB (l.take k ++ [l[k]]) ++ (outSt (outSts k s)).1
    rw [outsB_snoc, List.append_assoc, ← b]
    exact d
/-- What is read as a transaction was written so. -/
theorem tx_eats (s : St) (t : TxM) (hI : StI s) (hs : NextSays s t) (h : (nxSt s).2 = 0) : s.2 = 0 ∧ s.1 = txB t ++ (nxSt s).1 := by
  obtain ⟨h1, h2, h3, h4⟩ := hs
  have q0 : nxSt s = outSts (nxM s) (nxS3 s) := rfl
  have q1 : nxM s = (rdCount (nxS2 s) 32).1 := rfl
  have q2 : nxS3 s = (rdCount (nxS2 s) 32).2 := rfl
  have q3 : nxS2 s = inSts (nxN s) (nxS1 s) := rfl
  have q4 : nxN s = (rdCount s 32).1 := rfl
  have q5 : nxS1 s = (rdCount s 32).2 := rfl
  have i3 := nxS3_inv s hI
  have i2 := nxS2_inv s hI
  have i1 := nxS1_inv s hI
  obtain ⟨a1, a2⟩ := outs_eats (nxS3 s) t.outs i3 h4 t.outs.length (Nat.le_refl _) (by rw [h3, ← q0]; exact h)
  obtain ⟨b1, b2⟩ := count_eats (nxS2 s) 32 i2.2.2.1 (by rw [← q2]; exact a1)
  obtain ⟨c1, c2⟩ := ins_eats (nxS1 s) t.ins i1 h2 t.ins.length (Nat.le_refl _) (by rw [h1, ← q3]; exact b1)
  obtain ⟨d1, d2⟩ := count_eats s 32 hI.2.2.1 (by rw [← q5]; exact c1)
  refine ⟨d1, ?_⟩
  rw [List.take_length] at a2 c2
  unfold txB
  simp only [List.append_assoc]
  have e1 : (nxS3 s).1 = outsB t.outs ++ (nxSt s).1 := by rw [h3, ← q0] at a2; exact a2
  have e2 : (nxS2 s).1 = countL t.outs.length ++ (nxS3 s).1 := by rw [h3, q1, q2]; exact b2
  have e3 : (nxS1 s).1 = insB t.ins ++ (nxS2 s).1 := by rw [h1, ← q3] at c2; exact c2
  have e4 : s.1 = countL t.ins.length ++ (nxS1 s).1 := by rw [h1, q4, q5]; exact d2
  rw [← e1, ← e2, ← e3]
  exact e4
theorem txsB_cons (t : TxM) (l : List TxM) : txsB (t :: l) = txB t ++ txsB l := by unfold txsB; simp
theorem txsB_snoc (l : List TxM) (t : TxM) : txsB (l ++ [t]) = txsB l ++ txB t := by unfold txsB; simp
theorem txs_eats (s : St) (l : List TxM) (hI : StI s) (hs : TxsSay s l) : ∀ k, k ≤ l.length → (nxSts k s).2 = 0 → s.2 = 0 ∧ s.1 = txsB (l.take k) ++ (nxSts k s).1 := by
  intro k
  induction k with
  | zero => intro _ h; exact ⟨h, rfl⟩
  | succ k ih =>
    intro hk h
    have hl : l[k]? = some l[k] := List.getElem?_eq_getElem (by omega)
    obtain ⟨a, b⟩ := tx_eats (nxSts k s) l[k] (nxSts_inv k s hI) (hs k _ hl) h
    obtain ⟨c, d⟩ := ih (by omega) a
    refine ⟨c, ?_⟩
    rw [List.take_add_one, hl]
    show s.1 = txsB (l.take k ++ [l[k]]) ++ (nxSt (nxSts k s)).1
    rw [txsB_snoc, List.append_assoc, ← b]
    exact d
theorem rd_text_len (s : St) : (rdText s 100).1.length ≤ 100 := by
  rw [text_route]
  have h1 := take_len (rdCount s (max (100 : Int) 0).toNat).2 (rdCount s (max (100 : Int) 0).toNat).1
  have h2 := rdCount_le s (max (100 : Int) 0).toNat
  have h3 : (max (100 : Int) 0).toNat = 100 := by decide
  omega
/-- What is read is good. -/
theorem says_good {s : St} {u : TxM} (h : NextSays s u) : TxGood u := by
  refine ⟨by rw [h.1]; exact nxN_le s, by rw [h.2.2.1]; exact nxM_le s, fun x hx => ?_⟩
  obtain ⟨k, hk, rfl⟩ := List.mem_iff_getElem.1 hx
  have hS := h.2.1 k _ (List.getElem?_eq_getElem hk)
  rw [hS.2.2]
  exact rd_text_len _
theorem says_ok {s : St} {u : TxM} (hI : StI s) (h : NextSays s u) : (∀ x ∈ u.ins, x.ix < 4294967296) ∧ ∀ x ∈ u.outs, OutOk x := by
  refine ⟨fun x hx => ?_, fun x hx => ?_⟩
  · obtain ⟨k, hk, rfl⟩ := List.mem_iff_getElem.1 hx
    have hS := h.2.1 k _ (List.getElem?_eq_getElem hk)
    rw [hS.2.1]
    exact num4_lt _ (inSt1_inv _ (inSts_inv k _ (nxS1_inv s hI)))
  · obtain ⟨k, hk, rfl⟩ := List.mem_iff_getElem.1 hx
    have hS := h.2.2.2 k _ (List.getElem?_eq_getElem hk)
    unfold OutOk
    rw [hS.1]
    exact i64of_ok _
/-- A block that may be read again. -/
def BlkGood (b : BlkM) : Prop := IsHd b.hd ∧ b.txs.length ≤ 32 ∧ ∀ t ∈ b.txs, TxGood t ∧ (∀ x ∈ t.ins, x.ix < 4294967296) ∧ ∀ x ∈ t.outs, OutOk x
theorem txs_back (l : List TxM) (ys : List Nat) (h : ∀ t ∈ l, TxGood t ∧ (∀ x ∈ t.ins, x.ix < 4294967296) ∧ ∀ x ∈ t.outs, OutOk x) : ∀ k, k ≤ l.length → nxSts k (txsB l ++ ys, 0) = (txsB (l.drop k) ++ ys, 0) := by
  intro k
  induction k with
  | zero => intro _; rfl
  | succ k ih =>
    intro hk
    have e := ih (by omega)
    have hx := List.drop_eq_getElem_cons (show k < l.length by omega)
    have hm := h l[k] (List.getElem_mem _)
    show nxSt (nxSts k (txsB l ++ ys, 0)) = _
    rw [e, hx, txsB_cons, List.append_assoc]
    exact (tx_back _ _ hm.1 hm.2.1 hm.2.2).1
theorem hB_len80 {h : Hd} (hh : IsHd h) : (hB h).length = 80 := hB_length hh
theorem blk_back (b : BlkM) (ys : List Nat) (hg : BlkGood b) : rbSt (blkB b ++ ys) = (ys, 0) ∧ rbY (blkB b ++ ys) = hB b.hd ∧ rbN (blkB b ++ ys) = b.txs.length ∧ rbS2 (blkB b ++ ys) = (txsB b.txs ++ ys, 0) := by
  have e0 : blkB b ++ ys = hB b.hd ++ (countL b.txs.length ++ (txsB b.txs ++ ys)) := by unfold blkB; simp only [List.append_assoc]
  have h1 : rdTake (blkB b ++ ys, 0) 80 = (hB b.hd, (countL b.txs.length ++ (txsB b.txs ++ ys), 0)) := by rw [e0]; exact rdTake_app _ _ 0 80 (by rw [hB_len80 hg.1]; rfl)
  have hS1 : rbS1 (blkB b ++ ys) = (countL b.txs.length ++ (txsB b.txs ++ ys), 0) := by unfold rbS1; rw [h1]
  have h2 : rdCount (countL b.txs.length ++ (txsB b.txs ++ ys), 0) 32 = (b.txs.length, (txsB b.txs ++ ys, 0)) := rdCount_fits _ _ _ (by have := hg.2.1; omega) hg.2.1
  have hN : rbN (blkB b ++ ys) = b.txs.length := by unfold rbN; rw [hS1, h2]
  have hS2 : rbS2 (blkB b ++ ys) = (txsB b.txs ++ ys, 0) := by unfold rbS2; rw [hS1, h2]
  refine ⟨?_, by unfold rbY; rw [h1], hN, hS2⟩
  unfold rbSt
  rw [hN, hS2, txs_back _ _ hg.2.2 _ (Nat.le_refl _), List.drop_length]
  rfl
theorem blk_eats (xs : List Nat) (b : BlkM) (hI : StI (xs, 0)) (hs : BlkSays xs b) (h : (rbSt xs).2 = 0) : xs = blkB b ++ (rbSt xs).1 ∧ BlkGood b := by
  obtain ⟨h1, h2, h3⟩ := hs
  have hI1 : StI (rbS1 xs) := (take_inv (xs, 0) 80 hI).1
  have hI2 : StI (rbS2 xs) := count_inv _ 32 hI1
  have q0 : rbSt xs = nxSts (rbN xs) (rbS2 xs) := rfl
  have q1 : rbN xs = (rdCount (rbS1 xs) 32).1 := rfl
  have q2 : rbS2 xs = (rdCount (rbS1 xs) 32).2 := rfl
  have q3 : rbS1 xs = (rdTake (xs, 0) 80).2 := rfl
  have q4 : rbY xs = (rdTake (xs, 0) 80).1 := rfl
  obtain ⟨a1, a2⟩ := txs_eats (rbS2 xs) b.txs hI2 h3 b.txs.length (Nat.le_refl _) (by rw [h2, ← q0]; exact h)
  obtain ⟨b1, b2⟩ := count_eats (rbS1 xs) 32 hI1.2.2.1 (by rw [← q2]; exact a1)
  obtain ⟨c1, c2, c3⟩ := take_eats (xs, 0) 80 80 rfl (by rw [← q3]; exact b1)
  rw [← q4] at c2 c3
  rw [← q3] at c3
  have hY : (rbY xs).length = 80 := c2
  have hYl : ∀ y ∈ rbY xs, y < 256 := (take_inv (xs, 0) 80 hI).2.1
  have hh : b.hd = hOf (rbY xs) := by rw [h1]; unfold rbHd; rw [if_pos hY]
  have hhB : hB b.hd = rbY xs := by rw [hh]; exact hB_hOf hY hYl
  have hhd : IsHd b.hd := by rw [hh]; exact hOf_is hY hYl
  rw [List.take_length] at a2
  refine ⟨?_, hhd, by rw [h2]; exact rdCount_le _ 32, fun t ht => ?_⟩
  · unfold blkB
    rw [hhB]
    simp only [List.append_assoc]
    have e1 : (rbS2 xs).1 = txsB b.txs ++ (rbSt xs).1 := by rw [h2, ← q0] at a2; exact a2
    have e2 : (rbS1 xs).1 = countL b.txs.length ++ (rbS2 xs).1 := by rw [h2, q1, q2]; exact b2
    rw [← e1, ← e2]
    exact c3
  · obtain ⟨k, hk, rfl⟩ := List.mem_iff_getElem.1 ht
    have hS := h3 k _ (List.getElem?_eq_getElem hk)
    exact ⟨says_good hS, says_ok (nxSts_inv k _ hI2) hS⟩
/-- The beginning of a block's bytes is no block, nor are they with more behind. -/
theorem cut_bad (b b2 : BlkM) (cut : Nat) (hg : BlkGood b) (hx : ∀ x ∈ blkB b, x < 256) (hl : (blkB b).length ≤ 8192) (hc : cut < (blkB b).length) (hs : BlkSays ((blkB b).take cut) b2) (h : rdEnd (rbSt ((blkB b).take cut)) = 0) : False := by
  have hI : StI ((blkB b).take cut, 0) := ⟨by simp only [List.length_take]; omega, by simp only; omega, fun x h => hx x (List.mem_of_mem_take h), fun h => absurd rfl h⟩
  unfold rdEnd at h
  split at h
  · exact absurd h (by omega)
  rename_i hn
  have hlen : (rbSt ((blkB b).take cut)).1.length = 0 := by
    rcases Nat.eq_zero_or_pos (rbSt ((blkB b).take cut)).1.length with h0 | h0
    · exact h0
    · exact absurd ⟨h, h0⟩ hn
  obtain ⟨e1, hg2⟩ := blk_eats _ b2 hI hs h
  rw [List.length_eq_zero_iff.1 hlen, List.append_nil] at e1
  have e2 : blkB b = blkB b2 ++ (blkB b).drop cut := by rw [← e1]; exact (List.take_append_drop cut _).symm
  have h1 := (blk_back b [] hg).1
  have h2 := (blk_back b2 ((blkB b).drop cut) hg2).1
  rw [List.append_nil, e2, h2] at h1
  have h3 : (blkB b).drop cut = [] := congrArg Prod.fst h1
  have h4 := congrArg List.length h3
  rw [List.length_drop] at h4
  simp at h4
  omega
end Go.Proofs.YtokiinpegclffaaDoor
