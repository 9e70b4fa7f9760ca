/- The contract of package tx's ReadBlock. -/
import Derived.Test.YtkpffjcdalclmaaDoorZTxI
namespace Go.Proofs.YtkpffjcdalclmaaDoor
open Go.RowKit
set_option linter.unusedVariables false
set_option linter.unusedSimpArgs false
set_option maxRecDepth 100000
def rbY (xs : List Nat) : List Nat := (rdTake (xs, 0) 80).1
def rbS1 (xs : List Nat) : St := (rdTake (xs, 0) 80).2
def rbN (xs : List Nat) : Nat := (rdCount (rbS1 xs) 32).1
def rbS2 (xs : List Nat) : St := (rdCount (rbS1 xs) 32).2
def nxSts : Nat → St → St
  | 0, s => s
  | k + 1, s => nxSt (nxSts k s)
def rbSt (xs : List Nat) : St := nxSts (rbN xs) (rbS2 xs)
def rbHd (xs : List Nat) : Hd := if (rbY xs).length = 80 then hOf (rbY xs) else hd0
def TxsSay (s : St) (l : List TxM) : Prop := ∀ k t, l[k]? = some t → NextSays (nxSts k s) t
def BlkSays (xs : List Nat) (b : BlkM) : Prop := b.hd = rbHd xs ∧ b.txs.length = rbN xs ∧ TxsSay (rbS2 xs) b.txs
def MineB (W : World) (lo : Nat) (b : BlkM) : Prop := IsHd b.hd ∧ MineR txR W lo b.lv b.txs ∧ ∀ t ∈ b.txs, MineT W lo t
def blk0 : BlkM := ⟨hd0, none, 0, []⟩
theorem nxSts_inv (k : Nat) (s : St) (h : StI s) : StI (nxSts k s) := by
  induction k with
  | zero => exact h
  | succ k ih => exact nxSt_inv _ ih
theorem nxSts_shr (k : Nat) (s : St) : (nxSts k s).1.length ≤ s.1.length := by
  induction k with
  | zero => exact Nat.le_refl _
  | succ k ih => exact Nat.le_trans (nxSt_shr _) ih
theorem TxsSay.snoc {s : St} {l : List TxM} {x : TxM} (h : TxsSay s l) (hx : NextSays (nxSts l.length s) x) : TxsSay s (l ++ [x]) := by
  intro k y hk
  rcases Nat.lt_or_ge k l.length with hlt | hge
  · rw [List.getElem?_append_left hlt] at hk
    exact h k y hk
  · rw [List.getElem?_append_right hge] at hk
    match hj : k - l.length, hk with
    | 0, hk =>
      obtain rfl : x = y := by simpa using hk
      rw [show k = l.length by omega]
      exact hx
theorem MineT.keptR {w W : World} {lo : Nat} {t : TxM} (h : MineT w lo t) (hk : KeptR txR w W) : MineT W lo t := ⟨h.1.keptR hk (by decide), fun x hx => (h.2.1 x hx).keptR hk (by decide), h.2.2.keptR hk (by decide)⟩
theorem MineT.butT {W W' : World} {lo g : Nat} {ty : TypeId} {cs : Array Value} {t : TxM} (h : MineT W lo t) (hb : But (fun k => k = g) W W') (K : Bk W g ty cs) (h1 : ty ≠ inR.e) (h2 : ty ≠ outR.e) (h3 : ty ≠ 5) : MineT W' lo t := ⟨h.1.but' hb K h1, fun x hx => (h.2.1 x hx).but' hb K h3, h.2.2.but' hb K h2⟩
theorem hd0_hOf (ys : List Nat) (h : ∀ x ∈ ys, x < 256) : IsHd (if ys.length = 80 then hOf ys else hd0) := by
  split
  · rename_i h80
    exact hOf_is h80 h
  · exact hd0_is
theorem hread_any (v : Value) (ys : List Nat) (w : World) (hv : BsV w w.heap.size v ys) :
    Calls Tryd.prog 88 #[v] w fun e w' => ∃ c, e = .returned (.tuple #[.agg (hdL (if ys.length = 80 then hOf ys else hd0)).toArray, .int .i64 c]) ∧ Below w.heap.size w w' := by
  by_cases h : ys.length = 80
  · rw [if_pos h]
    exact (read_good v ys w hv h).mono fun e w' ⟨h1, h2⟩ => ⟨_, h1, h2⟩
  · rw [if_neg h]
    obtain ⟨s, c, rfl, _⟩ := hv
    exact (read_bad s ys.length c w h).mono fun e w' ⟨h1, h2⟩ => ⟨_, h1, h2⟩
theorem blk_infos : (Tryd.prog.info? 56).map (·.size) = some 69 := by kernel_rfl
theorem blk_size {b : BlkM} (h : IsHd b.hd) : (blkL b).toArray.size = 69 := by rw [List.size_toArray]; exact blkL_len h
theorem hdL_one (h : Hd) : ∀ v ∈ hdL h, v.oneCell' = true := fun v hv => by
  have := Array.all_eq_true_iff_forall_mem.1 (hdA_one h) v (by unfold hdA; simpa using hv)
  exact this
theorem blk_ones (b : BlkM) : (blkL b).toArray.all (·.oneCell') = true := all_oneCell_toArray (fun v hv => by
  unfold blkL at hv
  rcases List.mem_append.1 hv with h | h
  · exact hdL_one _ v h
  · rw [List.mem_singleton] at h
    subst h
    rfl)
theorem blk_put_hd (h h' : Hd) (k : IsHd h) (k' : IsHd h') (s : Option Addr) (c : Nat) (l : List TxM) : ovr (blkL ⟨h, s, c, l⟩).toArray 0 (hdL h') = (blkL ⟨h', s, c, l⟩).toArray := ovr_app _ _ _ (by rw [hdL_length k, hdL_length k'])
theorem blk_put_ls (h : Hd) (k : IsHd h) (s s' : Option Addr) (c c' : Nat) (l l' : List TxM) : (blkL ⟨h, s, c, l⟩).toArray.setIfInBounds 68 (.slice s' l'.length c') = (blkL ⟨h, s', c', l'⟩).toArray := set_app _ _ 68 0 _ (hdL_length k)
theorem blk_ret {P : Func} {a : Act} {W : World} {g nm k : Nat} {A : Array Value} {v : Value} (hp : P.results = #[ResultVar.cell nm 56, ResultVar.tmp k]) (hd : a.defers = []) (hv : a.tmps.getD nm undef = .pointer (some ⟨g, 0, none⟩)) (hk : a.tmps.getD k undef = v) (hs : A.size = 69) (hR : Bk W g 56 A) {K : Ending → World → Prop} (hK : K (.returned (.tuple #[.agg A, v])) W) :
    bodyPost Tryd.prog P K Exit.ret a W := by
  have h1 := run_loadVar_row (P := Tryd.prog) W g 56 56 A (0, 0) _ hR Tryd.underlying56 rfl (by rw [hs]; exact blk_infos)
  refine bodyPost_ret (v := .tuple #[.agg A, v]) ?_ hd hK
  rw [results_cell_tmp hp, hv, hk]
  show ((asAddr (.pointer (some ⟨g, 0, none⟩))).run Tryd.prog W).andThen _ = _
  simp only [asAddr, Sem.run_pure, Result.andThen_ok, h1]
theorem ne_in_blk : (56 : Nat) ≠ inR.e := by decide
theorem ne_out_blk : (56 : Nat) ≠ outR.e := by decide
theorem ne_tx_blk : (56 : Nat) ≠ txR.e := by decide
theorem zero_blk (w : World) : (zeroValue 56).run Tryd.prog w = .ok (.agg (blkL blk0).toArray) w := by kernel_rfl
set_option maxHeartbeats 4000000 in
theorem trb_long (s : Option Addr) (n c : Nat) (w : World) (h : 8192 < n) :
    Calls Tryd.prog 78 #[.slice s n c] w fun r w' => r = .returned (.tuple #[.agg (blkL blk0).toArray, .int .i64 2]) ∧ Below w.heap.size w w' := by
  have hz : (8192 : Int) < (n : Int) := by omega
  have hz2 : decide ((8192 : Int) < (n : Int)) = true := decide_eq_true hz
  have hzv := zero_blk
  have has : (blkL blk0).toArray.size = 69 := blk_size hd0_is
  have hone := blk_ones blk0
  generalize (blkL blk0).toArray = A0 at *
  go_enter Tryd.func78, Tryd.ntmps78
  go_upto_region 1 with fail
  refine wp_any (fun W => Below w.heap.size w W ∧ Bk W w.heap.size 56 A0) ⟨(Below.refl _ _).alloc (Nat.le_refl _) _, Bk.new _ _ _⟩ ?_
  obtain ⟨g2, hg2⟩ : ∃ g2, g2 = w.heap.size := ⟨_, rfl⟩
  have HG := Lib.hid hg2
  rw [← hg2]
  rintro W ⟨hW, K2⟩
  have HW := Lib.hid hW
  clear hg2 hW
  go_wp2_with (refine wpList_store_mid rfl 56 (.tmp 2) (.tmp 10) rfl g2 0 A0 rfl rfl (by rw [has]; exact K2.there 69 (by rw [has]; exact Nat.le_refl _)) (by rw [has]; exact blk_infos) hone ?_)
  exact blk_ret (g := g2) rfl rfl rfl rfl has (K2.setAll rfl) ⟨rfl, by rw [← HG.out]; exact Below.setCells (Nat.le_refl _) _ _ _ HW.out⟩
set_option maxHeartbeats 8000000 in
theorem trb_in (v : Value) (xs : List Nat) (w : World) (hb : BsV w w.heap.size v xs) (hl : xs.length ≤ 8192) (hx : ∀ x ∈ xs, x < 256) :
    Calls Tryd.prog 78 #[v] w fun r w' => ∃ b, r = .returned (.tuple #[.agg (blkL b).toArray, .int .i64 ((rdEnd (rbSt xs) : Nat) : Int)]) ∧ Below w.heap.size w w' ∧ (rdEnd (rbSt xs) = 0 → BlkSays xs b ∧ MineB w' w.heap.size b) ∧ (rdEnd (rbSt xs) ≠ 0 → b = blk0) := by
  have HB := Lib.hid hb
  have hI : StI (xs, 0) := ⟨by simp only; omega, by simp only; omega, hx, fun h => absurd rfl h⟩
  have HI1 : Hid (StI (rbS1 xs)) := (take_inv (xs, 0) 80 hI).1
  have HI2 : Hid (StI (rbS2 xs)) := count_inv _ 32 HI1.out
  have HYX : Hid (∀ x ∈ rbY xs, x < 256) := (take_inv (xs, 0) 80 hI).2.1
  have HH := Lib.hid (hd0_hOf (rbY xs) HYX.out)
  change Hid (IsHd (rbHd xs)) at HH
  obtain ⟨e0, he⟩ : ∃ e0, e0 = rdEnd (rbSt xs) := ⟨_, rfl⟩
  have HRD : Hid (∀ W, BsV W W.heap.size v xs → Calls Tryd.prog 74 #[v] W fun e w' => ∃ p v', e = .returned (.pointer (some ⟨p, 0, none⟩)) ∧ Rd w' p v' xs 0 ∧ Below W.heap.size W w' ∧ W.heap.size ≤ p ∧ ∀ k, slb v' k → W.heap.size ≤ k) := fun W h => read_any xs v W h (by omega) hx
  have HRW : Hid (∀ W p v1, RdS W p v1 (xs, 0) → Calls Tryd.prog 89 #[.pointer (some ⟨p, 0, none⟩), .int .i64 80] W fun r w' => ∃ u, r = .returned u ∧ Mine w' W.heap.size u (rbY xs) ∧ ∃ v', Took p v1 (rbS1 xs) W w' v') := fun W p v1 h => rraw_any p 80 v1 _ W h hI.ok
  have HHR : Hid (∀ W u, BsV W W.heap.size u (rbY xs) → Calls Tryd.prog 88 #[u] W fun e w' => ∃ c, e = .returned (.tuple #[.agg (hdL (rbHd xs)).toArray, .int .i64 c]) ∧ Below W.heap.size W w') := fun W u h => hread_any u _ W h
  have HCN : Hid (∀ W p v1, RdS W p v1 (rbS1 xs) → Calls Tryd.prog 90 #[.pointer (some ⟨p, 0, none⟩), .int .u64 32] W fun r w' => r = .returned (.int .u64 ((rbN xs : Nat) : Int)) ∧ ∃ v', Took p v1 (rbS2 xs) W w' v') := fun W p v1 h => rcount_any p 32 v1 _ W h HI1.out.ok
  have HNX : Hid (∀ j W p v1, RdS W p v1 (nxSts j (rbS2 xs)) → Calls Tryd.prog 91 #[.pointer (some ⟨p, 0, none⟩)] W fun r w' => ∃ t, r = .returned (.agg #[t.iv, t.ov]) ∧ NextSays (nxSts j (rbS2 xs)) t ∧ MineT w' W.heap.size t ∧ ∃ v', Took p v1 (nxSts (j + 1) (rbS2 xs)) W w' v') := fun j W p v1 h => tnext_any p v1 _ W h (nxSts_inv j _ HI2.out)
  have HEN : Hid (∀ W p v1, RdS W p v1 (rbSt xs) → Calls Tryd.prog 82 #[.pointer (some ⟨p, 0, none⟩)] W fun r w' => r = .returned (.int .i64 (e0 : Nat)) ∧ w' = W) := fun W p v1 h => by rw [he]; exact rend_any p v1 _ W h
  have hN : rbN xs ≤ 32 := rdCount_le _ 32
  have HD : Hid (nxSts (rbN xs) (rbS2 xs) = rbSt xs) := rfl
  have HS1 : Hid ((rbS1 xs).1.length ≤ xs.length) := take_shr (xs, 0) 80
  have HSJ : Hid (∀ j, (nxSts j (rbS2 xs)).1.length ≤ xs.length) := fun j => Nat.le_trans (nxSts_shr j _) (Nat.le_trans (count_shr _ 32) (take_shr (xs, 0) 80))
  rw [← he]
  obtain ⟨n, hn⟩ : ∃ n, n = rbN xs := ⟨_, rfl⟩
  have HNN := Lib.hid hn
  rw [← hn] at HCN HD hN
  obtain ⟨sv, cv, ev⟩ : ∃ s c, v = .slice s xs.length c := by obtain ⟨s, c, e, _⟩ := hb; exact ⟨s, c, e⟩
  obtain ⟨m, hm⟩ : ∃ m, m = xs.length := ⟨_, rfl⟩
  rw [← hm] at ev hl
  subst ev
  have hz : decide ((8192 : Int) < (m : Int)) = false := decide_eq_false (by omega)
  have hz1 : ¬ (8192 : Int) < (m : Int) := by omega
  have HM := Lib.hid hm
  clear hb hx hI he hn hm
  have has : (blkL blk0).toArray.size = 69 := blk_size hd0_is
  have hone := blk_ones blk0
  obtain ⟨A0, hA0⟩ : ∃ A0, A0 = (blkL blk0).toArray := ⟨_, rfl⟩
  have HA0 := Lib.hid hA0
  rw [← hA0] at has hone
  have hzv : ∀ w, (zeroValue 56).run Tryd.prog w = .ok (.agg A0) w := by rw [hA0]; exact zero_blk
  have HAS := Lib.hid has
  clear hA0
  go_enter Tryd.func78, Tryd.ntmps78
  go_upto_region 1 with fail
  refine wp_any (fun W => Below w.heap.size w W ∧ Bk W w.heap.size 56 A0) ⟨(Below.refl _ _).alloc (Nat.le_refl _) _, Bk.new _ _ _⟩ ?_
  obtain ⟨g2, hg2⟩ : ∃ g2, g2 = w.heap.size := ⟨_, rfl⟩
  have HG := Lib.hid hg2
  rw [← hg2]
  clear hg2
  rintro W ⟨hW, K2⟩
  have HW : Hid (Below w.heap.size w W) := by rw [← HG.out]; exact hW
  have HB1 := Lib.hid ((HB.out.keep HW.out (Nat.le_refl _)).mono HW.out.size)
  clear hW
  go_wp2_with fail
  refine (HRD.out W HB1.out).mono ?_
  rintro e1 W1 ⟨p, v1, rfl, R1, B1, hp, hv1⟩
  have hn2 : ¬ g2 = p := by have := K2.lt; omega
  have HP : Hid (w.heap.size ≤ p) := Nat.le_trans HW.out.size hp
  have K2 := K2.keep B1
  have HW1 := Lib.hid (below_step HW.out HW.out.size B1)
  have HR1 : Hid (RdS W1 p v1 (xs, 0)) := R1
  clear B1 hp hv1 R1 HB1 HRD
  go_upto_region 5 with fail
  have hA : Below W1.heap.size W1 (W1.alloc (.cells A0 56)) := (Below.refl _ _).alloc (Nat.le_refl _) _
  have hpl : p < W1.heap.size := HR1.out.1.lt
  have T0 : Took p v1 (xs, 0) W1 (W1.alloc (.cells A0 56)) v1 := (Took.refl HR1.out).far HR1.out (Nat.le_refl _) hA
  refine wp_any (fun W => Took p v1 (xs, 0) W1 W v1 ∧ Bk W g2 56 A0 ∧ Bk W W1.heap.size 56 A0) ⟨T0, K2.keep hA, Bk.new _ _ _⟩ ?_
  have hn5 : ¬ W1.heap.size = p := by omega
  have h25 : g2 ≠ W1.heap.size := by have := K2.lt; omega
  obtain ⟨g5, hg5⟩ : ∃ g5, g5 = W1.heap.size := ⟨_, rfl⟩
  have HG5 := Lib.hid hg5
  rw [← hg5] at hn5 h25 ⊢
  clear hA T0 K2 hg5 HW
  rintro W ⟨T, K2, K5⟩
  have HT := Lib.hid T
  have HGL : Hid (w.heap.size ≤ g2 ∧ w.heap.size ≤ g5) := ⟨by rw [HG.out]; exact Nat.le_refl _, by rw [HG5.out]; exact HW1.out.size⟩
  clear T
  go_wp2_with fail
  refine (HRW.out W p v1 HT.out.1).mono ?_
  rintro e1 W2 ⟨u, rfl, MU, v2, T2⟩
  have K2 := T2.2.1.keep K2 hn2
  have K5 := T2.2.1.keep K5 hn5
  have T2 := Lib.hid (HT.out.trans T2)
  have HU := Lib.hid (MU.bs HYX.out)
  clear HT HRW MU
  go_wp2_with fail
  refine (HHR.out W2 u HU.out).mono ?_
  rintro e1 W3 ⟨c3, rfl, hb3⟩
  have K2 := K2.keep hb3
  have K5 := K5.keep hb3
  have T3 := Lib.hid (T2.out.far HR1.out HS1.out (hb3.mono T2.out.size))
  clear T2 HU HHR hb3
  go_upto_region 6 with (refine wpList_store_mid rfl 53 (.tmp 19) (.tmp 17) rfl g5 0 (hdL (rbHd xs)).toArray rfl rfl (by rw [List.size_toArray, hdL_length HH.out]; exact K5.there 68 (by rw [HAS.out]; decide)) (by rw [List.size_toArray, hdL_length HH.out]; exact hd_info) (all_oneCell_toArray (hdL_one _)) ?_)
  have hB : Below W1.heap.size W3 (W3.setCells g5 0 (hdL (rbHd xs)).toArray.toList) := Below.setCells (by rw [HG5.out]; exact Nat.le_refl _) _ _ _ (Below.refl _ _)
  refine wp_any (fun W => Took p v1 (rbS1 xs) W1 W v2 ∧ Bk W g2 56 A0 ∧ Bk W g5 56 (blkL ⟨rbHd xs, none, 0, []⟩).toArray) ⟨T3.out.far HR1.out HS1.out hB, rowFar K2 h25 _ _, by
    have := Bk.ovr_ (w := W3) (hdL (rbHd xs)) 0 W3 _ K5
    rw [HA0.out, show blk0 = ⟨hd0, none, 0, []⟩ from rfl, blk_put_hd _ _ hd0_is HH.out] at this
    exact this⟩ ?_
  clear T3 K2 K5 hB
  rintro W ⟨T, K2, K5⟩
  have HT := Lib.hid T
  clear T
  go_wp2_with fail
  refine (HCN.out W p v2 HT.out.1).mono ?_
  rintro e1 W4 ⟨rfl, v4, T4⟩
  have K2 := T4.2.1.keep K2 hn2
  have K5 := T4.2.1.keep K5 hn5
  have T4 := Lib.hid (HT.out.trans T4)
  clear HT HCN
  go_upto_region 7 with fail
  go_loopw [22] (fun i wr => ∃ (j : Nat) (vj : Value) (si : Option Addr) (ci : Nat) (ts : List TxM), j ≤ n ∧ i = .int .u64 j ∧ Hid (Took p v1 (nxSts j (rbS2 xs)) W1 wr vj) ∧ Bk wr g2 56 A0 ∧ Bk wr g5 56 (blkL ⟨rbHd xs, si, ci, ts⟩).toArray ∧ Hid (MineR txR wr W1.heap.size (.slice si j ci) ts ∧ ts.length = j ∧ (∀ t ∈ ts, MineT wr W1.heap.size t) ∧ TxsSay (rbS2 xs) ts)) (fun i _ => n - (intOf i).toNat)
  case atStart => exact ⟨0, v4, none, 0, [], Nat.zero_le _, rfl, T4, K2, K5, .inl ⟨rfl, rfl⟩, rfl, (fun x hx => by cases hx), (fun k x hk => by simp at hk)⟩
  case round =>
    obtain ⟨j, vj, si, ci, ts, hj, rfl, HT, J2, J5, HX⟩ := hrel
    clear T4 K2 K5
    by_cases hlt : j < n
    · have j1 : decide ((j : Int) < (n : Int)) = true := decide_eq_true (by omega)
      have c0 : wr.cell? ⟨g5, 68, none⟩ = some (.slice si j ci) := by
        have := (J5.cell 68).trans (blk_68 (b := ⟨rbHd xs, si, ci, ts⟩) HH.out)
        unfold BlkM.lv at this
        rw [this, ← HX.out.2.1]
      have z5 := J5.lt
      have HTD := Lib.hid (HT.out.far HR1.out (HSJ.out j) ((Below.refl _ _).drew))
      have HC := Lib.hid (HNX.out j wr.drew p vj HTD.out.1)
      have HJ2 := Lib.hid J2
      have HJ5 := Lib.hid J5
      have HLW : Hid (W1.heap.size ≤ wr.heap.size) := HT.out.size
      clear J2 J5
      go_upto_region 8 with fail
      go_region_law (first
        | (have B7 : Below w6.heap.size w6 (w6.alloc (.cells #[.slice sa na ca, .slice sb nb cb] 89)) := (Below.refl _ _).alloc (Nat.le_refl _) _
           have R7 := one_rowR' (x := t) txR_ok (w := w6.alloc (.cells #[.slice sa na ca, .slice sb nb cb] 89)) (g := w6.heap.size) (t := 89) (by show Bk _ _ _ #[t.iv, t.ov]; rw [HAB.out.1, HAB.out.2]; exact Bk.new _ _ _)
           have X7 := HX6.out.1.keep B7
           refine step_appR txR_ok ts [t] W1.heap.size rfl (.tmp 25) (.tmp 28) rfl rfl rfl rfl X7 (Nat.le_trans HZ6.out B7.size) R7 (by have := HX6.out.2.1; simp; omega) ?_
           rintro v8 W8 M8 B8 U8
           have KP := KeptR.app X7 U8
           have K8 := KP _ _ _ ne_tx_blk (K6.alloc (.cells #[.slice sa na ca, .slice sb nb cb] 89))
           have K8b := KP _ _ _ ne_tx_blk (K6b.alloc (.cells #[.slice sa na ca, .slice sb nb cb] 89))
           have T8 := T6.out.far HR1.out (HSJ.out (j + 1)) ((B7.mono HZ6b.out).trans B8)
           have Y8 := Lib.hid (show (∀ y ∈ ts, MineT W8 W1.heap.size y) ∧ MineT W8 W1.heap.size t from ⟨fun y hy => ((HX6.out.2.2.1 y hy).keep B7).keptR KP, (HK6.out.keep B7).keptR KP⟩)
           obtain ⟨s8, e8, hv8⟩ := M8.slice
           have hl8 : (ts ++ [t]).length = j + 1 := by have := HX6.out.2.1; simp; omega
           rw [hl8] at hv8
           subst hv8
           have M8 := Lib.hid M8
           have T8 := Lib.hid T8
           have c8 : W8.cell? ⟨g5, 68, none⟩ = some (.slice si j ci) := by
             have := (K8.cell 68).trans (blk_68 (b := ⟨rbHd xs, si, ci, ts⟩) HH.out)
             unfold BlkM.lv at this
             rw [this, ← HX6.out.2.1]
           have f8 := K8.frozen 68
           have z8 := K8.lt
           clear KP)
        | (go_simp
           go_at_call 91
           refine (HC.out).mono ?_
           rintro e w6 ⟨t, he6, hsx, M6, v6, T6⟩
           obtain ⟨sa, na, ca, ha⟩ : ∃ s n c, t.iv = .slice s n c := ⟨_, _, _, rfl⟩
           obtain ⟨sb, nb, cb, hb⟩ : ∃ s n c, t.ov = .slice s n c := ⟨_, _, _, rfl⟩
           have HAB := Lib.hid (show t.iv = .slice sa na ca ∧ t.ov = .slice sb nb cb from ⟨ha, hb⟩)
           rw [ha, hb] at he6
           subst he6
           clear ha hb
           have K6 := T6.2.1.keep HJ5.out.drew hn5
           have K6b := T6.2.1.keep HJ2.out.drew hn2
           have HX6 : Hid (MineR txR w6 W1.heap.size (.slice si j ci) ts ∧ ts.length = j ∧ (∀ t ∈ ts, MineT w6 W1.heap.size t) ∧ TxsSay (rbS2 xs) ts) := by
             refine ⟨?_, HX.out.2.1, fun y hy => ?_, HX.out.2.2.2⟩
             · exact (HX.out.1.keep ((Below.refl _ _).drew)).but' T6.2.1 HTD.out.1.1 (by decide)
             · exact ((HX.out.2.2.1 y hy).keep ((Below.refl _ _).drew)).butT T6.2.1 HTD.out.1.1 (by decide) (by decide) (by decide)
           have HK6 := Lib.hid (M6.mono (show W1.heap.size ≤ wr.drew.heap.size from HLW.out))
           have HZ6 : Hid (W1.heap.size ≤ w6.heap.size) := Nat.le_trans HLW.out T6.size
           have HS6 := Lib.hid hsx
           have T6 := Lib.hid (HTD.out.trans T6)
           have HZ6b : Hid (W1.heap.size ≤ w6.heap.size) := T6.out.size
           have c6 : w6.cell? ⟨g5, 68, none⟩ = some (.slice si j ci) := by
             have := (K6.cell 68).trans (blk_68 (b := ⟨rbHd xs, si, ci, ts⟩) HH.out)
             unfold BlkM.lv at this
             rw [this, ← HX6.out.2.1]
           have c7 : (w6.alloc (.cells #[.slice sa na ca, .slice sb nb cb] 89)).cell? ⟨g5, 68, none⟩ = some (.slice si j ci) := by
             have := ((K6.alloc (.cells #[.slice sa na ca, .slice sb nb cb] 89)).cell 68).trans (blk_68 (b := ⟨rbHd xs, si, ci, ts⟩) HH.out)
             unfold BlkM.lv at this
             rw [this, ← HX6.out.2.1]
           clear M6 hsx))
      all_goals
        have HE : Hid (Took p v1 (nxSts (j + 1) (rbS2 xs)) W1 (W8.setCell ⟨g5, 68, none⟩ (.slice s8 (j + 1) e8)) v6 ∧ Bk (W8.setCell ⟨g5, 68, none⟩ (.slice s8 (j + 1) e8)) g2 56 A0 ∧ Bk (W8.setCell ⟨g5, 68, none⟩ (.slice s8 (j + 1) e8)) g5 56 (blkL ⟨rbHd xs, s8, e8, ts ++ [t]⟩).toArray ∧ (MineR txR (W8.setCell ⟨g5, 68, none⟩ (.slice s8 (j + 1) e8)) W1.heap.size (.slice s8 (j + 1) e8) (ts ++ [t]) ∧ (ts ++ [t]).length = j + 1 ∧ (∀ y ∈ ts ++ [t], MineT (W8.setCell ⟨g5, 68, none⟩ (.slice s8 (j + 1) e8)) W1.heap.size y) ∧ TxsSay (rbS2 xs) (ts ++ [t]))) := by
          have hb := But.set_ (S := fun k => k = g5) (But.refl _ W8) (.inl rfl) 68 none (.slice s8 (j + 1) e8)
          refine ⟨T8.out.far HR1.out (HSJ.out (j + 1)) ((Below.refl _ _).setCell (by rw [HG5.out]; exact Nat.le_refl _) _), K8b.far h25 _, ?_, M8.out.but' hb K8 ne_tx_blk, hl8, fun y hy => ?_, HX6.out.2.2.2.snoc (by rw [HX6.out.2.1]; exact HS6.out)⟩
          · have h1 := K8.set_ 68 (.slice s8 (ts ++ [t]).length e8)
            rw [blk_put_ls _ HH.out, hl8] at h1
            exact h1
          · rcases List.mem_append.1 hy with h | h
            · exact (Y8.out.1 y h).butT hb K8 ne_in_blk ne_out_blk ht_blk
            · rw [List.mem_singleton] at h
              subst h
              exact Y8.out.2.butT hb K8 ne_in_blk ne_out_blk ht_blk
        clear HX HT HTD HC HJ2 HJ5
        go_wp2_with fail
        go_roundw
        case rel => exact ⟨j + 1, v6, s8, e8, ts ++ [t], by omega, by go_num, HE.out.1, HE.out.2.1, HE.out.2.2.1, HE.out.2.2.2⟩
        case measure => simp [intOf]; omega
    · obtain rfl : j = n := by omega
      have j1 : decide ((j : Int) < (j : Int)) = false := decide_eq_false (by omega)
      rw [HD.out] at HT
      clear hlt
      have HJ2 := Lib.hid J2
      have HJ5 := Lib.hid J5
      have hE := HEN.out wr p vj HT.out.1
      have HWE : Hid (Below w.heap.size w wr) := HW1.out.trans (HT.out.2.1.below HW1.out.size (fun k hk => by have e : k = p := hk; rw [e]; exact HP.out))
      obtain ⟨b, hb⟩ : ∃ b : BlkM, b = ⟨rbHd xs, si, ci, ts⟩ := ⟨_, rfl⟩
      have HBS : Hid (IsHd b.hd ∧ BlkSays xs b) := by
        rw [hb]
        exact ⟨HH.out, rfl, by show ts.length = _; rw [HX.out.2.1]; exact HNN.out, HX.out.2.2.2⟩
      have HBM : Hid (∀ W', But (fun k => k = g2) wr W' → MineB W' w.heap.size b) := by
        show ∀ W', _
        intro W' h
        rw [hb]
        refine ⟨HH.out, ?_, fun y hy => ((HX.out.2.2.1 y hy).butT h J2 ne_in_blk ne_out_blk ht_blk).mono HW1.out.size⟩
        have h1 := (HX.out.1.but' h J2 ne_tx_blk)
        show MineR txR W' w.heap.size (.slice si ts.length ci) ts
        rw [HX.out.2.1]
        rcases h1 with h2 | ⟨T, cap, z, e, hc, hc2, hT, K⟩
        · exact .inl h2
        · exact .inr ⟨T, cap, z, e, hc, hc2, Nat.le_trans HW1.out.size hT, K⟩
      have J5 : Bk wr g5 56 (blkL b).toArray := by rw [hb]; exact J5
      clear HX hb HJ5 HT
      go_wp2_with fail
      refine hE.mono ?_
      rintro e1 W' ⟨rfl, rfl⟩
      clear hE
      by_cases h0 : e0 = 0
      · have hbe : (((e0 : Nat) : Int) != 0) = false := by rw [h0]; rfl
        have HZ := Lib.hid h0
        clear h0
        go_wp2_with (first | (refine wpList_load_row rfl 56 (.tmp 5) rfl g5 rfl 56 (blkL b).toArray (0, 0) _ J5 Tryd.underlying56 rfl (by rw [blk_size HBS.out.1]; exact blk_infos) ?_) | (refine wpList_store_mid rfl 56 (.tmp 2) (.tmp 38) rfl g2 0 (blkL b).toArray rfl rfl (by rw [blk_size HBS.out.1]; exact HJ2.out.there 69 (by rw [HAS.out]; exact Nat.le_refl _)) (by rw [blk_size HBS.out.1]; exact blk_infos) (blk_ones _) ?_))
        refine blk_ret (g := g2) (A := (blkL b).toArray) rfl rfl rfl rfl (blk_size HBS.out.1) (HJ2.out.setAll ((blk_size HBS.out.1).trans HAS.out.symm)) ⟨b, (by rw [HZ.out]; rfl), Below.setCells HGL.out.1 _ _ _ HWE.out, fun _ => ⟨HBS.out.2, HBM.out _ (But.setCells (S := fun k => k = g2) rfl _ _ _ (But.refl _ _))⟩, fun h => absurd HZ.out h⟩
      · have hbe : (((e0 : Nat) : Int) != 0) = true := by simp; omega
        have HZ := Lib.hid h0
        clear h0
        go_wp2_with (refine wpList_store_mid rfl 56 (.tmp 2) (.tmp 36) rfl g2 0 A0 rfl rfl (by rw [HAS.out]; exact HJ2.out.there 69 (by rw [HAS.out]; exact Nat.le_refl _)) (by rw [HAS.out]; exact blk_infos) hone ?_)
        exact blk_ret (g := g2) (A := A0) rfl rfl rfl rfl HAS.out (HJ2.out.setAll rfl) ⟨blk0, (by rw [HA0.out]; rfl), Below.setCells HGL.out.1 _ _ _ HWE.out, fun h => absurd h HZ.out, fun _ => rfl⟩
end Go.Proofs.YtkpffjcdalclmaaDoor
