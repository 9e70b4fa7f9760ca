/-
  What is proved: for every block and every slice of bytes the law TxBlocks returns true, and its arguments read behind the call as they read before it; the two listed tables of package hash are taken to hold what the program's text lays in them, and the card ties them to it.
-/
import Derived.Test.YtokiinpegclffaaDoorTxZ
import Derived.Test.YtokiinpegclffaaDoorTxT
import Derived.Test.YtokiinpegclffaaDoorBlkP
import Derived.Test.YtokiinpegclffaaDoorTnb
import Derived.Test.YtokiinpegclffaaDoorTbr
import Derived.Test.YtokiinpegclffaaDoorTie
import Derived.Test.YtokiinpegclffaaDoorCards
import Derived.Stop.Joined
namespace Go.Proofs.YtokiinpegclffaaDoor.txBlocks
open Go.ChangeShapes Go.WideShapes Go.ChangeAt Go.RowKit
set_option linter.unusedVariables false

theorem own : ownKnob Tryd.prog.godebug = none := by kernel_rfl
theorem laidOut : laidOutB Tryd.prog = true := by kernel_rfl
theorem wf_i64 {z : Int} (h : (Lit.int .i64 z).wf = true) : -9223372036854775808 ≤ z ∧ z ≤ 9223372036854775807 := by
  simp [Lit.wf, IntKind.min, IntKind.max, IntKind.signed, IntKind.bits] at h
  omega
set_option linter.unusedSimpArgs false
set_option maxRecDepth 100000
theorem blk_aggB (w : World) : (isAgg 56).run Tryd.prog w = .ok true w := by kernel_rfl
theorem blk_sizeB (w : World) : (sizeOf 56).run Tryd.prog w = .ok 69 w := by kernel_rfl
set_option maxHeartbeats 8000000 in
theorem region12 {t0 t1 t3 t4 t5 t6 t8 t9 t10 t11 t12 t13 t14 t15 t16 t17 t18 t19 t20 t21 t22 t23 t24 t25 t26 t27 t28 t29 t30 t31 t32 t33 t34 t35 t36 t37 t38 t39 t40 t41 t42 t43 t44 t45 t46 t47 t48 t49 t50 t51 t52 t53 t54 t55 t56 t57 t58 t59 t60 t61 t62 t63 t64 t65 t66 t67 t68 t69 t70 t71 t72 t73 t74 t75 t76 t77 t78 t79 t80 t81 t82 t83 t84 t85 : Value} {Q : Exit → Act → World → Prop} (V : World) (g1 m7 c7 : Nat) (s7 : Option Addr) (st : ByteArray) (L : List Value) (A : Array Value) (hA : L.toArray = A) (h69 : L.length = 69) (hrg : V.rangeAt g1 0 L) (hg : g1 < V.heap.size)
    (hcv : ∀ w', Below V.heap.size V w' → (convert 33 9 (.slice s7 m7 c7)).run Tryd.prog w' = .ok (.string st) w')
    (HRB : Hid (∀ W, Below V.heap.size V W → Calls Tryd.prog 29 #[.agg A] W fun e w' => e = .returned (.string st) ∧ Below W.heap.size W w'))
    (hQ : ∀ (x36 x37 x38 x39 : Value) (w' : World), Below V.heap.size V w' → Q .normal { tmps := List.toArray (t0 :: t1 :: .pointer (some ⟨g1, 0, none⟩) :: t3 :: t4 :: t5 :: t6 :: .slice s7 m7 c7 :: t8 :: t9 :: t10 :: t11 :: t12 :: t13 :: t14 :: t15 :: t16 :: t17 :: t18 :: t19 :: t20 :: t21 :: t22 :: t23 :: t24 :: t25 :: t26 :: t27 :: t28 :: t29 :: t30 :: t31 :: t32 :: t33 :: t34 :: t35 :: x36 :: x37 :: x38 :: x39 :: .bool false :: t41 :: t42 :: t43 :: t44 :: t45 :: t46 :: t47 :: t48 :: t49 :: t50 :: t51 :: t52 :: t53 :: t54 :: t55 :: t56 :: t57 :: t58 :: t59 :: t60 :: t61 :: t62 :: t63 :: t64 :: t65 :: t66 :: t67 :: t68 :: t69 :: t70 :: t71 :: t72 :: t73 :: t74 :: t75 :: t76 :: t77 :: t78 :: t79 :: t80 :: t81 :: t82 :: t83 :: t84 :: t85 :: []), defers := [] } w') :
    Code.wp Tryd.prog (Code.region 12 #[{ dst := some 36, op := Op.move (Operand.tmp 7), type := 33, pos := "law.go:97", after := #[], guard := none },
{ dst := some 37, op := Op.convert 33 9 (Operand.tmp 36), type := 9, pos := "law.go:97", after := #[{ on := 0, ground := Ground.data }], guard := none },
{ dst := some 38, op := Op.load 56 (Operand.tmp 2), type := 56, pos := "law.go:97", after := #[], guard := none },
{ dst := some 39, op := Op.call { callee := Callee.value (Operand.func 29), args := #[Operand.tmp 38], argTypes := #[56] }, type := 9, pos := "law.go:97", after := #[{ on := 2, ground := Ground.data }], guard := none },
{ dst := some 40, op := Op.binOp BinOp.neq 9 (Operand.tmp 37) (Operand.tmp 39) 9, type := 4, pos := "law.go:97", after := #[{ on := 1, ground := Ground.data }, { on := 3, ground := Ground.data }], guard := none }] true) Q { tmps := List.toArray (t0 :: t1 :: .pointer (some ⟨g1, 0, none⟩) :: t3 :: t4 :: t5 :: t6 :: .slice s7 m7 c7 :: t8 :: t9 :: t10 :: t11 :: t12 :: t13 :: t14 :: t15 :: t16 :: t17 :: t18 :: t19 :: t20 :: t21 :: t22 :: t23 :: t24 :: t25 :: t26 :: t27 :: t28 :: t29 :: t30 :: t31 :: t32 :: t33 :: t34 :: t35 :: t36 :: t37 :: t38 :: t39 :: t40 :: t41 :: t42 :: t43 :: t44 :: t45 :: t46 :: t47 :: t48 :: t49 :: t50 :: t51 :: t52 :: t53 :: t54 :: t55 :: t56 :: t57 :: t58 :: t59 :: t60 :: t61 :: t62 :: t63 :: t64 :: t65 :: t66 :: t67 :: t68 :: t69 :: t70 :: t71 :: t72 :: t73 :: t74 :: t75 :: t76 :: t77 :: t78 :: t79 :: t80 :: t81 :: t82 :: t83 :: t84 :: t85 :: []), defers := [] } V := by
  have HQ := Lib.hid hQ
  obtain ⟨tl, htl⟩ : ∃ tl : TypeId, tl = 56 := ⟨_, rfl⟩
  obtain ⟨sz, hsz0⟩ : ∃ sz : Nat, sz = 69 := ⟨_, rfl⟩
  have hag : ∀ w, (isAgg tl).run Tryd.prog w = .ok true w := by rw [htl]; exact blk_aggB
  have hsz : ∀ w, (sizeOf tl).run Tryd.prog w = .ok sz w := by rw [htl, hsz0]; exact blk_sizeB
  have hlA : ∀ w', Below V.heap.size V w' → (loadCellsFrom ⟨g1, 0, none⟩ 0 sz #[]).run Tryd.prog w' = .ok A w' := fun w' h => by
    have h1 := load_row w' g1 0 L (rr_below hrg h hg)
    rw [hA] at h1
    rw [hsz0, ← h69]
    exact h1
  simp only [show ∀ z, Op.load 56 z = Op.load tl z from fun z => by rw [htl]]
  have heq : (st.toList == st.toList) = true := by simp
  clear htl hsz0 hQ hrg
  refine wp_region_noPanic ?_
  go_region_held (fun w' => Below V.heap.size V w')
    (first | with_reducible assumption | with_reducible exact Below.refl _ _ | with_reducible exact (Below.refl _ _).drew)
    (first
      | (go_at_call 29
         with_reducible refine (HRB.out _ (by first | with_reducible assumption | with_reducible exact (Below.refl _ _).drew | with_reducible exact Below.refl _ _)).mono ?_
         rintro e w6 ⟨rfl, hb6⟩
         have hE6 : Below V.heap.size V w6 := by
           refine below_step ?_ ?_ hb6
           · repeat' (first | with_reducible exact Below.refl _ _ | with_reducible assumption | with_reducible exact From.out (by with_reducible assumption) | with_reducible refine Below.drew ?_ | with_reducible refine Below.setCell ?_ ?_ _ | with_reducible refine Below.alloc ?_ ?_ _ | with_reducible exact Nat.le_refl _ | omega | (simp; done) | (simp; omega) | (simp [World.drew]; done) | (simp [World.drew]; omega))
           · first | omega | (simp; done) | (simp; omega) | (simp [World.drew]; done) | (simp [World.drew]; omega)
         have z6 := hE6.size)
      | fail)
  all_goals exact NoPanic.normal (HQ.out _ _ _ _ _ hE6)
theorem TxV.ok {w : World} {B : Nat} {t : TxM} (h : TxV w B t) : (∀ x ∈ t.ins, x.ix < 4294967296) ∧ ∀ x ∈ t.outs, OutOk x := ⟨fun x hx => (h.2.1 x hx).1, h.2.2.2⟩
theorem BlkV.keep {w w' : World} {B : Nat} {b : BlkM} (h : BlkV w B b) {C : Nat} (hb : Below C w w') (hC : B ≤ C) : BlkV w' B b := ⟨h.1, h.2.1.keep hb hC, fun t ht => (h.2.2 t ht).keep hb hC⟩
theorem BlkV.mono {w : World} {B C : Nat} {b : BlkM} (h : BlkV w B b) (hC : B ≤ C) : BlkV w C b := ⟨h.1, h.2.1.mono hC, fun t ht => (h.2.2 t ht).mono hC⟩
theorem blkB_lt {w : World} {B : Nat} {b : BlkM} (h : BlkV w B b) : ∀ x ∈ blkB b, x < 256 := by
  intro x hx
  unfold blkB at hx
  simp only [List.mem_append] at hx
  rcases hx with h1 | h1 | h1
  · exact hB_lt h.1 x h1
  · exact countL_lt _ x h1
  · exact txsB_lt h.2.2 x h1
theorem readblk (ys : List Nat) (W : World) (v : Value) (hb : BsV W W.heap.size v ys) (hl : ys.length ≤ 1000000) (hx : ∀ x ∈ ys, x < 256) :
    Calls Tryd.prog 28 #[v] W fun r w' => ∃ (b2 : BlkM), r = .returned (.tuple #[.agg (blkL b2).toArray, .int .i64 ((rbEnd ys : Nat) : Int)]) ∧ IsHd b2.hd ∧ Below W.heap.size W w' ∧ (rbEnd ys = 0 → BlkV w' w'.heap.size b2 ∧ (∀ t ∈ b2.txs, TxFit t) ∧ b2.txs.length ≤ 40 ∧ blkB b2 = ys) ∧ (rbEnd ys ≠ 0 → b2 = blk0) := by
  by_cases h8 : 8192 < ys.length
  · obtain ⟨s, c, rfl, _⟩ := hb
    have e : rbEnd ys = 2 := by unfold rbEnd; rw [if_pos h8]
    rw [e]
    refine (trb_long s _ c W (by omega)).mono ?_
    rintro e w' ⟨rfl, hbel⟩
    exact ⟨blk0, rfl, hd0_is, hbel, fun h => absurd h (by decide), fun _ => rfl⟩
  · have e : rbEnd ys = rdEnd (rbSt ys) := by unfold rbEnd; rw [if_neg h8]
    rw [e]
    have hI : StI (ys, 0) := ⟨hl, by simp only; omega, hx, fun h => absurd rfl h⟩
    refine (trb_in v ys W hb (by omega) hx).mono ?_
    rintro e w' ⟨b2, rfl, hbel, h1, h2⟩
    by_cases h0 : rdEnd (rbSt ys) = 0
    · obtain ⟨hs, MB⟩ := h1 h0
      have h00 := h0
      unfold rdEnd at h00
      split at h00
      · exact absurd h00 (by omega)
      rename_i hn
      obtain ⟨e1, hg⟩ := blk_eats ys b2 hI hs h00
      have hlen : (rbSt ys).1 = [] := by
        rcases Nat.eq_zero_or_pos (rbSt ys).1.length with h3 | h3
        · exact List.length_eq_zero_iff.1 h3
        · exact absurd ⟨h00, h3⟩ hn
      rw [hlen, List.append_nil] at e1
      have hI2 : StI (rbS2 ys) := count_inv _ 32 (take_inv (ys, 0) 80 hI).1
      refine ⟨b2, rfl, MB.1, hbel, fun _ => ⟨⟨MB.1, MB.2.1.rows txR_ok, fun t ht => ?_⟩, fun t ht => ?_, by have := hg.2.1; omega, e1.symm⟩, fun h => absurd h0 h⟩
      · obtain ⟨k, hk, rfl⟩ := List.mem_iff_getElem.1 ht
        exact (MB.2.2 _ ht).txv (nxSts_inv k _ hI2) (hs.2.2 k _ (List.getElem?_eq_getElem hk))
      · have hgt := (hg.2.2 t ht).1
        exact ⟨by have := hgt.1; omega, by have := hgt.2.1; omega, fun x hx => by have := hgt.2.2 x hx; show _ ≤ 200; omega⟩
    · exact ⟨b2, rfl, by rw [h2 h0]; exact hd0_is, hbel, fun h => absurd h h0, h2⟩
theorem bk_range {w : World} {g : Nat} {t : TypeId} {L : List Value} (K : Bk w g t L.toArray) : w.rangeAt g 0 L := by
  intro j v hv
  exact K.range0 j v (by simpa using hv)
theorem blk_done (W : World) (b2 : BlkM) (h : IsHd b2.hd) : Below W.heap.size W ((W.alloc (.cells Tryd.zeroCells56 56)).setCells W.heap.size 0 (blkL b2).toArray.toList) := Below.setCells (Nat.le_refl _) _ _ _ ((Below.refl _ _).alloc (Nat.le_refl _) _)
set_option maxHeartbeats 16000000 in
theorem walk (b : BlkM) (xr : List Nat) (vr : Value) (w : World) (hL : Laid w) (hV : BlkV w w.heap.size b) (hR : BsV w w.heap.size vr xr) :
    Calls Tryd.prog 8 #[.agg (blkL b).toArray, vr] w fun e w' => e = .returned (.bool true) ∧ Below w.heap.size w w' := by
  have hrx : ∀ x ∈ xr, x < 256 := by
    obtain ⟨s, cap, e, h1, h2, h3, h4⟩ := hR
    exact h3
  have HRX := Lib.hid hrx
  have HBR := Lib.hid hR
  have hbx := blkB_lt hV
  have HWR : Hid (∀ W, Below w.heap.size w W → Calls Tryd.prog 16 #[] W fun e w' => e = .returned (.bool true) ∧ Below W.heap.size W w') := fun W h => txwrites_any W (hL.below h hL.size)
  have HFI : Hid (∀ t, TxV w w.heap.size t → ∀ W, Below w.heap.size w W → Calls Tryd.prog 17 #[.agg #[t.iv, t.ov]] W fun e w' => e = .returned (.bool (fitB t)) ∧ Below W.heap.size W w') := fun t hT W h => fits_any t W ((hT.keep h (Nat.le_refl _)).mono h.size)
  have HTB : Hid ((∀ t ∈ b.txs, TxFit t) → b.txs.length ≤ 40 → ∀ W, Below w.heap.size w W → Calls Tryd.prog 27 #[.agg (blkL b).toArray] W fun e w' => ∃ v', e = .returned v' ∧ Mine w' W.heap.size v' (blkB b) ∧ Below W.heap.size W w') := fun h hn W hb => tblock_any b W (BlkV.mono (BlkV.keep hV hb (Nat.le_refl _)) hb.size) h (by omega)
  have HR7 : Hid ((∀ t ∈ b.txs, TxFit t) → b.txs.length ≤ 40 → ∀ W, Below w.heap.size w W → Calls Tryd.prog 29 #[.agg (blkL b).toArray] W fun e w' => e = .returned (.string (strN (blkB b))) ∧ Below W.heap.size W w') := fun h hn W hb => r7block_any b W (BlkV.mono (BlkV.keep hV hb (Nat.le_refl _)) hb.size) h hn
  have HXL : Hid ((∀ t ∈ b.txs, TxFit t) → b.txs.length ≤ 40 → (blkB b).length ≤ 500000) := fun h hn => by
    show _ ≤ _
    have h1 := txsB_le b.txs b.txs.length h
    rw [List.take_length] at h1
    have h2 := countL_len b.txs.length
    unfold blkB
    rw [List.length_append, List.length_append, hB_length hV.1]
    omega
  have HRW : Hid (RowV txR w w.heap.size (.slice b.ls b.txs.length b.lc) b.txs) := hV.2.1
  have HTX := Lib.hid hV.2.2
  have H68 := Lib.hid (blk_68 hV.1)
  have H69 := Lib.hid (blkL_len hV.1)
  have HBX := Lib.hid hbx
  unfold BlkM.lv at H68
  obtain ⟨X, hX⟩ : ∃ X, X = blkB b := ⟨_, rfl⟩
  rw [← hX] at HBX HTB HR7 HXL
  obtain ⟨L, hLL⟩ : ∃ L, L = blkL b := ⟨_, rfl⟩
  rw [← hLL] at HTB HR7 H68 H69 ⊢
  obtain ⟨TS, hTS⟩ : ∃ TS, TS = b.txs := ⟨_, rfl⟩
  rw [← hTS] at HTB HR7 HRW HTX H68 HXL
  obtain ⟨ls, hls⟩ : ∃ ls, ls = b.ls := ⟨_, rfl⟩
  rw [← hls] at HRW H68
  obtain ⟨lc, hlc⟩ : ∃ lc, lc = b.lc := ⟨_, rfl⟩
  rw [← hlc] at HRW H68
  obtain ⟨n, hn⟩ : ∃ n, n = TS.length := ⟨_, rfl⟩
  rw [← hn] at HTB HR7 HRW H68 HXL
  have HN := Lib.hid hn
  obtain ⟨sr, mr, cr, ev, hmr⟩ : ∃ s n c, vr = .slice s n c ∧ n = xr.length := by
    obtain ⟨s, cap, e, _⟩ := hR
    exact ⟨s, _, cap, e, rfl⟩
  subst ev
  have HMR := Lib.hid hmr
  clear hX hLL hTS hls hlc hn hbx hV hL hR hrx hmr
  go_enter Tryd.func8, Tryd.ntmps8
  go_upto_region 1 with fail
  refine wp_any (fun W => Below w.heap.size w W ∧ Bk W w.heap.size 56 L.toArray) ⟨(Below.refl _ _).alloc (Nat.le_refl _) _, Bk.new _ _ _⟩ ?_
  obtain ⟨g1, hg1⟩ : ∃ g1, g1 = w.heap.size := ⟨_, rfl⟩
  have HG := Lib.hid hg1
  rw [← hg1]
  clear hg1
  rintro W ⟨hW, K1⟩
  have HW : Hid (Below w.heap.size w W) := by rw [← HG.out]; exact hW
  clear hW
  go_wp2_with fail
  refine (HWR.out W HW.out).mono ?_
  rintro e W1 ⟨rfl, hb1⟩
  have K1 := K1.keep hb1
  have HW1 := Lib.hid (below_step HW.out HW.out.size hb1)
  have c68 := (K1.cell 68).trans H68.out
  have z1 := K1.lt
  clear hb1 HW HWR
  by_cases hn4 : ¬ n ≤ 40
  · have q1 : decide ((40 : Int) < (n : Int)) = true := decide_eq_true (by omega)
    clear hn4
    go_wp2_with fail
    go_ret
    exact ⟨rfl, HW1.out⟩
  have hn4 : n ≤ 40 := by omega
  by_cases hm4 : ¬ mr ≤ 10000
  · have q1 : decide ((40 : Int) < (n : Int)) = false := decide_eq_false (by omega)
    have q2 : decide ((10000 : Int) < (mr : Int)) = true := decide_eq_true (by omega)
    clear hm4 hn4
    go_wp2_with fail
    go_ret
    exact ⟨rfl, HW1.out⟩
  have hm4 : mr ≤ 10000 := by omega
  have q1 : decide ((40 : Int) < (n : Int)) = false := decide_eq_false (by omega)
  have q2 : decide ((10000 : Int) < (mr : Int)) = false := decide_eq_false (by omega)
  have HN4 := Lib.hid hn4
  have HM4 := Lib.hid hm4
  clear hm4
  go_wp2_with fail
  go_loopw [26] (fun i wr => ∃ k : Nat, k ≤ n ∧ i = .int .i64 k ∧ Hid (Below w.heap.size w wr) ∧ Bk wr g1 56 L.toArray ∧ Hid (∀ j t, j < k → TS[j]? = some t → TxFit t)) (fun i _ => n - (intOf i).toNat)
  case atStart => exact ⟨0, Nat.zero_le _, rfl, HW1.out, K1, fun j t hj _ => absurd hj (by omega)⟩
  case round =>
    obtain ⟨k, hk, rfl, HWr, Kr, HX⟩ := hrel
    clear K1 HW1 c68 z1 q1 q2
    by_cases hlt : k < n
    · obtain ⟨t, bb, o, hkt, rfl, hbw, hrg⟩ := row_at HRW.out k (by have := HN.out; omega)
      have j1 : decide ((k : Int) < (n : Int)) = true := decide_eq_true (by omega)
      have hTT := HTX.out t (List.mem_of_getElem? hkt)
      replace hrg := rr_below hrg HWr.out hbw
      change wr.rangeAt bb (o + k * 2) [t.iv, t.ov] at hrg
      have c0_ : wr.cell? ⟨bb, o + k * 2, none⟩ = some t.iv := hrg 0 _ rfl
      have c1_ : wr.cell? ⟨bb, o + k * 2 + 1, none⟩ = some t.ov := hrg 1 _ rfl
      have hbr : bb < wr.heap.size := Nat.lt_of_lt_of_le hbw HWr.out.size
      have HFT := Lib.hid (HFI.out t hTT)
      have HKT := Lib.hid hkt
      obtain ⟨B1, hB1⟩ : ∃ B, B = fitB t := ⟨_, rfl⟩
      have HF : Hid (B1 = true → TxFit t) := by show _ → _; rw [hB1]; exact (fitB_iff t).1
      rw [← hB1] at HFT
      obtain ⟨a, ha⟩ : ∃ a, a = t.iv := ⟨_, rfl⟩
      obtain ⟨b', hb'⟩ : ∃ b, b = t.ov := ⟨_, rfl⟩
      rw [← ha, ← hb'] at HFT
      rw [← ha] at c0_
      rw [← hb'] at c1_
      obtain ⟨sa, na, ca, ea⟩ : ∃ s n c, a = .slice s n c := ⟨_, _, _, ha⟩
      obtain ⟨sb, nb, cb, eb⟩ : ∃ s n c, b' = .slice s n c := ⟨_, _, _, hb'⟩
      subst ea
      subst eb
      clear hrg hTT hkt ha hb' hB1
      go_upto_region 8 with fail
      have hA : Below wr.heap.size wr (wr.alloc (.cells #[.slice sa na ca, .slice sb nb cb] 25)) := (Below.refl _ _).alloc (Nat.le_refl _) _
      refine wp_any (fun W => Below w.heap.size w W ∧ Bk W g1 56 L.toArray ∧ Bk W wr.heap.size 25 #[.slice sa na ca, .slice sb nb cb]) ⟨below_step HWr.out HWr.out.size hA, Kr.keep hA, Bk.new _ _ _⟩ ?_
      clear hA Kr HWr c0_ c1_ hbr
      generalize wr.heap.size = g8 at *
      rintro W ⟨hW, K1, K8⟩
      have HW := Lib.hid hW
      have c0 := K8.cell 0
      have c1 := K8.cell 1
      have z8 := K8.lt
      clear hW
      go_wp2_with fail
      refine (HFT.out W HW.out).mono ?_
      rintro e W2 ⟨rfl, hb2⟩
      have K1 := K1.keep hb2
      have HW2 := Lib.hid (below_step HW.out HW.out.size hb2)
      clear hb2 HW HFT c0 c1 z8 K8
      cases B1
      · go_wp2_with fail
        go_ret
        exact ⟨rfl, HW2.out⟩
      have HF1 := Lib.hid (HF.out rfl)
      clear HF
      go_wp2_with fail
      go_roundw
      case rel =>
        refine ⟨k + 1, by omega, by go_num, HW2.out, K1, ?_⟩
        show ∀ j u, j < k + 1 → TS[j]? = some u → TxFit u
        intro j u hj hu
        rcases Nat.lt_or_ge j k with h | h
        · exact HX.out j u h hu
        · obtain rfl : j = k := by omega
          have e := HKT.out
          rw [hu] at e
          obtain rfl : u = t := by simpa using e
          exact HF1.out
      case measure => simp [intOf]; omega
    · have hkn : k = n := by omega
      have j1 : decide ((k : Int) < (n : Int)) = false := decide_eq_false (by omega)
      have j0 : decide (k < n) = false := decide_eq_false (by omega)
      have HALL : Hid (∀ t ∈ TS, TxFit t) := fun t ht => by
        obtain ⟨j, hj, rfl⟩ := List.mem_iff_getElem.1 ht
        exact HX.out j _ (by have := HN.out; omega) (List.getElem?_eq_getElem hj)
      have HTB := Lib.hid (HTB.out HALL.out HN4.out)
      have HR7 := Lib.hid (HR7.out HALL.out HN4.out)
      have HXL := Lib.hid (HXL.out HALL.out HN4.out)
      clear HX hlt hkn hk
      have hrg := bk_range Kr
      have z1 := Kr.lt
      have hps : (Tryd.prog.info? 56).map (·.size) = some L.length := by rw [H69.out]; exact blk_infos
      go_wp2_with (refine wpList_load_mid rfl 56 (.tmp 2) rfl g1 0 rfl L _ hrg Tryd.underlying56 rfl hps ?_)
      refine (HTB.out _ HWr.out).mono ?_
      rintro e W4 ⟨v4, rfl, M4, hb4⟩
      have K1 := Kr.keep hb4
      have HW4 := Lib.hid (below_step HWr.out HWr.out.size hb4)
      have HX4 := Lib.hid (M4.bs HBX.out)
      obtain ⟨s7, c7, hs7⟩ := M4.slice
      obtain ⟨m7, hm7⟩ : ∃ m, m = X.length := ⟨_, rfl⟩
      have HM7 := Lib.hid hm7
      rw [← hm7] at hs7
      subst hs7
      clear hrg z1 Kr HWr hb4 HTB j1 j0 hps M4 hm7
      go_upto_region 12 with fail
      refine region12 W4 g1 m7 c7 s7 (strN X) L L.toArray rfl H69.out (bk_range K1) K1.lt (fun w' h => conv_bs (HX4.out.keep h (Nat.le_refl _))) (fun W h => HR7.out W (below_step HW4.out HW4.out.size h)) (fun x36 x37 x38 x39 w5 hb5 => ?_)
      have HW5 := Lib.hid (below_step HW4.out HW4.out.size hb5)
      have HX5 : Hid (BsV w5 w5.heap.size (.slice s7 m7 c7) X) := (HX4.out.keep hb5 (Nat.le_refl _)).mono hb5.size
      have HR5 : Hid (BsV w5 w5.heap.size (.slice sr mr cr) xr) := (HBR.out.keep HW5.out (Nat.le_refl _)).mono HW5.out.size
      clear hb5 HW4 HX4 K1 HR7
      have HIX : Hid (∀ k : Nat, k < 2 → ∃ sy ly cy ys, (∀ W, (Instr.index 62 (.agg #[.slice s7 m7 c7, .slice sr mr cr]) (.int .i64 (k : Int))).run Tryd.prog W = .ok (.slice sy ly cy) W) ∧ BsV w5 w5.heap.size (.slice sy ly cy) ys ∧ (∀ x ∈ ys, x < 256) ∧ ys.length ≤ 1000000) := fun k hk => by
        rcases (show k = 0 ∨ k = 1 by omega) with rfl | rfl
        · exact ⟨s7, m7, c7, X, fun W => by kernel_rfl, HX5.out, HBX.out, by have := HXL.out; omega⟩
        · exact ⟨sr, mr, cr, xr, fun W => by kernel_rfl, HR5.out, HRX.out, by have := HMR.out; have := HM4.out; omega⟩
      go_wp2_with fail
      go_loopw [44] (fun i wr => ∃ k : Nat, k ≤ 2 ∧ i = .int .i64 k ∧ Hid (Below w5.heap.size w5 wr)) (fun i _ => 2 - (intOf i).toNat)
      case atStart => exact ⟨0, by omega, rfl, Below.refl _ _⟩
      case round =>
        obtain ⟨k, hk, rfl, HWr⟩ := hrel
        by_cases hlt : k < 2
        · obtain ⟨sy, ly, cy, ys, hix, hbs, hys, hyl⟩ := HIX.out k hlt
          have j1 : decide ((k : Int) < 2) = true := decide_eq_true (by omega)
          have j2 : decide (k < 2) = true := decide_eq_true hlt
          have HYS := Lib.hid hys
          have HYL := Lib.hid hyl
          have HYW : Hid (BsV wr wr.heap.size (.slice sy ly cy) ys) := (hbs.keep HWr.out (Nat.le_refl _)).mono HWr.out.size
          have HRD := Lib.hid (readblk ys wr _ HYW.out hyl hys)
          obtain ⟨e0, hE⟩ : ∃ e, e = rbEnd ys := ⟨_, rfl⟩
          have HRR : Hid (∀ W, Calls Tryd.prog 30 #[.string (strN ys)] W fun e w' => e = .returned (.int .i64 ((e0 : Nat) : Int)) ∧ Below W.heap.size W w') := fun W => by rw [hE]; exact rrb_any ys W hyl hys
          rw [← hE] at HRD
          clear hbs hys hyl hE
          go_wp2_with fail
          refine HRD.out.mono ?_
          rintro e w6 ⟨b2, rfl, hd2, hb6, hz, hnz⟩
          have HZ := Lib.hid hz
          have HNZ := Lib.hid hnz
          have HH2 := Lib.hid hd2
          have HW6 := Lib.hid (below_step HWr.out HWr.out.size hb6)
          have HY6 : Hid (BsV w6 w6.heap.size (.slice sy ly cy) ys) := (HYW.out.keep hb6 (Nat.le_refl _)).mono hb6.size
          clear hd2 hb6 hz hnz HRD HWr HYW hix j1 j2
          go_upto_region 18 with (refine wpList_store_mid rfl 56 (.tmp 10) (.tmp 50) rfl w6.heap.size 0 (blkL b2).toArray rfl rfl (by rw [blk_size HH2.out]; exact zc_there w6 69 (Nat.le_refl _)) (by rw [blk_size HH2.out]; exact blk_infos) (blk_ones _) ?_)
          have hA := blk_done w6 b2 HH2.out
          refine wp_any (fun W => Below w5.heap.size w5 W ∧ Bk W w6.heap.size 56 (blkL b2).toArray ∧ Below w6.heap.size w6 W) ⟨below_step HW6.out HW6.out.size hA, zc_set w6 b2 HH2.out, hA⟩ ?_
          clear hA HW6
          rintro W ⟨hW, K10, hb⟩
          have HW := Lib.hid hW
          have HYV : Hid (BsV W W.heap.size (.slice sy ly cy) ys) := (HY6.out.keep hb (Nat.le_refl _)).mono hb.size
          have HZ2 : Hid (e0 = 0 → BlkV W W.heap.size b2 ∧ (∀ t ∈ b2.txs, TxFit t) ∧ b2.txs.length ≤ 40 ∧ blkB b2 = ys) := fun h => ⟨BlkV.mono (BlkV.keep (HZ.out h).1 hb (Nat.le_refl _)) hb.size, (HZ.out h).2⟩
          generalize w6.heap.size = g10 at *
          clear hW hb HZ HY6
          have HCV : Hid (∀ w', Below W.heap.size W w' → (convert 33 9 (.slice sy ly cy)).run Tryd.prog w' = .ok (.string (strN ys)) w') := fun w' h => conv_bs (HYV.out.keep h (Nat.le_refl _))
          by_cases h0 : e0 = 0
          · obtain ⟨hv2, hf2, hn2, hB2⟩ := HZ2.out h0
            have HBK : Hid (∀ V, Below W.heap.size W V → Calls Tryd.prog 27 #[.agg (blkL b2).toArray] V fun e w' => ∃ s m c, e = .returned (.slice s m c) ∧ (∀ w2, Below w'.heap.size w' w2 → (convert 33 9 (.slice s m c)).run Tryd.prog w2 = .ok (.string (strN ys)) w2) ∧ Below V.heap.size V w') := fun V h => by
              refine (tblock_any b2 V (BlkV.mono (BlkV.keep hv2 h (Nat.le_refl _)) h.size) hf2 hn2).mono ?_
              rintro e w' ⟨v', rfl, M, hb'⟩
              rw [hB2] at M
              have hbs := M.bs HYS.out
              obtain ⟨s, c, rfl⟩ := M.slice
              exact ⟨s, _, c, rfl, fun w2 h2 => conv_bs (hbs.keep h2 (Nat.le_refl _)), hb'⟩
            refine region18Z W g10 ly cy e0 sy (strN ys) HCV (fun V _ => HRR.out V) K10.lt (by rw [h0]; rfl) (by rw [h0]; rfl) (blkL b2) (bk_range K10) (by rw [blkL_len HH2.out]; exact blk_infos) HBK (fun x52 x53 x54 x55 x56 x57 x58 x59 x60 x61 x62 x63 x64 x65 x66 x67 x68 x69 x70 x71 x72 x73 x74 x75 x76 x77 x78 x79 x80 x81 x82 x83 w9 hb9 => ?_)
            have HW9 := Lib.hid (below_step HW.out HW.out.size hb9)
            clear hb9 HBK HCV HW K10 HZ2 hv2 hf2 hn2 hB2 HRR HIX h0
            go_wp2_with fail
            go_roundw
            case rel => exact ⟨k + 1, by omega, by go_num, HW9.out⟩
            case measure => simp [intOf]; omega
          · have hu := HNZ.out h0
            have hrg := bk_range K10
            rw [hu] at hrg
            have hz68 : (blkL blk0)[68]? = some (.slice none 0 0) := by
              have h := blk_68 (b := blk0) hd0_is
              rw [List.getElem?_toArray] at h
              exact h
            have HC : Hid (∀ w', Below W.heap.size W w' → w'.cell? ⟨g10, 68, none⟩ = some (.slice none 0 0)) := fun w' h => by
              have h1 := rr_below hrg h K10.lt 68 _ hz68
              rw [Nat.zero_add] at h1
              exact h1
            have hrh : W.rangeAt g10 0 (hdL hd0) := by
              have h := blk_head (b := blk0) (w := W) (g := g10) (t := 56) (by rw [← hu]; exact K10)
              exact h
            have hps : (Tryd.prog.info? 54).map (·.size) = some (hdL hd0).length := by rw [hdL_length hd0_is]; exact hd_info
            have hgd : ∀ (a b : Operand) V, (eqGuard .neq 54 a b (.agg (hdL hd0).toArray) (.agg (hdL hd0).toArray)).run Tryd.prog V = .ok () V := fun a b V => run_eqGuard_agg (P := Tryd.prog) V .neq 54 a b _ _ (by kernel_rfl)
            have hbn : ∀ V, (binOp .neq 54 (.agg (hdL hd0).toArray) (.agg (hdL hd0).toArray)).run Tryd.prog V = .ok (.bool false) V := fun V => by kernel_rfl
            refine region18N W g10 ly cy e0 sy (strN ys) HCV (fun V _ => HRR.out V) K10.lt (by simp; omega) (by simp; omega) (hdL hd0) rfl hrh hps HC hgd hbn (fun x52 x53 x54 x55 x56 x57 x58 x59 x60 x61 x62 x63 x64 x65 x66 x67 x68 x69 x70 x71 x72 x73 x74 x75 x76 x77 x78 x79 x80 x81 x82 x83 w9 hb9 => ?_)
            have HW9 := Lib.hid (below_step HW.out HW.out.size hb9)
            clear hb9 HCV HW K10 HZ2 HRR HIX h0 hrg hrh hps hgd hbn HC hz68
            go_wp2_with fail
            go_roundw
            case rel => exact ⟨k + 1, by omega, by go_num, HW9.out⟩
            case measure => simp [intOf]; omega
        · have hk2 : k = 2 := by omega
          subst hk2
          clear hlt
          go_wp2_with fail
          go_ret
          exact ⟨rfl, below_step HW5.out HW5.out.size HWr.out⟩

/-- The door's own heap meets the condition. -/
theorem door_met (os : Os) (args : Array Value) : laidMetH Tryd.prog laidL ((World.doorLaid Tryd.prog 19 os).forCall (fun _ _ => 0) ⟨#[], args, []⟩).memory :=
  laidMetH_of_parts3 (fuel := 8) (laidMet_of_run' 8 (by kernel_rfl) (by kernel_rfl)) (by kernel_rfl) (by kernel_rfl)

set_option maxRecDepth 100000 in
theorem lifted (os : Os) (started : os.Started) (H : Type) (enc : TypeId × Value → H) :
    ReturnsInHanded {} Tryd.checked os 8 .any (fun w args => (Rows.txBlocksSpec.pre enc Tryd.prog Tryd.f8 [] false w args ∧ laidMetH Tryd.prog laidL w) ∧ sizedMet enc Tryd.prog Tryd.f8 (OpenSpec.ofChange Rows.txBlocksSpec) false w args)
      (Rows.txBlocksSpec.post enc Tryd.prog Tryd.f8 false true false false) := by
  refine returnsInHanded_of_change_and (C := Tryd.checked) (X := fun w _ => laidMetH Tryd.prog laidL w) (fun _ _ _ hh h => h.of_heap hh) own started (by kernel_rfl) Tryd.func8
    (ChangeSpec.witness_shaped (enc := enc) (C := Tryd.checked) (os := os) (X := fun w _ => laidMetH Tryd.prog laidL w) false (World.doorLaid Tryd.prog 19 os) #[.agg (blkL blk0).toArray, .slice none 0 0] 8 rfl (World.shaped_of_RefB (by kernel_rfl) (by kernel_rfl)) (by kernel_rfl) (by kernel_rfl) (by kernel_rfl) (door_met os _)) ?_
  intro W base args ds gs before hval0 hW _ _ hL _
  have hval : ∀ (j : Nat) t v, Tryd.f8.params[j]? = some t → args[j]? = some v → Value.okWide Tryd.prog W .any base t v := hval0
  have hW' := hW
  obtain ⟨p, q, hA0, hV, rfl, hfz, hnd⟩ := hW
  have hA : DataW.TrodAll enc Tryd.prog W 0 (fun _ => true) true Tryd.f8.params.toList args.toList ds p := hA0
  rw [Tryd.params8] at hA hval
  obtain ⟨v0, vs0, d0, ds0, p0, q0, hargs, rfl, rfl, h0, r0⟩ := trodAll_cons hA
  obtain ⟨v1, vs1, d1, ds1, p1, q1, rfl, rfl, rfl, h1, r1⟩ := trodAll_cons r0
  obtain ⟨rfl, rfl, rfl⟩ := trodAll_nil r1
  obtain rfl : args = #[v0, v1] := by cases args; simp_all
  obtain ⟨rfl, rfl⟩ := trodVars_none hV
  have lt0 : ∀ x ∈ p0, x.block < W.heap.size := by obtain ⟨m, hm⟩ := h0; exact DataW.trod_lt m _ _ _ hm
  have lt1 : ∀ x ∈ p1, x.block < W.heap.size := by obtain ⟨m, hm⟩ := h1; exact DataW.trod_lt m _ _ _ hm
  obtain ⟨x0, hb0, rfl⟩ := blk_arg (hval 0 56 v0 rfl rfl) h0
  obtain ⟨x1, hb1⟩ := bytes_arg (hval 1 33 v1 rfl rfl) h1
  have hwalk := walk x0 x1 v1 W (of_laid hL) hb0 hb1
  clear hA0 hval0
  refine hwalk.mono fun e W' ⟨he, bel⟩ => ?_
  subst he
  exact ⟨_, rfl, _, _, _, [], _, [], hW', trodAll_mk1 (shut_bool Tryd.underlying4 _), (trodAll_cons_mk (Below.trod laidOut (by kernel_rfl) (of_decide_eq_true (by kernel_rfl)) h0 bel lt0) (trodAll_cons_mk (Below.trod laidOut (by kernel_rfl) (of_decide_eq_true (by kernel_rfl)) h1 bel lt1) trodAll_mk0)), rfl, bel.frame _, fun h => by cases h⟩

theorem over : Rows.TxBlocksSaid :=
  OpenClaim.holds_of_wide 8 Tryd.f8 rfl rfl rfl rfl rfl rfl rfl ⟨rfl, rfl, rfl, rfl, rfl⟩ rfl rfl rfl rfl rfl (by kernel_rfl) Tryd.func8 (by kernel_rfl)
    (of_decide_eq_true (by kernel_rfl)) (by unfold Func.isWrapper; first | (rw [if_pos (by decide +kernel)]; kernel_rfl) | (rw [if_neg (by decide +kernel)]; exact ⟨rfl, rfl⟩))
    (fun os started H enc _ => lifted os started H enc)

theorem proved : Rows.TxBlocksCardSaid :=
  Claim7.holds_tied_plain_at .later [] [.data, .data] true Rows.txBlocksCard.stood.harness false
    over (fun _ h => by cases h) (by kernel_rfl) (fun _ h => by cases h) txBlocks_row_tie rfl ⟨rfl, rfl⟩ (by kernel_rfl) rfl
    (fun f fn hf hfn => by
      obtain rfl : f = 8 := Option.some.inj ((show Tryd.prog.funcNamed "tallystick/tallysticklaw07.TxBlocks" = some 8 by kernel_rfl).symm.trans hf) |>.symm
      obtain rfl : fn = Tryd.f8 := (Option.some.inj (Tryd.func8.symm.trans hfn)).symm
      exact ⟨by kernel_rfl, fun j t ht => by
        rw [Tryd.params8] at ht
        have hm : t ∈ [56, 33] := by simpa using Array.mem_of_getElem? ht
        have hall : ([56, 33].all fun u => !Tryd.prog.wantsStandIn u) = true := by kernel_rfl
        exact (show Tryd.prog.wantsStandIn t = false by simpa using List.all_eq_true.1 hall t hm)⟩)
    (by kernel_rfl)
#print axioms proved
end Go.Proofs.YtokiinpegclffaaDoor.txBlocks
