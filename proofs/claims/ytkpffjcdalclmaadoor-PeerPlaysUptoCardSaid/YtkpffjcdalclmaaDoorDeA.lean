/- Deeds: what happens, as rows and as an argument; whether they are of a size with which this is tried. -/
import Derived.Test.YtkpffjcdalclmaaDoorPcI
namespace Go.Proofs.YtkpffjcdalclmaaDoor
open Go.ChangeShapes Go.WideShapes Go.ChangeAt Go.RowKit
set_option linter.unusedVariables false
set_option linter.unusedSimpArgs false
set_option maxRecDepth 100000
structure DeM where
 kd : Int
 n : Int
 ls : Option Addr
 lc : Nat
 list : List MsI
 ds : Option Addr
 dc : Nat
 data : List Nat
def DeM.lv (d : DeM) : Value := .slice d.ls d.list.length d.lc
def DeM.dv (d : DeM) : Value := .slice d.ds d.data.length d.dc
def deL (d : DeM) : List Value := [.int .i64 d.kd, .int .i64 d.n, d.lv, d.dv]
def de0 : DeM := ⟨0, 0, none, 0, [], none, 0, []⟩
def deR : RowT DeM := ⟨39, 23, 4, 64, deL, de0⟩
theorem der_facts : (Tryd.prog.info? 39).map (fun i => (i.zero.map (·.cells), i.size, i.bytes)) = some (some (deL de0).toArray, 4, 64) := by kernel_rfl
theorem der_info : ∃ i v, Tryd.prog.info? 39 = some i ∧ i.zero = some v ∧ i.size = 4 ∧ i.bytes = 64 ∧ v.cells = (deL de0).toArray := by
 obtain ⟨i, hi, hs⟩ := Option.map_eq_some_iff.1 der_facts
 injection hs with h1 h2
 injection h2 with h2 h3
 obtain ⟨v, hv, hc⟩ := Option.map_eq_some_iff.1 h1
 exact ⟨i, v, hi, hv, h2, h3, hc⟩
theorem deR_ok : deR.Ok where
 ht := Tryd.underlying23
 len := fun _ => rfl
 one := by
  intro d v hv
  have hv : v ∈ deL d := hv
  unfold deL at hv
  simp only [List.mem_cons, List.not_mem_nil, or_false] at hv
  rcases hv with rfl | rfl | rfl | rfl <;> rfl
 info := der_info
 pos := by decide
 bys := by decide
def DeV (w : World) (B : Nat) (d : DeM) : Prop := (-9223372036854775808 ≤ d.kd ∧ d.kd ≤ 9223372036854775807) ∧ (-9223372036854775808 ≤ d.n ∧ d.n ≤ 9223372036854775807) ∧ RowV msR w B d.lv d.list ∧ (∀ x ∈ d.list, MsV w B x.1) ∧ BsV w B d.dv d.data
def MgFit (x : MsI) : Prop := x.1.nm.length ≤ 70 ∧ x.1.hd.length ≤ 40 ∧ x.1.bk.txs.length ≤ 2 ∧ ∀ t ∈ x.1.bk.txs, t.ins.length ≤ 3 ∧ t.outs.length ≤ 3
def DeFit (d : DeM) : Prop := d.list.length ≤ 6 ∧ d.data.length ≤ 2000 ∧ ∀ x ∈ d.list, MgFit x
theorem DeV.keep {w w' : World} {B C : Nat} {d : DeM} (h : DeV w B d) (hb : Below C w w') (hC : B ≤ C) : DeV w' B d :=
 ⟨h.1, h.2.1, h.2.2.1.keep hb hC, fun x hx => (h.2.2.2.1 x hx).keep hb hC, h.2.2.2.2.keep hb hC⟩
theorem DeV.mono {w : World} {B C : Nat} {d : DeM} (h : DeV w B d) (hC : B ≤ C) : DeV w C d :=
 ⟨h.1, h.2.1, h.2.2.1.mono hC, fun x hx => (h.2.2.2.1 x hx).mono hC, h.2.2.2.2.mono hC⟩
set_option maxHeartbeats 16000000 in
theorem dfits_any (s0 : Option Addr) (n c : Nat) (L : List DeM) (w : World) (hR : RowV deR w w.heap.size (.slice s0 n c) L) (hV : ∀ x ∈ L, DeV w w.heap.size x) (hn : n = L.length) :
  Calls Tryd.prog 11 #[.slice s0 n c] w fun r w' => ∃ b, r = .returned (.bool b) ∧ (b = true → n ≤ 25 ∧ ∀ d ∈ L, DeFit d) ∧ Below w.heap.size w w' := by
 have HN := Lib.hid hn
 have HV := Lib.hid hV
 have HL : Hid (∀ k, k < n → ∃ x b o, L[k]? = some x ∧ s0 = some ⟨b, o, none⟩ ∧ b < w.heap.size ∧ w.rangeAt b (o + k * 4) (deL x)) := by
  show ∀ k, k < n → _
  rw [hn]
  exact row_at (show RowV deR w w.heap.size (.slice s0 L.length c) L from by rw [← hn]; exact hR)
 have h63 : n < 9223372036854775808 := by
  obtain ⟨_, _, e, h1, h2, _⟩ := hR
  omega
 clear hR hV hn
 go_enter Tryd.func11, Tryd.ntmps11
 by_cases h25 : 25 < n
 ·have d25 : decide ((25 : Int) < (n : Int)) = true := decide_eq_true (by omega)
  go_wp2_with fail
  go_ret
  exact ⟨false, rfl, (fun h => by cases h), Below.refl _ _⟩
 have d25 : decide ((25 : Int) < (n : Int)) = false := decide_eq_false (by omega)
 have hn25 : n ≤ 25 := by omega
 go_wp2_with fail
 clear d25 h25
 go_loopw [14] (fun i wr => ∃ (k : Nat), k ≤ n ∧ i = .int .i64 k ∧ Hid (∀ d ∈ L.take k, DeFit d) ∧ Hid (Below w.heap.size w wr)) (fun i _ => n - (intOf i).toNat)
 case atStart => exact ⟨0, Nat.zero_le _, rfl, (fun t ht => by cases ht), Below.refl _ _⟩
 case round =>
  obtain ⟨k, hk, rfl, HF, HB⟩ := hrel
  by_cases hlt : k < n
  ·obtain ⟨x, bb, oo, hkx, hse, hbw, hrg⟩ := HL.out k hlt
   subst hse
   have j1 : decide ((k : Int) < (n : Int)) = true := decide_eq_true (by omega)
   have hrg := rr_below hrg HB.out hbw
   have r0 : wr.cell? ⟨bb, oo + k * 4, none⟩ = some (.int .i64 x.kd) := hrg 0 _ rfl
   have r1 : wr.cell? ⟨bb, oo + k * 4 + 1, none⟩ = some (.int .i64 x.n) := hrg 1 _ rfl
   have r2 : wr.cell? ⟨bb, oo + k * 4 + 2, none⟩ = some (.slice x.ls x.list.length x.lc) := hrg 2 _ rfl
   have r3 : wr.cell? ⟨bb, oo + k * 4 + 3, none⟩ = some (.slice x.ds x.data.length x.dc) := hrg 3 _ rfl
   have hmem := List.mem_of_getElem? hkx
   have HX := Lib.hid hkx
   have HDV := Lib.hid ((HV.out x hmem).keep HB.out (Nat.le_refl _))
   obtain ⟨nl, hnl⟩ : ∃ nl, nl = x.list.length := ⟨_, rfl⟩
   obtain ⟨nd, hnd⟩ : ∃ nd, nd = x.data.length := ⟨_, rfl⟩
   rw [← hnl] at r2
   rw [← hnd] at r3
   have HNL := Lib.hid hnl
   have HND := Lib.hid hnd
   have hl63 : nl < 9223372036854775808 := by
    obtain ⟨_, _, e, h1, h2, _⟩ := HDV.out.2.2.1
    omega
   obtain ⟨xk, hxk⟩ : ∃ a, a = x.kd := ⟨_, rfl⟩
   obtain ⟨xn, hxn⟩ : ∃ a, a = x.n := ⟨_, rfl⟩
   obtain ⟨xls, hxls⟩ : ∃ a, a = x.ls := ⟨_, rfl⟩
   obtain ⟨xlc, hxlc⟩ : ∃ a, a = x.lc := ⟨_, rfl⟩
   obtain ⟨xds, hxds⟩ : ∃ a, a = x.ds := ⟨_, rfl⟩
   obtain ⟨xdc, hxdc⟩ : ∃ a, a = x.dc := ⟨_, rfl⟩
   rw [← hxk] at r0
   rw [← hxn] at r1
   rw [← hxls, ← hxlc] at r2
   rw [← hxds, ← hxdc] at r3
   have HML : Hid (∀ j, j < nl → ∃ y b o, x.list[j]? = some y ∧ xls = some ⟨b, o, none⟩ ∧ b < w.heap.size ∧ wr.rangeAt b (o + j * 106) (msL y.1)) := by
    show ∀ j, j < nl → _
    rw [hnl, hxls]
    exact row_at HDV.out.2.2.1
   clear hrg hkx hmem hnl hnd hxk hxn hxls hxlc hxds hxdc
   go_upto_region 6 with fail
   refine wp_any (fun W => Below wr.heap.size wr W ∧ Bk W wr.heap.size 39 #[.int .i64 xk, .int .i64 xn, .slice xls nl xlc, .slice xds nd xdc]) ⟨(Below.refl _ _).alloc (Nat.le_refl _) _, Bk.new _ _ _⟩ ?_
   clear r0 r1 r2 r3
   rintro W ⟨hb, K6⟩
   have HBW := Lib.hid (below_step HB.out HB.out.size hb)
   have HWB : Hid (Below w.heap.size wr W) := hb.mono HB.out.size
   have c2 := K6.cell 2
   have c3 := K6.cell 3
   have z6 := K6.lt
   generalize wr.heap.size = p6 at *
   clear hb K6
   by_cases h6 : 6 < nl
   ·have d1 : decide ((6 : Int) < (nl : Int)) = true := decide_eq_true (by omega)
    go_wp2_with fail
    go_ret
    exact ⟨false, rfl, (fun h => by cases h), HBW.out⟩
   have d1 : decide ((6 : Int) < (nl : Int)) = false := decide_eq_false (by omega)
   by_cases h20 : 2000 < nd
   ·have d2 : decide ((2000 : Int) < (nd : Int)) = true := decide_eq_true (by omega)
    go_wp2_with fail
    go_ret
    exact ⟨false, rfl, (fun h => by cases h), HBW.out⟩
   have d2 : decide ((2000 : Int) < (nd : Int)) = false := decide_eq_false (by omega)
   have HSM := Lib.hid (show nl ≤ 6 ∧ nd ≤ 2000 by omega)
   go_wp2_with fail
   clear d1 d2 c2 c3 z6 h6 h20
   obtain ⟨wr0, hwr0⟩ : ∃ a, a = wr := ⟨_, rfl⟩
   rw [← hwr0] at HML HDV HWB
   clear HB
   clear hwr0
   clear wr
   go_loopw [31] (fun i wr => ∃ (j : Nat), j ≤ nl ∧ i = .int .i64 j ∧ Hid (∀ y ∈ x.list.take j, MgFit y) ∧ Hid (Below w.heap.size w wr) ∧ Hid (Below w.heap.size wr0 wr)) (fun i _ => nl - (intOf i).toNat)
   case atStart => exact ⟨0, Nat.zero_le _, rfl, (fun t ht => by cases ht), HBW.out, HWB.out⟩
   case round =>
    clear HBW HWB
    obtain ⟨j, hj, rfl, HG, HBW, HWB⟩ := hrel
    by_cases hlt2 : j < nl
    ·obtain ⟨y, b2, o2, hjy, hse2, hbw2, hrg2⟩ := HML.out j hlt2
     subst hse2
     have j2 : decide ((j : Int) < (nl : Int)) = true := decide_eq_true (by omega)
     replace hrg2 := rr_below hrg2 HWB.out hbw2
     have hbr : b2 < wr.heap.size := Nat.lt_of_lt_of_le hbw2 HBW.out.size
     have hmem2 := List.mem_of_getElem? hjy
     have HJ := Lib.hid hjy
     have hmv : MsV wr w.heap.size y.1 := (HDV.out.2.2.2.1 y hmem2).keep HWB.out (Nat.le_refl _)
     have HMV := Lib.hid hmv
     obtain ⟨hstc, K7, B7⟩ := row_made msR_ok y wr Tryd.zeroCells58 58 (by rw [msz]; exact msL_len hd0_is)
     change (storeCells ⟨wr.heap.size, 0, none⟩ (msL y.1)).run Tryd.prog _ = .ok () ((wr.alloc _).setCells wr.heap.size 0 (msL y.1)) at hstc
     change Bk ((wr.alloc _).setCells wr.heap.size 0 (msL y.1)) wr.heap.size 58 (msL y.1).toArray at K7
     change Below wr.heap.size wr ((wr.alloc _).setCells wr.heap.size 0 (msL y.1)) at B7
     have hpl : (msL y.1).length = 106 := msL_len y.2
     have hps : (Tryd.prog.info? 58).map (·.size) = some (msL y.1).length := by rw [hpl]; exact msi_r
     have h3 := msL_3 y.1
     have h36 := msL_36 y.1
     have h105 : (msL y.1).toArray[105]? = some y.1.bk.lv := by
      have h := msL_bk y.1 68 y.1.bk.lv (by
       have h2 := blk_68 y.2
       rw [List.getElem?_toArray] at h2
       exact h2)
      exact h
     unfold MsM.nv at h3
     unfold MsM.hv at h36
     unfold BlkM.lv at h105
     obtain ⟨n3, hn3⟩ : ∃ n, n = y.1.nm.length := ⟨_, rfl⟩
     obtain ⟨n5, hn5⟩ : ∃ n, n = y.1.hd.length := ⟨_, rfl⟩
     obtain ⟨nt, hnt⟩ : ∃ n, n = y.1.bk.txs.length := ⟨_, rfl⟩
     rw [← hn3] at h3
     rw [← hn5] at h36
     rw [← hnt] at h105
     have HN3 := Lib.hid hn3
     have HN5 := Lib.hid hn5
     have HNT := Lib.hid hnt
     have HTL : Hid (∀ i, i < nt → ∃ t b o, y.1.bk.txs[i]? = some t ∧ y.1.bk.ls = some ⟨b, o, none⟩ ∧ b < w.heap.size ∧ wr.rangeAt b (o + i * 2) (txL t)) := by
      show ∀ i, i < nt → _
      rw [hnt]
      exact row_at hmv.2.2.2.2.1
     have HB6 := Lib.hid (below_step HBW.out HBW.out.size B7)
     have HWB6 : Hid (Below w.heap.size wr ((wr.alloc (.cells Tryd.zeroCells58 58)).setCells wr.heap.size 0 (msL y.1))) := B7.mono HBW.out.size
     obtain ⟨PL, hPL⟩ : ∃ PL, PL = msL y.1 := ⟨_, rfl⟩
     rw [← hPL] at hrg2 hstc K7 hpl hps HB6 HWB6 h3 h36 h105
     have H3 := Lib.hid h3
     have H36 := Lib.hid h36
     have H105 := Lib.hid h105
     clear hPL hjy hmem2 B7 h3 h36 h105 hn3 hn5 hnt hmv
     go_upto_region 11 with (refine wpList_load_mid rfl 58 (.tmp 33) rfl b2 (o2 + j * 106) rfl PL _ hrg2 Tryd.underlying58 rfl hps ?_)
     refine wp_any (fun W => Below w.heap.size w W ∧ Below w.heap.size wr W ∧ Bk W wr.heap.size 58 PL.toArray) ⟨HB6.out, HWB6.out, K7⟩ ?_
     clear HB6 HWB6 K7 hstc hpl hps hrg2 hbr
     generalize wr.heap.size = g6 at *
     rintro W6 ⟨hW6, hWw, K7⟩
     have c3 := (K7.cell 3).trans H3.out
     have c36 := (K7.cell 36).trans H36.out
     have c105 := (K7.cell 105).trans H105.out
     have z7 := K7.lt
     have HW6 := Lib.hid hW6
     have HWW := Lib.hid hWw
     generalize y.1.ns = mns at *
     generalize y.1.cn = mcn at *
     generalize y.1.hs = mhs at *
     generalize y.1.ch = mch at *
     generalize y.1.bk.ls = mls at *
     generalize y.1.bk.lc = mlc at *
     clear hW6 hWw K7 HBW
     by_cases hb1 : 70 < n3
     ·have d1 : decide ((70 : Int) < (n3 : Int)) = true := decide_eq_true (by omega)
      clear hb1
      go_wp2_with fail
      go_ret
      exact ⟨false, rfl, (fun h => by cases h), HW6.out⟩
     have d1 : decide ((70 : Int) < (n3 : Int)) = false := decide_eq_false (by omega)
     by_cases hb2 : 40 < n5
     ·have d2 : decide ((40 : Int) < (n5 : Int)) = true := decide_eq_true (by omega)
      clear hb1 hb2
      go_wp2_with fail
      go_ret
      exact ⟨false, rfl, (fun h => by cases h), HW6.out⟩
     have d2 : decide ((40 : Int) < (n5 : Int)) = false := decide_eq_false (by omega)
     by_cases hb3 : 2 < nt
     ·have d3 : decide ((2 : Int) < (nt : Int)) = true := decide_eq_true (by omega)
      clear hb1 hb2 hb3
      go_wp2_with fail
      go_ret
      exact ⟨false, rfl, (fun h => by cases h), HW6.out⟩
     have d3 : decide ((2 : Int) < (nt : Int)) = false := decide_eq_false (by omega)
     have HNN := Lib.hid (show n3 ≤ 70 ∧ n5 ≤ 40 ∧ nt ≤ 2 by omega)
     have hnt2 : nt ≤ 2 := by omega
     clear hb1 hb2 hb3
     go_wp2_with fail
     clear d1 d2 d3 c3 c36 c105 z7
     obtain ⟨wr1, hwr1⟩ : ∃ a, a = wr := ⟨_, rfl⟩
     rw [← hwr1] at HTL HWB HWW HMV
     clear hwr1
     clear wr
     go_loopw [56] (fun i wr => ∃ (q : Nat), q ≤ nt ∧ i = .int .i64 q ∧ Hid (∀ t ∈ y.1.bk.txs.take q, t.ins.length ≤ 3 ∧ t.outs.length ≤ 3) ∧ Hid (Below w.heap.size w wr) ∧ Hid (Below w.heap.size wr1 wr)) (fun i _ => nt - (intOf i).toNat)
     case atStart => exact ⟨0, Nat.zero_le _, rfl, (fun t ht => by simp at ht), HW6.out, HWW.out⟩
     case round =>
      clear HW6 HWW
      obtain ⟨q, hq, rfl, HT, HW6, HWW⟩ := hrel
      by_cases hlt3 : q < nt
      ·obtain ⟨t, b3, o3, hqt, rfl, hbw3, hrg3⟩ := HTL.out q hlt3
       have j3 : decide ((q : Int) < (nt : Int)) = true := decide_eq_true (by omega)
       replace hrg3 := rr_below hrg3 HWW.out hbw3
       have c0_ : wr.cell? ⟨b3, o3 + q * 2, none⟩ = some (.slice t.is_ t.ins.length t.ic) := hrg3 0 _ rfl
       have c1_ : wr.cell? ⟨b3, o3 + q * 2 + 1, none⟩ = some (.slice t.os_ t.outs.length t.oc) := hrg3 1 _ rfl
       have HQ := Lib.hid hqt
       obtain ⟨ni, hni⟩ : ∃ ni, ni = t.ins.length := ⟨_, rfl⟩
       obtain ⟨no, hno⟩ : ∃ no, no = t.outs.length := ⟨_, rfl⟩
       rw [← hni] at c0_
       rw [← hno] at c1_
       have HNI := Lib.hid hni
       have HNO := Lib.hid hno
       generalize t.is_ = tis at *
       generalize t.ic = tic at *
       generalize t.os_ = tos at *
       generalize t.oc = toc at *
       clear hrg3 hqt hni hno
       go_upto_region 16 with fail
       refine wp_any (fun W => Below wr.heap.size wr W ∧ Bk W wr.heap.size 89 #[.slice tis ni tic, .slice tos no toc]) ⟨(Below.refl _ _).alloc (Nat.le_refl _) _, Bk.new _ _ _⟩ ?_
       clear c0_ c1_
       rintro W8 ⟨hb8, K8⟩
       have HB8 := Lib.hid (below_step HW6.out HW6.out.size hb8)
       have HB9 : Hid (Below w.heap.size wr1 W8) := HWW.out.trans (hb8.mono HW6.out.size)
       have c0 := K8.cell 0
       have c1 := K8.cell 1
       have z8 := K8.lt
       generalize wr.heap.size = p8 at *
       clear hb8 K8
       by_cases hi : 3 < ni
       ·have d1 : decide ((3 : Int) < (ni : Int)) = true := decide_eq_true (by omega)
        go_wp2_with fail
        go_ret
        exact ⟨false, rfl, (fun h => by cases h), HB8.out⟩
       have d1 : decide ((3 : Int) < (ni : Int)) = false := decide_eq_false (by omega)
       by_cases ho : 3 < no
       ·have d2 : decide ((3 : Int) < (no : Int)) = true := decide_eq_true (by omega)
        go_wp2_with fail
        go_ret
        exact ⟨false, rfl, (fun h => by cases h), HB8.out⟩
       have d2 : decide ((3 : Int) < (no : Int)) = false := decide_eq_false (by omega)
       have HOK := Lib.hid (show ni ≤ 3 ∧ no ≤ 3 by omega)
       clear hi ho
       go_wp2_with fail
       go_roundw
       case rel =>
        refine ⟨q + 1, by omega, by go_num, (show ∀ u ∈ y.1.bk.txs.take (q + 1), _ from fun u hu => ?_), HB8.out, HB9.out⟩
        rw [List.take_add_one, HQ.out] at hu
        rcases List.mem_append.1 hu with h | h
        ·exact HT.out u h
        ·have : u = t := by simpa using h
         rw [this, ← HNI.out, ← HNO.out]
         exact HOK.out
       case measure => simp [intOf]; omega
      ·have j3 : decide ((q : Int) < (nt : Int)) = false := decide_eq_false (by omega)
       have HTA : Hid (MgFit y) := by
        refine ⟨by rw [← HN3.out]; exact HNN.out.1, by rw [← HN5.out]; exact HNN.out.2.1, by rw [← HNT.out]; exact HNN.out.2.2, fun t ht => HT.out t ?_⟩
        rw [List.take_of_length_le (by have := HNT.out; omega)]
        exact ht
       have HWB9 : Hid (Below w.heap.size wr0 wr) := HWB.out.trans HWW.out
       clear HT
       go_wp2_with fail
       go_roundw
       case rel =>
        refine ⟨j + 1, by omega, by go_num, (show ∀ u ∈ x.list.take (j + 1), _ from fun u hu => ?_), HW6.out, HWB9.out⟩
        rw [List.take_add_one, HJ.out] at hu
        rcases List.mem_append.1 hu with h | h
        ·exact HG.out u h
        ·have : u = y := by simpa using h
         rw [this]
         exact HTA.out
       case measure => simp [intOf]; omega
    ·have j2 : decide ((j : Int) < (nl : Int)) = false := decide_eq_false (by omega)
     have HDA : Hid (DeFit x) := by
      refine ⟨by rw [← HNL.out]; exact HSM.out.1, by rw [← HND.out]; exact HSM.out.2, fun y hy => HG.out y ?_⟩
      rw [List.take_of_length_le (by have := HNL.out; omega)]
      exact hy
     clear HG
     go_wp2_with fail
     go_roundw
     case rel =>
      refine ⟨k + 1, by omega, by go_num, (show ∀ u ∈ L.take (k + 1), _ from fun u hu => ?_), HBW.out⟩
      rw [List.take_add_one, HX.out] at hu
      rcases List.mem_append.1 hu with h | h
      ·exact HF.out u h
      ·have : u = x := by simpa using h
       rw [this]
       exact HDA.out
     case measure => simp [intOf]; omega
  ·have j1 : decide ((k : Int) < (n : Int)) = false := decide_eq_false (by omega)
   have HFA : Hid (∀ d ∈ L, DeFit d) := by
    have h := HF.out
    rw [List.take_of_length_le (by have := HN.out; omega)] at h
    exact h
   clear HF
   go_wp2_with fail
   go_ret
   exact ⟨true, rfl, fun _ => ⟨hn25, HFA.out⟩, HB.out⟩
end Go.Proofs.YtkpffjcdalclmaaDoor
