/-
  The document's answer for layer 7: a transaction's bytes.
-/
import Derived.Test.YtokiinpegclffaaDoorTxC
import Derived.Test.YtokiinpegclffaaDoorWfZ
import Derived.Deep.RegionHeld
namespace Go.Proofs.YtokiinpegclffaaDoor
open Go.RowKit
set_option linter.unusedVariables false
set_option linter.unusedSimpArgs false
set_option maxRecDepth 100000

theorem in_row_bs {w : World} {B b o : Nat} {x : InM} (h : w.rangeAt b o (inL x)) (hb : b < B) : BsV w B (.slice (some ⟨b, o, none⟩) 32 32) x.tx.1 :=
  ⟨some ⟨b, o, none⟩, 32, by rw [x.tx.2.1], by rw [x.tx.2.1]; exact Nat.le_refl _, by omega, x.tx.2.2, fun _ => ⟨b, o, rfl, hb, fun i hi => h i _ (in_get x i (by rw [← x.tx.2.1]; exact hi))⟩⟩
theorem out_row_bs {w : World} {B b o : Nat} {x : OutM} (h : w.rangeAt b o (ouL x)) (hb : b < B) : BsV w B (.slice (some ⟨b, o + 1, none⟩) 32 32) x.lock.1 :=
  ⟨some ⟨b, o + 1, none⟩, 32, by rw [x.lock.2.1], by rw [x.lock.2.1]; exact Nat.le_refl _, by omega, x.lock.2.2, fun _ => ⟨b, o + 1, rfl, hb, fun i hi => by
    have := h (1 + i) _ (out_get x i (by rw [← x.lock.2.1]; exact hi))
    rw [show o + 1 + i = o + (1 + i) by omega]
    exact this⟩⟩
set_option maxHeartbeats 8000000 in
theorem r7bytes_any (t : TxM) (w : World) (hT : TxV w w.heap.size t) (hF : TxFit t) :
    Calls Tryd.prog 23 #[txv t] w fun e w' => e = .returned (.string (strN (txB t))) ∧ Below w.heap.size w w' := by
  have HT := Lib.hid hT
  have HF := Lib.hid hF
  obtain ⟨ti, tic, ins, to_, toc, outs⟩ := t
  obtain ⟨ni, hni⟩ : ∃ ni, ni = ins.length := ⟨_, rfl⟩
  obtain ⟨no, hno⟩ : ∃ no, no = outs.length := ⟨_, rfl⟩
  have HNI := Lib.hid hni
  have HNO := Lib.hid hno
  have hni40 : ni ≤ 40 := by rw [hni]; exact HF.out.1
  have hno40 : no ≤ 40 := by rw [hno]; exact HF.out.2.1
  have HC1 := Lib.hid (fun W => rfcount_any ni W (by omega))
  have HC2 := Lib.hid (fun W => rfcount_any no W (by omega))
  have HTB : Hid (strN (txB ⟨ti, tic, ins, to_, toc, outs⟩) = strN ((countL ni ++ insB ins ++ countL no) ++ outsB outs)) := by
    show _ = _
    rw [hni, hno]
    unfold txB
    simp only [List.append_assoc]
  obtain ⟨SE, hSE⟩ : ∃ SE, SE = strN (txB ⟨ti, tic, ins, to_, toc, outs⟩) := ⟨_, rfl⟩
  have HSE := Lib.hid hSE
  rw [← hSE]
  show Calls Tryd.prog _ #[.agg #[.slice ti ins.length tic, .slice to_ outs.length toc]] w _
  rw [← hni, ← hno]
  clear hT hF hni hno hSE
  go_enter Tryd.func23, Tryd.ntmps23
  go_upto_region 1 with fail
  refine wp_any (fun W => Below w.heap.size w W ∧ Bk W w.heap.size 25 #[.slice ti ni tic, .slice to_ no toc]) ⟨(Below.refl w.heap.size w).alloc (Nat.le_refl _) _, Bk.new _ _ _⟩ ?_
  obtain ⟨g1, hg1⟩ : ∃ g1, g1 = w.heap.size := ⟨_, rfl⟩
  have HG := Lib.hid hg1
  rw [← hg1]
  clear hg1
  rintro W ⟨hW, K⟩
  have HW : Hid (Below w.heap.size w W) := by rw [← HG.out]; exact hW
  clear hW
  have c0 := K.cell 0
  have c1 := K.cell 1
  have z1 := K.lt
  go_wp2_with fail
  refine (HC1.out W).mono ?_
  rintro e W1 ⟨rfl, hb1⟩
  have K := K.keep hb1
  have HW1 := Lib.hid (below_step HW.out HW.out.size hb1)
  clear hb1 HC1 HW c0 c1 z1
  go_upto_region 2 with fail
  go_wp2_with fail
  go_loopw [3, 4] (fun s i wr => ∃ k : Nat, k ≤ ni ∧ i = .int .i64 k ∧ s = .string (strN (countL ni ++ insB (ins.take k))) ∧ Hid (Below w.heap.size w wr) ∧ Bk wr g1 25 #[.slice ti ni tic, .slice to_ no toc]) (fun _ i _ => ni - (intOf i).toNat)
  case atStart => exact ⟨0, Nat.zero_le _, rfl, by rw [List.take_zero]; show _ = Value.string (strN (countL ni ++ [])); rw [List.append_nil], HW1, K⟩
  case round =>
    obtain ⟨k, hk, rfl, rfl, HWV, K⟩ := hrel
    clear HW1
    have c0 := K.cell 0
    have c1 := K.cell 1
    have z1 := K.lt
    by_cases hlt : k < ni
    · obtain ⟨x, b, o, hkx, rfl, hbw, hrg⟩ := row_at HT.out.1 k (by have := HNI.out; show k < ins.length; omega)
      have j1 : decide ((k : Int) < (ni : Int)) = true := decide_eq_true (by omega)
      change w.rangeAt b (o + k * 34) (inL x) at hrg
      have hIV := HT.out.2.1 x (List.mem_of_getElem? hkx)
      have hIF : x.key.length ≤ 200 := HF.out.2.2 x (List.mem_of_getElem? hkx)
      have hbr : b < wr.heap.size := Nat.lt_of_lt_of_le hbw HWV.out.size
      have HRG := Lib.hid hrg
      have d0 : ∀ w', Bk w' g1 25 #[.slice (some ⟨b, o, none⟩) ni tic, .slice to_ no toc] → w'.cell? ⟨g1, 0, none⟩ = some (.slice (some ⟨b, o, none⟩) ni tic) := fun w' h => h.cell 0
      have d32 : ∀ w', Below w.heap.size w w' → w'.cell? ⟨b, o + k * 34 + 32, none⟩ = some (.int .u32 (x.ix : Int)) := fun w' h => (h.cell (p := ⟨b, o + k * 34 + 32, none⟩) hbw).trans (HRG.out 32 _ (in_32 x))
      have d33 : ∀ w', Below w.heap.size w w' → w'.cell? ⟨b, o + k * 34 + 33, none⟩ = some x.kv := fun w' h => (h.cell (p := ⟨b, o + k * 34 + 33, none⟩) hbw).trans (HRG.out 33 _ (in_33 x))
      have q26 : ∀ w', Below w.heap.size w w' → (convert 33 9 (.slice (some ⟨b, o + k * 34, none⟩) 32 32)).run Tryd.prog w' = .ok (.string (strN x.tx.1)) w' := fun w' h => conv_bs ((in_row_bs HRG.out hbw).keep h (Nat.le_refl _))
      have q43 : ∀ w', Below w.heap.size w w' → (convert 33 9 x.kv).run Tryd.prog w' = .ok (.string (strN x.key)) w' := fun w' h => conv_bs (hIV.2.keep h (Nat.le_refl _))
      have hwr : IntKind.u64.wrap (x.ix : Int) = (x.ix : Int) := by have := hIV.1; simp [IntKind.wrap, IntKind.signed, IntKind.bits]; omega
      have HNU := Lib.hid (fun W => rfnum_any 4 x.ix W (by omega) (by have := hIV.1; omega))
      have HTX := Lib.hid (fun W => rftext_any x.key W (by omega))
      have HST : Hid (strN (countL ni ++ insB (ins.take k)) ++ ((strN x.tx.1 ++ strN (toL x.ix 4)) ++ strN (countL x.key.length ++ x.key)) = strN (countL ni ++ insB (ins.take (k + 1)))) := by
        show _ = _
        rw [strN_append, strN_append, strN_append, insB_take ins k x hkx]
        unfold inpB
        simp only [List.append_assoc]
      have y0 : (strN (countL ni ++ insB (ins.take k))).size ≤ 20000 := by
        rw [strN_size, List.length_append]
        have h1 := insB_le _ k HF.out
        simp only at h1
        have h2 := countL_len ni
        omega
      have y1 : (strN x.tx.1).size = 32 := by rw [strN_size]; exact x.tx.2.1
      have y2 : (strN (toL x.ix 4)).size = 4 := by rw [strN_size, toL_length]
      have y3 : (strN (countL x.key.length ++ x.key)).size ≤ 300 := by
        rw [strN_size, List.length_append]
        have h2 := countL_len x.key.length
        omega
      have hkv : ∃ ks kn kc, x.kv = .slice ks kn kc := ⟨_, _, _, rfl⟩
      obtain ⟨ks, kn, kc, hkv⟩ := hkv
      rw [hkv] at d33 q43
      change Hid (∀ W, Calls Tryd.prog _ #[.int .i64 4, _] W _) at HNU
      generalize strN (countL ni ++ insB (ins.take k)) = s0 at *
      obtain ⟨s1, hs1⟩ : ∃ s1, s1 = strN (countL ni ++ insB (ins.take (k + 1))) := ⟨_, rfl⟩
      have HS1 := Lib.hid hs1
      rw [← hs1] at HST
      clear hs1
      generalize strN x.tx.1 = u1 at *
      generalize strN (toL x.ix 4) = u2 at *
      generalize strN (countL x.key.length ++ x.key) = u3 at *
      generalize strN x.key = u4 at *
      generalize x.ix = ix at *
      clear hrg hIV hIF hkx hkv
      go_upto_region 5 with fail
      go_region_held (fun w' => wr.heap.size ≤ w'.heap.size ∧ Bk w' g1 25 #[.slice (some ⟨b, o, none⟩) ni tic, .slice to_ no toc] ∧ Below w.heap.size w w')
        ((refine ⟨?_, ?_, ?_⟩; (focus (first | omega | (simp; done) | (simp; omega) | (simp [World.drew]; done) | (simp [World.drew]; omega))); (focus (repeat' (first | with_reducible assumption | with_reducible exact Bk.new _ _ _ | with_reducible refine Bk.new' _ _ _ ?_ | with_reducible refine Bk.alloc ?_ _ | with_reducible refine Bk.drew ?_ | (with_reducible refine Bk.keep ?_ (by with_reducible assumption)) | (simp; done) | (simp; omega) | (simp [World.drew]; done) | (simp [World.drew]; omega)))); (focus (first | with_reducible assumption | with_reducible exact HWV.out.drew | with_reducible exact HWV.out))))
        (first
          | (go_at_call 55
             with_reducible refine (HNU.out _).mono ?_
             rintro e w6 ⟨rfl, hb6⟩
             have hE6 : From wr w6 := by
               refine below_step ?_ ?_ hb6
               · repeat' (first | with_reducible exact Below.refl _ _ | with_reducible assumption | with_reducible exact From.out (by with_reducible assumption) | with_reducible refine Below.drew ?_ | with_reducible refine Below.setCell ?_ ?_ _ | with_reducible refine Below.alloc ?_ ?_ _ | with_reducible exact Nat.le_refl _ | omega | (simp; done) | (simp; omega) | (simp [World.drew]; done) | (simp [World.drew]; omega))
               · first | omega | (simp; done) | (simp; omega) | (simp [World.drew]; done) | (simp [World.drew]; omega)
             have z6 := hE6.out.size
             have b6 : Below w.heap.size w w6 := HWV.out.trans (hE6.out.mono HWV.out.size)
             have A6 := K.keep hE6.out)
          | (go_at_call 56
             with_reducible refine (HTX.out _).mono ?_
             rintro e w7 ⟨rfl, hb7⟩
             have hE7 : From wr w7 := by
               refine below_step ?_ ?_ hb7
               · repeat' (first | with_reducible exact Below.refl _ _ | with_reducible assumption | with_reducible exact From.out (by with_reducible assumption) | with_reducible refine Below.drew ?_ | with_reducible refine Below.setCell ?_ ?_ _ | with_reducible refine Below.alloc ?_ ?_ _ | with_reducible exact Nat.le_refl _ | omega | (simp; done) | (simp; omega) | (simp [World.drew]; done) | (simp [World.drew]; omega))
               · first | omega | (simp; done) | (simp; omega) | (simp [World.drew]; done) | (simp [World.drew]; omega)
             have z7 := hE7.out.size
             have b7 : Below w.heap.size w w7 := HWV.out.trans (hE7.out.mono HWV.out.size)
             have A7 := K.keep hE7.out))
      all_goals
        go_wp2_with fail
        go_roundw
        case rel => first | exact ⟨k + 1, by omega, by go_num, by rw [HST.out, HS1.out], b7, A7⟩ | exact ⟨k + 1, by omega, by go_num, by rw [HST.out, HS1.out], b6, A6⟩
        case measure => simp [intOf]; omega
    · obtain rfl : k = ni := by omega
      have j1 : decide ((k : Int) < (k : Int)) = false := decide_eq_false (by omega)
      clear hlt
      have e1 : strN (countL k ++ insB (ins.take k)) = strN (countL k ++ insB ins) := by rw [HNI.out, List.take_length]
      rw [e1]
      have hsz : (strN (countL k ++ insB ins)).size ≤ 20000 := by
        rw [strN_size, List.length_append]
        have h1 := insB_le _ ins.length HF.out
        simp only [List.take_length] at h1
        have h2 := countL_len k
        omega
      have hsz2 : (strN (countL no)).size ≤ 9 := by rw [strN_size]; exact countL_len no
      have HAP : Hid (strN (countL k ++ insB ins) ++ strN (countL no) = strN (countL k ++ insB ins ++ countL no)) := strN_append _ _
      have HUL : Hid ((countL k ++ insB ins ++ countL no).length ≤ 30000) := by
        show _ ≤ _
        have h1 := insB_le _ ins.length HF.out
        simp only [List.take_length] at h1
        have h2 := countL_len k
        have h3 := countL_len no
        simp only [List.length_append]
        omega
      obtain ⟨U, hU⟩ : ∃ U, U = countL k ++ insB ins ++ countL no := ⟨_, rfl⟩
      rw [← hU] at HAP HUL
      have HU := Lib.hid hU
      clear e1 hU
      generalize strN (countL k ++ insB ins) = sa at *
      obtain ⟨sb, hsb⟩ : ∃ sb, sb = strN (countL no) := ⟨_, rfl⟩
      have HSB := Lib.hid hsb
      rw [← hsb] at hsz2 HAP HC2
      clear hsb
      go_wp2_with fail
      refine (HC2.out wr).mono ?_
      rintro e W2 ⟨rfl, hb2⟩
      have K2 := K.keep hb2
      have HW2 := Lib.hid (below_step HWV.out HWV.out.size hb2)
      clear hb2 HC2 c0 c1 z1 K HWV
      go_upto_region 7 with fail
      have hap := HAP.out
      rw [hap]
      clear hap HAP hsz hsz2 HSB
      go_wp2_with fail
      go_loopw [3, 5] (fun s i wr => ∃ q : Nat, q ≤ no ∧ i = .int .i64 q ∧ s = .string (strN (U ++ outsB (outs.take q))) ∧ Hid (Below w.heap.size w wr) ∧ Bk wr g1 25 #[.slice ti k tic, .slice to_ no toc]) (fun _ i _ => no - (intOf i).toNat)
      case atStart => exact ⟨0, Nat.zero_le _, rfl, by rw [List.take_zero]; show _ = Value.string (strN (U ++ [])); rw [List.append_nil], HW2, K2⟩
      case round =>
        obtain ⟨q, hq, rfl, rfl, HWV, K⟩ := hrel
        clear HW2 K2
        have c0 := K.cell 0
        have c1 := K.cell 1
        have z1 := K.lt
        by_cases hlq : q < no
        · obtain ⟨x, b, o, hkx, rfl, hbw, hrg⟩ := row_at HT.out.2.2.1 q (by have := HNO.out; show q < outs.length; omega)
          have j2 : decide ((q : Int) < (no : Int)) = true := decide_eq_true (by omega)
          change w.rangeAt b (o + q * 33) (ouL x) at hrg
          have hbr : b < wr.heap.size := Nat.lt_of_lt_of_le hbw HWV.out.size
          have HRG := Lib.hid hrg
          have d1 : ∀ w', Bk w' g1 25 #[.slice ti k tic, .slice (some ⟨b, o, none⟩) no toc] → w'.cell? ⟨g1, 1, none⟩ = some (.slice (some ⟨b, o, none⟩) no toc) := fun w' h => h.cell 1
          have d0 : ∀ w', Below w.heap.size w w' → w'.cell? ⟨b, o + q * 33, none⟩ = some (.int .i64 x.am) := fun w' h => (h.cell (p := ⟨b, o + q * 33, none⟩) hbw).trans (HRG.out 0 _ rfl)
          have q76 : ∀ w', Below w.heap.size w w' → (convert 33 9 (.slice (some ⟨b, o + q * 33 + 1, none⟩) 32 32)).run Tryd.prog w' = .ok (.string (strN x.lock.1)) w' := fun w' h => conv_bs ((out_row_bs HRG.out hbw).keep h (Nat.le_refl _))
          have hwr := am_wrap x.am
          have HNU := Lib.hid (fun W => rfnum_any 8 (am64 x.am) W (by omega) (am_lt x.am))
          have HST : Hid (strN (U ++ outsB (outs.take q)) ++ (strN (toL (am64 x.am) 8) ++ strN x.lock.1) = strN (U ++ outsB (outs.take (q + 1)))) := by
            show _ = _
            rw [strN_append, strN_append, outsB_take outs q x hkx]
            unfold outB
            simp only [List.append_assoc]
          have y0 : (strN (U ++ outsB (outs.take q))).size ≤ 40000 := by
            rw [strN_size, List.length_append]
            have h1 := outsB_le _ q HF.out
            simp only at h1
            have h2 := HUL.out
            omega
          have y1 : (strN x.lock.1).size = 32 := by rw [strN_size]; exact x.lock.2.1
          have y2 : (strN (toL (am64 x.am) 8)).size = 8 := by rw [strN_size, toL_length]
          change Hid (∀ W, Calls Tryd.prog _ #[.int .i64 8, _] W _) at HNU
          generalize strN (U ++ outsB (outs.take q)) = s0 at *
          obtain ⟨s1, hs1⟩ : ∃ s1, s1 = strN (U ++ outsB (outs.take (q + 1))) := ⟨_, rfl⟩
          have HS1 := Lib.hid hs1
          rw [← hs1] at HST
          clear hs1
          generalize strN x.lock.1 = u1 at *
          generalize strN (toL (am64 x.am) 8) = u2 at *
          generalize am64 x.am = am at *
          clear hrg hkx
          go_upto_region 10 with fail
          go_region_held (fun w' => wr.heap.size ≤ w'.heap.size ∧ Bk w' g1 25 #[.slice ti k tic, .slice (some ⟨b, o, none⟩) no toc] ∧ Below w.heap.size w w')
            ((refine ⟨?_, ?_, ?_⟩; (focus (first | omega | (simp; done) | (simp; omega) | (simp [World.drew]; done) | (simp [World.drew]; omega))); (focus (repeat' (first | with_reducible assumption | with_reducible exact Bk.new _ _ _ | with_reducible refine Bk.new' _ _ _ ?_ | with_reducible refine Bk.alloc ?_ _ | with_reducible refine Bk.drew ?_ | (with_reducible refine Bk.keep ?_ (by with_reducible assumption)) | (simp; done) | (simp; omega) | (simp [World.drew]; done) | (simp [World.drew]; omega)))); (focus (first | with_reducible assumption | with_reducible exact HWV.out.drew | with_reducible exact HWV.out))))
            ((go_at_call 55
              with_reducible refine (HNU.out _).mono ?_
              rintro e w6 ⟨rfl, hb6⟩
              have hE6 : From wr w6 := by
                refine below_step ?_ ?_ hb6
                · repeat' (first | with_reducible exact Below.refl _ _ | with_reducible assumption | with_reducible exact From.out (by with_reducible assumption) | with_reducible refine Below.drew ?_ | with_reducible refine Below.setCell ?_ ?_ _ | with_reducible refine Below.alloc ?_ ?_ _ | with_reducible exact Nat.le_refl _ | omega | (simp; done) | (simp; omega) | (simp [World.drew]; done) | (simp [World.drew]; omega))
                · first | omega | (simp; done) | (simp; omega) | (simp [World.drew]; done) | (simp [World.drew]; omega)
              have z6 := hE6.out.size
              have b6 : Below w.heap.size w w6 := HWV.out.trans (hE6.out.mono HWV.out.size)
              have A6 := K.keep hE6.out))
          all_goals
            go_wp2_with fail
            go_roundw
            case rel => exact ⟨q + 1, by omega, by go_num, by rw [HST.out, HS1.out], b6, A6⟩
            case measure => simp [intOf]; omega
        · obtain rfl : q = no := by omega
          have j2 : decide ((q : Int) < (q : Int)) = false := decide_eq_false (by omega)
          have e2 : strN (U ++ outsB (outs.take q)) = strN (U ++ outsB outs) := by rw [HNO.out, List.take_length]
          rw [e2]
          clear hlq e2
          go_wp2_with fail
          go_ret
          refine ⟨?_, HWV.out⟩
          show Ending.returned (.string (strN (U ++ outsB outs))) = .returned (.string SE)
          rw [HSE.out, HTB.out, HU.out]
end Go.Proofs.YtokiinpegclffaaDoor
