/-
  Texts in one: TxK, TxL, TxW0, TxZ.
-/
import Derived.Test.YtmjiadfdmchhaaaDoorTxC
import Derived.Test.YtmjiadfdmchhaaaDoorWfZ
import Derived.Deep.RegionHeld
import Derived.Test.YtmjiadfdmchhaaaDoorTxJ
import Derived.Lib.SlBytesConst
import Derived.Test.YtmjiadfdmchhaaaDoorTxE
import Derived.Test.YtmjiadfdmchhaaaDoorReaZ
import Derived.Test.YtmjiadfdmchhaaaDoorTxY
import Derived.Deep.Slices
import Derived.OpenShut
import Derived.ChangeOld
namespace Go.Proofs.YtmjiadfdmchhaaaDoor
open Go.RowKit
set_option linter.unusedVariables false
set_option linter.unusedSimpArgs false
set_option maxRecDepth 100000

theorem in_row_bs {w : World} {B b o : Nat} {x : InM} (h : w.rangeAt b o (inL x)) (hb : b < B) : BsV w B (.slice (some ⟨b, o, none⟩) 32 32) x.tx.1 :=
  ⟨some ⟨b, o, none⟩, 32, by rw [x.tx.2.1], by rw [x.tx.2.1]; exact Nat.le_refl _, by omega, x.tx.2.2, fun _ => ⟨b, o, rfl, hb, fun i hi => h i _ (in_get x i (by rw [← x.tx.2.1]; exact hi))⟩⟩
theorem out_row_bs {w : World} {B b o : Nat} {x : OutM} (h : w.rangeAt b o (ouL x)) (hb : b < B) : BsV w B (.slice (some ⟨b, o + 1, none⟩) 32 32) x.lock.1 :=
  ⟨some ⟨b, o + 1, none⟩, 32, by rw [x.lock.2.1], by rw [x.lock.2.1]; exact Nat.le_refl _, by omega, x.lock.2.2, fun _ => ⟨b, o + 1, rfl, hb, fun i hi => by
    have := h (1 + i) _ (out_get x i (by rw [← x.lock.2.1]; exact hi))
    rw [show o + 1 + i = o + (1 + i) by omega]
    exact this⟩⟩
set_option maxHeartbeats 8000000 in
theorem r7bytes_any (t : TxM) (w : World) (hT : TxV w w.heap.size t) (hF : TxFit t) :
    Calls Tryd.prog 46 #[txv t] w fun e w' => e = .returned (.string (strN (txB t))) ∧ Below w.heap.size w w' := by
  have HT := Lib.hid hT
  have HF := Lib.hid hF
  obtain ⟨ti, tic, ins, to_, toc, outs⟩ := t
  obtain ⟨ni, hni⟩ : ∃ ni, ni = ins.length := ⟨_, rfl⟩
  obtain ⟨no, hno⟩ : ∃ no, no = outs.length := ⟨_, rfl⟩
  have HNI := Lib.hid hni
  have HNO := Lib.hid hno
  have hni40 : ni ≤ 40 := by rw [hni]; exact HF.out.1
  have hno40 : no ≤ 40 := by rw [hno]; exact HF.out.2.1
  have HC1 := Lib.hid (fun W => rfcount_any ni W (by omega))
  have HC2 := Lib.hid (fun W => rfcount_any no W (by omega))
  have HTB : Hid (strN (txB ⟨ti, tic, ins, to_, toc, outs⟩) = strN ((countL ni ++ insB ins ++ countL no) ++ outsB outs)) := by
    show _ = _
    rw [hni, hno]
    unfold txB
    simp only [List.append_assoc]
  obtain ⟨SE, hSE⟩ : ∃ SE, SE = strN (txB ⟨ti, tic, ins, to_, toc, outs⟩) := ⟨_, rfl⟩
  have HSE := Lib.hid hSE
  rw [← hSE]
  show Calls Tryd.prog _ #[.agg #[.slice ti ins.length tic, .slice to_ outs.length toc]] w _
  rw [← hni, ← hno]
  clear hT hF hni hno hSE
  go_enter Tryd.func46, Tryd.ntmps46
  go_upto_region 1 with fail
  refine wp_any (fun W => Below w.heap.size w W ∧ Bk W w.heap.size 28 #[.slice ti ni tic, .slice to_ no toc]) ⟨(Below.refl w.heap.size w).alloc (Nat.le_refl _) _, Bk.new _ _ _⟩ ?_
  obtain ⟨g1, hg1⟩ : ∃ g1, g1 = w.heap.size := ⟨_, rfl⟩
  have HG := Lib.hid hg1
  rw [← hg1]
  clear hg1
  rintro W ⟨hW, K⟩
  have HW : Hid (Below w.heap.size w W) := by rw [← HG.out]; exact hW
  clear hW
  have c0 := K.cell 0
  have c1 := K.cell 1
  have z1 := K.lt
  go_wp2_with fail
  refine (HC1.out W).mono ?_
  rintro e W1 ⟨rfl, hb1⟩
  have K := K.keep hb1
  have HW1 := Lib.hid (below_step HW.out HW.out.size hb1)
  clear hb1 HC1 HW c0 c1 z1
  go_upto_region 2 with fail
  go_wp2_with fail
  go_loopw [3, 4] (fun s i wr => ∃ k : Nat, k ≤ ni ∧ i = .int .i64 k ∧ s = .string (strN (countL ni ++ insB (ins.take k))) ∧ Hid (Below w.heap.size w wr) ∧ Bk wr g1 28 #[.slice ti ni tic, .slice to_ no toc]) (fun _ i _ => ni - (intOf i).toNat)
  case atStart => exact ⟨0, Nat.zero_le _, rfl, by rw [List.take_zero]; show _ = Value.string (strN (countL ni ++ [])); rw [List.append_nil], HW1, K⟩
  case round =>
    obtain ⟨k, hk, rfl, rfl, HWV, K⟩ := hrel
    clear HW1
    have c0 := K.cell 0
    have c1 := K.cell 1
    have z1 := K.lt
    by_cases hlt : k < ni
    · obtain ⟨x, b, o, hkx, rfl, hbw, hrg⟩ := row_at HT.out.1 k (by have := HNI.out; show k < ins.length; omega)
      have j1 : decide ((k : Int) < (ni : Int)) = true := decide_eq_true (by omega)
      change w.rangeAt b (o + k * 34) (inL x) at hrg
      have hIV := HT.out.2.1 x (List.mem_of_getElem? hkx)
      have hIF : x.key.length ≤ 200 := HF.out.2.2 x (List.mem_of_getElem? hkx)
      have hbr : b < wr.heap.size := Nat.lt_of_lt_of_le hbw HWV.out.size
      have HRG := Lib.hid hrg
      have d0 : ∀ w', Bk w' g1 28 #[.slice (some ⟨b, o, none⟩) ni tic, .slice to_ no toc] → w'.cell? ⟨g1, 0, none⟩ = some (.slice (some ⟨b, o, none⟩) ni tic) := fun w' h => h.cell 0
      have d32 : ∀ w', Below w.heap.size w w' → w'.cell? ⟨b, o + k * 34 + 32, none⟩ = some (.int .u32 (x.ix : Int)) := fun w' h => (h.cell (p := ⟨b, o + k * 34 + 32, none⟩) hbw).trans (HRG.out 32 _ (in_32 x))
      have d33 : ∀ w', Below w.heap.size w w' → w'.cell? ⟨b, o + k * 34 + 33, none⟩ = some x.kv := fun w' h => (h.cell (p := ⟨b, o + k * 34 + 33, none⟩) hbw).trans (HRG.out 33 _ (in_33 x))
      have q26 : ∀ w', Below w.heap.size w w' → (convert 32 9 (.slice (some ⟨b, o + k * 34, none⟩) 32 32)).run Tryd.prog w' = .ok (.string (strN x.tx.1)) w' := fun w' h => conv_bs ((in_row_bs HRG.out hbw).keep h (Nat.le_refl _))
      have q43 : ∀ w', Below w.heap.size w w' → (convert 32 9 x.kv).run Tryd.prog w' = .ok (.string (strN x.key)) w' := fun w' h => conv_bs (hIV.2.keep h (Nat.le_refl _))
      have hwr : IntKind.u64.wrap (x.ix : Int) = (x.ix : Int) := by have := hIV.1; simp [IntKind.wrap, IntKind.signed, IntKind.bits]; omega
      have HNU := Lib.hid (fun W => rfnum_any 4 x.ix W (by omega) (by have := hIV.1; omega))
      have HTX := Lib.hid (fun W => rftext_any x.key W (by omega))
      have HST : Hid (strN (countL ni ++ insB (ins.take k)) ++ ((strN x.tx.1 ++ strN (toL x.ix 4)) ++ strN (countL x.key.length ++ x.key)) = strN (countL ni ++ insB (ins.take (k + 1)))) := by
        show _ = _
        rw [strN_append, strN_append, strN_append, insB_take ins k x hkx]
        unfold inpB
        simp only [List.append_assoc]
      have y0 : (strN (countL ni ++ insB (ins.take k))).size ≤ 20000 := by
        rw [strN_size, List.length_append]
        have h1 := insB_le _ k HF.out
        simp only at h1
        have h2 := countL_len ni
        omega
      have y1 : (strN x.tx.1).size = 32 := by rw [strN_size]; exact x.tx.2.1
      have y2 : (strN (toL x.ix 4)).size = 4 := by rw [strN_size, toL_length]
      have y3 : (strN (countL x.key.length ++ x.key)).size ≤ 300 := by
        rw [strN_size, List.length_append]
        have h2 := countL_len x.key.length
        omega
      have hkv : ∃ ks kn kc, x.kv = .slice ks kn kc := ⟨_, _, _, rfl⟩
      obtain ⟨ks, kn, kc, hkv⟩ := hkv
      rw [hkv] at d33 q43
      change Hid (∀ W, Calls Tryd.prog _ #[.int .i64 4, _] W _) at HNU
      generalize strN (countL ni ++ insB (ins.take k)) = s0 at *
      obtain ⟨s1, hs1⟩ : ∃ s1, s1 = strN (countL ni ++ insB (ins.take (k + 1))) := ⟨_, rfl⟩
      have HS1 := Lib.hid hs1
      rw [← hs1] at HST
      clear hs1
      generalize strN x.tx.1 = u1 at *
      generalize strN (toL x.ix 4) = u2 at *
      generalize strN (countL x.key.length ++ x.key) = u3 at *
      generalize strN x.key = u4 at *
      generalize x.ix = ix at *
      clear hrg hIV hIF hkx hkv
      go_upto_region 5 with fail
      go_region_held (fun w' => wr.heap.size ≤ w'.heap.size ∧ Bk w' g1 28 #[.slice (some ⟨b, o, none⟩) ni tic, .slice to_ no toc] ∧ Below w.heap.size w w')
        ((refine ⟨?_, ?_, ?_⟩; (focus (first | omega | (simp; done) | (simp; omega) | (simp [World.drew]; done) | (simp [World.drew]; omega))); (focus (repeat' (first | with_reducible assumption | with_reducible exact Bk.new _ _ _ | with_reducible refine Bk.new' _ _ _ ?_ | with_reducible refine Bk.alloc ?_ _ | with_reducible refine Bk.drew ?_ | (with_reducible refine Bk.keep ?_ (by with_reducible assumption)) | (simp; done) | (simp; omega) | (simp [World.drew]; done) | (simp [World.drew]; omega)))); (focus (first | with_reducible assumption | with_reducible exact HWV.out.drew | with_reducible exact HWV.out))))
        (first
          | (go_at_call 63
             with_reducible refine (HNU.out _).mono ?_
             rintro e w6 ⟨rfl, hb6⟩
             have hE6 : From wr w6 := by
               refine below_step ?_ ?_ hb6
               · repeat' (first | with_reducible exact Below.refl _ _ | with_reducible assumption | with_reducible exact From.out (by with_reducible assumption) | with_reducible refine Below.drew ?_ | with_reducible refine Below.setCell ?_ ?_ _ | with_reducible refine Below.alloc ?_ ?_ _ | with_reducible exact Nat.le_refl _ | omega | (simp; done) | (simp; omega) | (simp [World.drew]; done) | (simp [World.drew]; omega))
               · first | omega | (simp; done) | (simp; omega) | (simp [World.drew]; done) | (simp [World.drew]; omega)
             have z6 := hE6.out.size
             have b6 : Below w.heap.size w w6 := HWV.out.trans (hE6.out.mono HWV.out.size)
             have A6 := K.keep hE6.out)
          | (go_at_call 64
             with_reducible refine (HTX.out _).mono ?_
             rintro e w7 ⟨rfl, hb7⟩
             have hE7 : From wr w7 := by
               refine below_step ?_ ?_ hb7
               · repeat' (first | with_reducible exact Below.refl _ _ | with_reducible assumption | with_reducible exact From.out (by with_reducible assumption) | with_reducible refine Below.drew ?_ | with_reducible refine Below.setCell ?_ ?_ _ | with_reducible refine Below.alloc ?_ ?_ _ | with_reducible exact Nat.le_refl _ | omega | (simp; done) | (simp; omega) | (simp [World.drew]; done) | (simp [World.drew]; omega))
               · first | omega | (simp; done) | (simp; omega) | (simp [World.drew]; done) | (simp [World.drew]; omega)
             have z7 := hE7.out.size
             have b7 : Below w.heap.size w w7 := HWV.out.trans (hE7.out.mono HWV.out.size)
             have A7 := K.keep hE7.out))
      all_goals
        go_wp2_with fail
        go_roundw
        case rel => first | exact ⟨k + 1, by omega, by go_num, by rw [HST.out, HS1.out], b7, A7⟩ | exact ⟨k + 1, by omega, by go_num, by rw [HST.out, HS1.out], b6, A6⟩
        case measure => simp [intOf]; omega
    · obtain rfl : k = ni := by omega
      have j1 : decide ((k : Int) < (k : Int)) = false := decide_eq_false (by omega)
      clear hlt
      have e1 : strN (countL k ++ insB (ins.take k)) = strN (countL k ++ insB ins) := by rw [HNI.out, List.take_length]
      rw [e1]
      have hsz : (strN (countL k ++ insB ins)).size ≤ 20000 := by
        rw [strN_size, List.length_append]
        have h1 := insB_le _ ins.length HF.out
        simp only [List.take_length] at h1
        have h2 := countL_len k
        omega
      have hsz2 : (strN (countL no)).size ≤ 9 := by rw [strN_size]; exact countL_len no
      have HAP : Hid (strN (countL k ++ insB ins) ++ strN (countL no) = strN (countL k ++ insB ins ++ countL no)) := strN_append _ _
      have HUL : Hid ((countL k ++ insB ins ++ countL no).length ≤ 30000) := by
        show _ ≤ _
        have h1 := insB_le _ ins.length HF.out
        simp only [List.take_length] at h1
        have h2 := countL_len k
        have h3 := countL_len no
        simp only [List.length_append]
        omega
      obtain ⟨U, hU⟩ : ∃ U, U = countL k ++ insB ins ++ countL no := ⟨_, rfl⟩
      rw [← hU] at HAP HUL
      have HU := Lib.hid hU
      clear e1 hU
      generalize strN (countL k ++ insB ins) = sa at *
      obtain ⟨sb, hsb⟩ : ∃ sb, sb = strN (countL no) := ⟨_, rfl⟩
      have HSB := Lib.hid hsb
      rw [← hsb] at hsz2 HAP HC2
      clear hsb
      go_wp2_with fail
      refine (HC2.out wr).mono ?_
      rintro e W2 ⟨rfl, hb2⟩
      have K2 := K.keep hb2
      have HW2 := Lib.hid (below_step HWV.out HWV.out.size hb2)
      clear hb2 HC2 c0 c1 z1 K HWV
      go_upto_region 7 with fail
      have hap := HAP.out
      rw [hap]
      clear hap HAP hsz hsz2 HSB
      go_wp2_with fail
      go_loopw [3, 5] (fun s i wr => ∃ q : Nat, q ≤ no ∧ i = .int .i64 q ∧ s = .string (strN (U ++ outsB (outs.take q))) ∧ Hid (Below w.heap.size w wr) ∧ Bk wr g1 28 #[.slice ti k tic, .slice to_ no toc]) (fun _ i _ => no - (intOf i).toNat)
      case atStart => exact ⟨0, Nat.zero_le _, rfl, by rw [List.take_zero]; show _ = Value.string (strN (U ++ [])); rw [List.append_nil], HW2, K2⟩
      case round =>
        obtain ⟨q, hq, rfl, rfl, HWV, K⟩ := hrel
        clear HW2 K2
        have c0 := K.cell 0
        have c1 := K.cell 1
        have z1 := K.lt
        by_cases hlq : q < no
        · obtain ⟨x, b, o, hkx, rfl, hbw, hrg⟩ := row_at HT.out.2.2.1 q (by have := HNO.out; show q < outs.length; omega)
          have j2 : decide ((q : Int) < (no : Int)) = true := decide_eq_true (by omega)
          change w.rangeAt b (o + q * 33) (ouL x) at hrg
          have hbr : b < wr.heap.size := Nat.lt_of_lt_of_le hbw HWV.out.size
          have HRG := Lib.hid hrg
          have d1 : ∀ w', Bk w' g1 28 #[.slice ti k tic, .slice (some ⟨b, o, none⟩) no toc] → w'.cell? ⟨g1, 1, none⟩ = some (.slice (some ⟨b, o, none⟩) no toc) := fun w' h => h.cell 1
          have d0 : ∀ w', Below w.heap.size w w' → w'.cell? ⟨b, o + q * 33, none⟩ = some (.int .i64 x.am) := fun w' h => (h.cell (p := ⟨b, o + q * 33, none⟩) hbw).trans (HRG.out 0 _ rfl)
          have q76 : ∀ w', Below w.heap.size w w' → (convert 32 9 (.slice (some ⟨b, o + q * 33 + 1, none⟩) 32 32)).run Tryd.prog w' = .ok (.string (strN x.lock.1)) w' := fun w' h => conv_bs ((out_row_bs HRG.out hbw).keep h (Nat.le_refl _))
          have hwr := am_wrap x.am
          have HNU := Lib.hid (fun W => rfnum_any 8 (am64 x.am) W (by omega) (am_lt x.am))
          have HST : Hid (strN (U ++ outsB (outs.take q)) ++ (strN (toL (am64 x.am) 8) ++ strN x.lock.1) = strN (U ++ outsB (outs.take (q + 1)))) := by
            show _ = _
            rw [strN_append, strN_append, outsB_take outs q x hkx]
            unfold outB
            simp only [List.append_assoc]
          have y0 : (strN (U ++ outsB (outs.take q))).size ≤ 40000 := by
            rw [strN_size, List.length_append]
            have h1 := outsB_le _ q HF.out
            simp only at h1
            have h2 := HUL.out
            omega
          have y1 : (strN x.lock.1).size = 32 := by rw [strN_size]; exact x.lock.2.1
          have y2 : (strN (toL (am64 x.am) 8)).size = 8 := by rw [strN_size, toL_length]
          change Hid (∀ W, Calls Tryd.prog _ #[.int .i64 8, _] W _) at HNU
          generalize strN (U ++ outsB (outs.take q)) = s0 at *
          obtain ⟨s1, hs1⟩ : ∃ s1, s1 = strN (U ++ outsB (outs.take (q + 1))) := ⟨_, rfl⟩
          have HS1 := Lib.hid hs1
          rw [← hs1] at HST
          clear hs1
          generalize strN x.lock.1 = u1 at *
          generalize strN (toL (am64 x.am) 8) = u2 at *
          generalize am64 x.am = am at *
          clear hrg hkx
          go_upto_region 10 with fail
          go_region_held (fun w' => wr.heap.size ≤ w'.heap.size ∧ Bk w' g1 28 #[.slice ti k tic, .slice (some ⟨b, o, none⟩) no toc] ∧ Below w.heap.size w w')
            ((refine ⟨?_, ?_, ?_⟩; (focus (first | omega | (simp; done) | (simp; omega) | (simp [World.drew]; done) | (simp [World.drew]; omega))); (focus (repeat' (first | with_reducible assumption | with_reducible exact Bk.new _ _ _ | with_reducible refine Bk.new' _ _ _ ?_ | with_reducible refine Bk.alloc ?_ _ | with_reducible refine Bk.drew ?_ | (with_reducible refine Bk.keep ?_ (by with_reducible assumption)) | (simp; done) | (simp; omega) | (simp [World.drew]; done) | (simp [World.drew]; omega)))); (focus (first | with_reducible assumption | with_reducible exact HWV.out.drew | with_reducible exact HWV.out))))
            ((go_at_call 63
              with_reducible refine (HNU.out _).mono ?_
              rintro e w6 ⟨rfl, hb6⟩
              have hE6 : From wr w6 := by
                refine below_step ?_ ?_ hb6
                · repeat' (first | with_reducible exact Below.refl _ _ | with_reducible assumption | with_reducible exact From.out (by with_reducible assumption) | with_reducible refine Below.drew ?_ | with_reducible refine Below.setCell ?_ ?_ _ | with_reducible refine Below.alloc ?_ ?_ _ | with_reducible exact Nat.le_refl _ | omega | (simp; done) | (simp; omega) | (simp [World.drew]; done) | (simp [World.drew]; omega))
                · first | omega | (simp; done) | (simp; omega) | (simp [World.drew]; done) | (simp [World.drew]; omega)
              have z6 := hE6.out.size
              have b6 : Below w.heap.size w w6 := HWV.out.trans (hE6.out.mono HWV.out.size)
              have A6 := K.keep hE6.out))
          all_goals
            go_wp2_with fail
            go_roundw
            case rel => exact ⟨q + 1, by omega, by go_num, by rw [HST.out, HS1.out], b6, A6⟩
            case measure => simp [intOf]; omega
        · obtain rfl : q = no := by omega
          have j2 : decide ((q : Int) < (q : Int)) = false := decide_eq_false (by omega)
          have e2 : strN (U ++ outsB (outs.take q)) = strN (U ++ outsB outs) := by rw [HNO.out, List.take_length]
          rw [e2]
          clear hlq e2
          go_wp2_with fail
          go_ret
          refine ⟨?_, HWV.out⟩
          show Ending.returned (.string (strN (U ++ outsB outs))) = .returned (.string SE)
          rw [HSE.out, HTB.out, HU.out]
end Go.Proofs.YtmjiadfdmchhaaaDoor
namespace Go.Proofs.YtmjiadfdmchhaaaDoor
open Go.RowKit
set_option linter.unusedVariables false
set_option linter.unusedSimpArgs false
set_option maxRecDepth 100000

end Go.Proofs.YtmjiadfdmchhaaaDoor
namespace Go.Proofs.YtmjiadfdmchhaaaDoor
open Go.RowKit
set_option linter.unusedVariables false
set_option linter.unusedSimpArgs false
set_option maxRecDepth 100000

def TB : List Nat := [1, 0,0,0,0,0,0,0,0,0,0,0,0,0,0,0,0,0,0,0,0,0,0,0,0,0,0,0,0,0,0,0,0, 0,0,0,0, 1, 107, 1, 5,0,0,0,0,0,0,0, 0,0,0,0,0,0,0,0,0,0,0,0,0,0,0,0,0,0,0,0,0,0,0,0,0,0,0,0,0,0,0,0]
def tw (g : Nat) : TxM := ⟨some ⟨g + 1, 0, none⟩, 1, [⟨i0, 0, some ⟨g, 0, none⟩, 1, [107]⟩], some ⟨g + 2, 0, none⟩, 1, [⟨5, i0⟩]⟩
def BL : List Nat := hB hd0 ++ (countL 1 ++ TB)
end Go.Proofs.YtmjiadfdmchhaaaDoor
namespace Go.Proofs.YtmjiadfdmchhaaaDoor
open Go.RowKit
set_option linter.unusedVariables false
set_option linter.unusedSimpArgs false
set_option maxRecDepth 100000

/-- What stands behind the head's first two steps. -/
def WSt (w W : World) (g g2 ob oo : Nat) (sa : Option Addr) (na ca cb : Nat) : Prop := Below w.heap.size w W ∧ Bk W (g + 3) 28 #[.slice (some ⟨g + 1, 0, none⟩) 1 1, .slice (some ⟨g + 2, 0, none⟩) 1 1] ∧ TxV W (g + 3) (tw g) ∧ Bk W g2 28 #[.slice sa na ca, .slice (some ⟨ob, oo, none⟩) 1 cb] ∧ W.cell? ⟨ob, oo, none⟩ = some (.int .i64 5) ∧ ob < W.heap.size
theorem WSt.keep {w W W' : World} {g g2 ob oo : Nat} {sa : Option Addr} {na ca cb : Nat} (h : WSt w W g g2 ob oo sa na ca cb) (hb : Below W.heap.size W W') : WSt w W' g g2 ob oo sa na ca cb := ⟨below_step h.1 h.1.size hb, h.2.1.keep hb, h.2.2.1.keep hb (by have := h.2.1.lt; omega), h.2.2.2.1.keep hb, (hb.cell (p := ⟨ob, oo, none⟩) h.2.2.2.2.2).trans h.2.2.2.2.1, Nat.lt_of_lt_of_le h.2.2.2.2.2 hb.size⟩
end Go.Proofs.YtmjiadfdmchhaaaDoor
namespace Go.Proofs.YtmjiadfdmchhaaaDoor
open Go.RowKit
set_option linter.unusedVariables false
set_option linter.unusedSimpArgs false
set_option maxRecDepth 100000

end Go.Proofs.YtmjiadfdmchhaaaDoor
namespace Go.Proofs.YtmjiadfdmchhaaaDoor
open Go.ChangeShapes Go.WideShapes Go.ChangeAt Go.RowKit
open Go.Deep (open_slice choose_lt)
set_option linter.unusedVariables false
set_option linter.unusedSimpArgs false
set_option maxRecDepth 100000

/-- 32 bytes. -/
def IsI (x : List Nat) : Prop := x.length = 32 ∧ ∀ b ∈ x, b < 256
theorem wf_u64p {z : Int} (h : (Lit.int .u64 z).wf = true) : 0 ≤ z ∧ z < 18446744073709551616 := by
  simp [Lit.wf, IntKind.min, IntKind.max, IntKind.signed, IntKind.bits] at h
  omega
theorem wf_i64p {z : Int} (h : (Lit.int .i64 z).wf = true) : -9223372036854775808 ≤ z ∧ z ≤ 9223372036854775807 := by
  simp [Lit.wf, IntKind.min, IntKind.max, IntKind.signed, IntKind.bits] at h
  omega
section
variable {H : Type} {enc : TypeId × Value → H} {P : Program} {w : World} {base : Nat} {spare : Nat → Bool} {held : Bool}
theorem i_of_trod {t e : TypeId} {f : Nat} {cs : List Value} {d : DataW H} {p : List MemPlace} (ht : P.underlying t = some (.array 32 e)) (he : P.underlying e = some (.int .u8)) (hce : P.cellsOf e = 1)
    (hlen : cs.length = 32) (h : DataW.trod enc P w base spare held f t cs = some (d, p)) : ∃ x, IsI x ∧ cs = (idA x).toList := by
  obtain ⟨xs, m, _, _, hcl, hxl, hi⟩ := DataW.trod_array ht h
  have hz : ∀ i, i < 32 → ∃ z : Nat, cs[i]? = some (.int .u8 (z : Int)) ∧ z < 256 := by
    intro i hin
    have h1 := hi i hin
    rw [hce, List.getElem?_eq_getElem (by omega)] at h1
    obtain ⟨z, e1, _, hw⟩ := DataW.trod_int he h1
    have hl : i < cs.length := by omega
    simp only [Nat.mul_one] at e1
    rw [List.drop_eq_getElem_cons hl] at e1
    simp only [List.take_succ_cons, List.take_zero, List.cons.injEq, and_true] at e1
    have hb := wf_byte hw
    obtain ⟨n, rfl⟩ := Int.eq_ofNat_of_zero_le hb.1
    refine ⟨n, ?_, by omega⟩
    rw [List.getElem?_eq_getElem hl]
    simpa using e1
  obtain ⟨g, hg⟩ := choose_lt hz
  refine ⟨(List.range 32).map g, ⟨by simp, fun b hb => ?_⟩, ?_⟩
  · obtain ⟨i, hi, rfl⟩ := List.mem_map.1 hb
    exact (hg i (by simpa using hi)).2
  · apply List.ext_getElem?
    intro i
    rw [show (idA ((List.range 32).map g)).toList = ((List.range 32).map g).map byteV from rfl, List.getElem?_map, List.getElem?_map]
    by_cases hi : i < 32
    · rw [(hg i hi).1, List.getElem?_range hi]
      rfl
    · rw [List.getElem?_eq_none (by omega), List.getElem?_eq_none (by simp; omega)]
      rfl
theorem u64_of_trod {t : TypeId} {f o : Nat} {cs : List Value} {d : DataW H × List MemPlace} (ht : P.underlying t = some (.int .u64)) (ho : o < cs.length)
    (h : DataW.trod enc P w base spare held f t ((cs.drop o).take 1) = some d) : ∃ n : Nat, n < 18446744073709551616 ∧ cs[o]? = some (.int .u64 (n : Int)) := by
  obtain ⟨z, e1, _, hw⟩ := DataW.trod_int ht h
  rw [List.drop_eq_getElem_cons ho] at e1
  simp only [List.take_succ_cons, List.take_zero, List.cons.injEq, and_true] at e1
  have hb := wf_u64p hw
  obtain ⟨n, rfl⟩ := Int.eq_ofNat_of_zero_le hb.1
  exact ⟨n, by omega, by rw [List.getElem?_eq_getElem ho, e1]⟩
theorem i64_of_trod {t : TypeId} {f o : Nat} {cs : List Value} {d : DataW H × List MemPlace} (ht : P.underlying t = some (.int .i64)) (ho : o < cs.length)
    (h : DataW.trod enc P w base spare held f t ((cs.drop o).take 1) = some d) : ∃ n : Int, (-9223372036854775808 ≤ n ∧ n ≤ 9223372036854775807) ∧ cs[o]? = some (.int .i64 n) := by
  obtain ⟨z, e1, _, hw⟩ := DataW.trod_int ht h
  rw [List.drop_eq_getElem_cons ho] at e1
  simp only [List.take_succ_cons, List.take_zero, List.cons.injEq, and_true] at e1
  exact ⟨z, wf_i64p hw, by rw [List.getElem?_eq_getElem ho, e1]⟩
end
theorem bytes_trodX {H : Type} {enc : TypeId × Value → H} {w : World} {base f : Nat} {spare : Nat → Bool} {held : Bool} {cs : List Value} {x : DataW H × List MemPlace}
    (hf : DataW.trod enc Tryd.prog w base spare held f 32 cs = some x) : ∃ (v : Value) (xs : List Nat), cs = [v] ∧ BsV w w.heap.size v xs := by
  rcases open_ints Tryd.underlying32 Tryd.underlying5 (by kernel_rfl) hf with ⟨rfl, _⟩ | ⟨a, len, cap, zs, rfl, _, hl, hm, hz, _, hcell, hwz⟩
  · exact ⟨_, [], rfl, none, 0, rfl, Nat.le_refl _, by omega, by simp, fun h => absurd rfl h⟩
  · have hlz : len ≤ zs.length := by rw [hz]; split <;> omega
    have hxl : ((zs.take len).map Int.toNat).length = len := by rw [List.length_map, List.length_take]; omega
    refine ⟨_, (zs.take len).map Int.toNat, rfl, some a, cap, by rw [hxl], by omega, by unfold maxLen at hm; omega, ?_, ?_⟩
    · intro x hx
      simp only [List.mem_map] at hx
      obtain ⟨z, hzm, rfl⟩ := hx
      have := wf_byte (hwz z (List.mem_of_mem_take hzm))
      omega
    · intro hne
      have hpos : 0 < len := by
        rcases Nat.eq_zero_or_pos len with h0 | h0
        · subst h0; simp at hne
        · exact h0
      have c0 := hcell 0 (by omega)
      obtain ⟨b, o, spot⟩ := a
      have hspot : spot = none := by simpa [Addr.add] using World.cell?_spot c0
      subst hspot
      refine ⟨b, o, rfl, ?_, fun i hi => ?_⟩
      · exact block_lt_of_cell (a := ⟨b, o, none⟩) (by have := c0; simpa [Go.WideShapes.add_plain] using this)
      · have hi' : i < len := by rw [hxl] at hi; exact hi
        have ci := hcell i (by omega)
        rw [Addr.add_mid] at ci
        rw [ci]
        have hzi : zs[i]? = some (zs[i]'(by omega)) := List.getElem?_eq_getElem (by omega)
        have hw := wf_byte (hwz _ (List.getElem_mem (show i < zs.length by omega)))
        have e1 : zs.getD i 0 = zs[i]'(by omega) := by rw [List.getD, hzi]; rfl
        have e2 : nth ((zs.take len).map Int.toNat) i = (zs[i]'(by omega)).toNat := by
          unfold nth
          rw [List.getD, List.getElem?_map, List.getElem?_take_of_lt hi', hzi]; rfl
        rw [e1, e2]
        congr 2
        omega
theorem wf_u32' {z : Int} (h : (Lit.int .u32 z).wf = true) : 0 ≤ z ∧ z < 4294967296 := by
  simp [Lit.wf, IntKind.min, IntKind.max, IntKind.signed, IntKind.bits] at h
  omega
section
variable {H : Type} {enc : TypeId × Value → H} {P : Program} {w : World} {base : Nat} {spare : Nat → Bool} {held : Bool}
theorem u32_of_trod {t : TypeId} {f o : Nat} {cs : List Value} {d : DataW H × List MemPlace} (ht : P.underlying t = some (.int .u32)) (ho : o < cs.length)
    (h : DataW.trod enc P w base spare held f t ((cs.drop o).take 1) = some d) : ∃ n : Nat, n < 4294967296 ∧ cs[o]? = some (.int .u32 (n : Int)) := by
  obtain ⟨z, e1, _, hw⟩ := DataW.trod_int ht h
  rw [List.drop_eq_getElem_cons ho] at e1
  simp only [List.take_succ_cons, List.take_zero, List.cons.injEq, and_true] at e1
  have hb := wf_u32' hw
  obtain ⟨n, rfl⟩ := Int.eq_ofNat_of_zero_le hb.1
  exact ⟨n, by omega, by rw [List.getElem?_eq_getElem ho, e1]⟩
end
theorem drop_one {cs : List Value} {o : Nat} {v : Value} (h : cs[o]? = some v) : cs.drop o = v :: cs.drop (o + 1) := by
  obtain ⟨ho, hv⟩ := List.getElem?_eq_some_iff.1 h
  rw [List.drop_eq_getElem_cons ho, hv]
theorem in_trod {H : Type} {enc : TypeId × Value → H} {w : World} {base f : Nat} {spare : Nat → Bool} {held : Bool} {cs : List Value} {d : DataW H × List MemPlace} (hl : cs.length = 34)
    (hf : DataW.trod enc Tryd.prog w base spare held f 68 cs = some d) : ∃ x, InV w w.heap.size x ∧ cs = inL x := by
  obtain ⟨d, p⟩ := d
  have h33 : Tryd.prog.cellsOf 54 = 33 := by kernel_rfl
  have h32 : Tryd.prog.cellsOf 23 = 32 := by kernel_rfl
  have h1 : Tryd.prog.cellsOf 35 = 1 := by kernel_rfl
  have hs1 : Tryd.prog.cellsOf 32 = 1 := by kernel_rfl
  obtain ⟨xs, n, _, _, _, hxl, hi⟩ := DataW.trod_struct Tryd.underlying68 hf
  have e0 : DataW.trod enc Tryd.prog w base spare held n 54 ((cs.drop 0).take (Tryd.prog.cellsOf 54)) = xs[0]? := hi 0 _ rfl
  rw [h33, List.getElem?_eq_getElem (by rw [hxl]; decide)] at e0
  have e1 : DataW.trod enc Tryd.prog w base spare held n 32 ((cs.drop 33).take (Tryd.prog.cellsOf 32)) = xs[1]? := hi 1 _ rfl
  rw [hs1, List.getElem?_eq_getElem (by rw [hxl]; decide)] at e1
  obtain ⟨ys, n2, _, _, _, hyl, hj⟩ := DataW.trod_struct Tryd.underlying54 e0
  have f0 : DataW.trod enc Tryd.prog w base spare held n2 23 ((((cs.drop 0).take 33).drop 0).take (Tryd.prog.cellsOf 23)) = ys[0]? := hj 0 _ rfl
  rw [h32, List.getElem?_eq_getElem (by rw [hyl]; decide)] at f0
  have f1 : DataW.trod enc Tryd.prog w base spare held n2 35 ((((cs.drop 0).take 33).drop 32).take (Tryd.prog.cellsOf 35)) = ys[1]? := hj 1 _ rfl
  rw [h1, List.getElem?_eq_getElem (by rw [hyl]; decide)] at f1
  have hl33 : ((cs.drop 0).take 33).length = 33 := by rw [List.length_take, List.length_drop, hl]; decide
  obtain ⟨q, q1, q2⟩ := i_of_trod Tryd.underlying23 Tryd.underlying5 (by kernel_rfl) (by rw [List.length_take, List.length_drop, hl33]; decide) f0
  obtain ⟨ix, i1, i2⟩ := u32_of_trod Tryd.underlying35 (by rw [hl33]; decide) f1
  obtain ⟨v, zs, k1, k2⟩ := bytes_trodX e1
  obtain ⟨ks, kc, rfl, k3⟩ := k2
  refine ⟨⟨⟨q, q1⟩, ix, ks, kc, zs⟩, ⟨i1, ks, kc, rfl, k3⟩, ?_⟩
  have c32 : cs[32]? = some (.int .u32 (ix : Int)) := by
    rw [List.drop_zero, List.getElem?_take_of_lt (by decide)] at i2
    exact i2
  have c33 : cs.drop 33 = [.slice ks zs.length kc] := by
    rw [List.take_of_length_le (by rw [List.length_drop, hl]; decide)] at k1
    exact k1
  have c0 : cs.take 32 = q.map byteV := by
    have e : ((((cs.drop 0).take 33).drop 0).take 32) = cs.take 32 := by
      rw [List.drop_zero, List.drop_zero, List.take_take]
      rfl
    rw [e] at q2
    exact q2
  rw [← List.take_append_drop 32 cs, c0, drop_one c32, c33]
  rfl
theorem out_trod {H : Type} {enc : TypeId × Value → H} {w : World} {base f : Nat} {spare : Nat → Bool} {held : Bool} {cs : List Value} {d : DataW H × List MemPlace} (hl : cs.length = 33)
    (hf : DataW.trod enc Tryd.prog w base spare held f 76 cs = some d) : ∃ x, OutOk x ∧ cs = ouL x := by
  obtain ⟨d, p⟩ := d
  have h32 : Tryd.prog.cellsOf 23 = 32 := by kernel_rfl
  have h1 : Tryd.prog.cellsOf 2 = 1 := by kernel_rfl
  obtain ⟨xs, n, _, _, _, hxl, hi⟩ := DataW.trod_struct Tryd.underlying76 hf
  have e0 : DataW.trod enc Tryd.prog w base spare held n 2 ((cs.drop 0).take (Tryd.prog.cellsOf 2)) = xs[0]? := hi 0 _ rfl
  rw [h1, List.getElem?_eq_getElem (by rw [hxl]; decide)] at e0
  have e1 : DataW.trod enc Tryd.prog w base spare held n 23 ((cs.drop 1).take (Tryd.prog.cellsOf 23)) = xs[1]? := hi 1 _ rfl
  rw [h32, List.getElem?_eq_getElem (by rw [hxl]; decide)] at e1
  obtain ⟨a, a1, a2⟩ := i64_of_trod Tryd.underlying2 (by rw [hl]; decide) e0
  obtain ⟨q, q1, q2⟩ := i_of_trod Tryd.underlying23 Tryd.underlying5 (by kernel_rfl) (by rw [List.length_take, List.length_drop, hl]; decide) e1
  refine ⟨⟨a, ⟨q, q1⟩⟩, a1, ?_⟩
  have c1 : cs.drop 1 = q.map byteV := by
    rw [List.take_of_length_le (by rw [List.length_drop, hl]; decide)] at q2
    exact q2
  have := drop_one a2
  rw [List.drop_zero, c1] at this
  exact this
/-- A slice of elements of any kind, wherever it comes from. -/
theorem rows_trod {α : Type} {R : RowT α} (hR : R.Ok) (Pr : α → Prop) {H : Type} {enc : TypeId × Value → H} {w : World} {base f : Nat} {spare : Nat → Bool} {held : Bool} {cs0 : List Value} {d : DataW H × List MemPlace}
    (hce : Tryd.prog.cellsOf R.e = R.k) (hel : ∀ n cs d, cs.length = R.k → DataW.trod enc Tryd.prog w base spare held n R.e cs = some d → ∃ x, Pr x ∧ cs = R.c x)
    (hf : DataW.trod enc Tryd.prog w base spare held f R.t cs0 = some d) : ∃ s L c, cs0 = [.slice s L.length c] ∧ RowV R w w.heap.size (.slice s L.length c) L ∧ ∀ x ∈ L, Pr x := by
  rcases open_slice hR.ht hf with ⟨hcs, _⟩ | ⟨a, len, cap, m, n, D, Pl, hcs, _, hlc, hcm, hm, _, hx⟩
  · exact ⟨none, [], 0, hcs, ⟨none, 0, rfl, Nat.le_refl _, by omega, fun h => absurd rfl h⟩, fun x hx => by cases hx⟩
  · have hlm : len ≤ m := by rw [hm]; split <;> omega
    have hk : ∀ i, i < len → ∃ x, Pr x ∧ ∀ j u, (R.c x)[j]? = some u → w.cell? ((a.add (i * R.k)).add j) = some u := by
      intro i hi
      obtain ⟨cs, hc, ht⟩ := hx i (by omega)
      rw [hce] at hc
      obtain ⟨_, hl, hcell⟩ := World.cells?_some hc
      obtain ⟨x, hx1, rfl⟩ := hel _ _ _ hl ht
      refine ⟨x, hx1, fun j u hj => ?_⟩
      have hjl := (List.getElem?_eq_some_iff.1 hj).1
      rw [hcell j (by omega)]
      exact hj
    haveI : Inhabited α := ⟨R.z⟩
    obtain ⟨g, hg⟩ := choose_lt hk
    have hll : ((List.range len).map g).length = len := by simp
    refine ⟨some a, (List.range len).map g, cap, by rw [hll]; exact hcs, ⟨some a, cap, rfl, by omega, by unfold maxLen at hcm; omega, fun hne => ?_⟩, fun x hx => ?_⟩
    · have hpos : 0 < len := by
        rcases Nat.eq_zero_or_pos len with h0 | h0
        · subst h0; simp at hne
        · exact h0
      obtain ⟨u0, hu0⟩ : ∃ u, (R.c (g 0))[0]? = some u := ⟨_, List.getElem?_eq_getElem (by rw [hR.len]; exact hR.pos)⟩
      have c0 := (hg 0 hpos).2 0 _ hu0
      obtain ⟨b, o, spot⟩ := a
      have hspot : spot = none := by simpa [Addr.add] using World.cell?_spot c0
      subst hspot
      refine ⟨b, o, rfl, ?_, fun i x hxi => ?_⟩
      · exact block_lt_of_cell (a := ⟨b, o, none⟩) (by have := c0; simpa [Go.WideShapes.add_plain] using this)
      · have hil : i < len := by
          have := (List.getElem?_eq_some_iff.1 hxi).1
          simpa using this
        have hxe : x = g i := by simp [hil] at hxi; exact hxi.symm
        subst hxe
        intro j u hu
        have h3 := (hg i hil).2 j u hu
        simp only [Go.WideShapes.add_plain] at h3
        exact h3
    · obtain ⟨i, hi, rfl⟩ := List.mem_map.1 hx
      exact (hg i (by simpa using hi)).1
theorem tx_trod {H : Type} {enc : TypeId × Value → H} {w : World} {base f : Nat} {spare : Nat → Bool} {held : Bool} {cs : List Value} {d : DataW H × List MemPlace} (hl : cs.length = 2)
    (hf : DataW.trod enc Tryd.prog w base spare held f 28 cs = some d) : ∃ t, TxV w w.heap.size t ∧ cs = txL t := by
  obtain ⟨d, p⟩ := d
  have h1 : Tryd.prog.cellsOf 25 = 1 := by kernel_rfl
  have h2 : Tryd.prog.cellsOf 26 = 1 := by kernel_rfl
  obtain ⟨xs, n, _, _, _, hxl, hi⟩ := DataW.trod_struct Tryd.underlying28 hf
  have e0 : DataW.trod enc Tryd.prog w base spare held n 25 ((cs.drop 0).take (Tryd.prog.cellsOf 25)) = xs[0]? := hi 0 _ rfl
  rw [h1, List.getElem?_eq_getElem (by rw [hxl]; decide)] at e0
  have e1 : DataW.trod enc Tryd.prog w base spare held n 26 ((cs.drop 1).take (Tryd.prog.cellsOf 26)) = xs[1]? := hi 1 _ rfl
  rw [h2, List.getElem?_eq_getElem (by rw [hxl]; decide)] at e1
  obtain ⟨s0, L0, c0, a1, a2, a3⟩ := rows_trod inR_ok (fun x => InV w w.heap.size x) (by kernel_rfl) (fun n cs d h1 h2 => in_trod h1 h2) e0
  obtain ⟨s1, L1, c1, b1, b2, b3⟩ := rows_trod outR_ok OutOk (by kernel_rfl) (fun n cs d h1 h2 => out_trod h1 h2) e1
  refine ⟨⟨s0, c0, L0, s1, c1, L1⟩, ⟨a2, a3, b2, b3⟩, ?_⟩
  have hd := List.take_append_drop 1 cs
  rw [List.drop_zero] at a1
  rw [List.take_of_length_le (by rw [List.length_drop, hl]; decide)] at b1
  rw [← hd, a1, b1]
  rfl
end Go.Proofs.YtmjiadfdmchhaaaDoor
