/-
  Package check: which transactions the laws try.
-/
import Derived.Test.YtmjiadfdmchhaaaDoorChC
import Derived.Test.YtmjiadfdmchhaaaDoorBlkP
namespace Go.Proofs.YtmjiadfdmchhaaaDoor
open Go.RowKit
set_option linter.unusedVariables false
set_option linter.unusedSimpArgs false
set_option maxRecDepth 100000

def fitB (t : TxM) : Bool := decide (t.ins.length ≤ 40 ∧ t.outs.length ≤ 40 ∧ ∀ x ∈ t.ins, x.key.length ≤ 200)
theorem fitB_iff (t : TxM) : fitB t = true ↔ TxFit t := decide_eq_true_iff
theorem b_true {B : Bool} {p : Prop} (h : B = true ↔ p) (hp : p) : Value.bool true = Value.bool B := by rw [h.2 hp]
theorem b_false {B : Bool} {p : Prop} (h : B = true ↔ p) (hp : ¬ p) : Value.bool false = Value.bool B := by
  cases B with
  | false => rfl
  | true => exact absurd (h.1 rfl) hp
set_option maxHeartbeats 4000000 in
theorem fits_any (t : TxM) (w : World) (hT : TxV w w.heap.size t) :
    Calls Tryd.prog 11 #[txv t] w fun e w' => e = .returned (.bool (fitB t)) ∧ Below w.heap.size w w' := by
  have HBB := Lib.hid (fitB_iff t)
  generalize fitB t = BB at *
  obtain ⟨ti, tic, ins, to_, toc, outs⟩ := t
  obtain ⟨ni, hni⟩ : ∃ ni, ni = ins.length := ⟨_, rfl⟩
  obtain ⟨no, hno⟩ : ∃ no, no = outs.length := ⟨_, rfl⟩
  have HNI := Lib.hid hni
  have HNO := Lib.hid hno
  have HT := Lib.hid hT
  have hli : ni < 9223372036854775808 := by
    obtain ⟨s, c, e, h1, h2, _⟩ := hT.1
    have : ni = ins.length := hni
    simp only at h1
    omega
  have hlo : no < 9223372036854775808 := by
    obtain ⟨s, c, e, h1, h2, _⟩ := hT.2.2.1
    have : no = outs.length := hno
    simp only at h1
    omega
  have HLI := Lib.hid hli
  show Calls Tryd.prog _ #[.agg #[.slice ti ins.length tic, .slice to_ outs.length toc]] w _
  rw [← hni, ← hno]
  clear hT hni hno hli hlo
  go_enter Tryd.func11, Tryd.ntmps11
  go_upto_region 1 with fail
  refine wp_any (fun W => Below w.heap.size w W ∧ Bk W w.heap.size 28 #[.slice ti ni tic, .slice to_ no toc]) ⟨(Below.refl w.heap.size w).alloc (Nat.le_refl _) _, Bk.new _ _ _⟩ ?_
  obtain ⟨g1, hg1⟩ : ∃ g1, g1 = w.heap.size := ⟨_, rfl⟩
  have HG := Lib.hid hg1
  rw [← hg1]
  clear hg1
  rintro W ⟨hW, K⟩
  have HW : Hid (Below w.heap.size w W) := by rw [← HG.out]; exact hW
  clear hW
  have c0 := K.cell 0
  have c1 := K.cell 1
  have z1 := K.lt
  by_cases h1 : ni ≤ 40
  · have q1 : decide ((40 : Int) < (ni : Int)) = false := decide_eq_false (by omega)
    by_cases h2 : no ≤ 40
    · have q2 : decide ((40 : Int) < (no : Int)) = false := decide_eq_false (by omega)
      have H40 := Lib.hid (show ni ≤ 40 ∧ no ≤ 40 from ⟨h1, h2⟩)
      go_wp2_with fail
      go_loopw [18] (fun i wr => ∃ k : Nat, k ≤ ni ∧ i = .int .i64 k ∧ Hid (Below w.heap.size w wr) ∧ Bk wr g1 28 #[.slice ti ni tic, .slice to_ no toc] ∧ Hid (∀ j x, j < k → ins[j]? = some x → x.key.length ≤ 200)) (fun i _ => ni - (intOf i).toNat)
      case atStart => exact ⟨0, Nat.zero_le _, rfl, HW.out, K, fun j x hj _ => absurd hj (by omega)⟩
      case round =>
        obtain ⟨k, hk, rfl, HWr, Kr, HX⟩ := hrel
        clear c0 c1 z1 HW K
        by_cases hlt : k < ni
        · obtain ⟨x, b, o, hkx, rfl, hbw, hrg⟩ := row_at HT.out.1 k (by have := HNI.out; show k < ins.length; omega)
          have j1 : decide ((k : Int) < (ni : Int)) = true := decide_eq_true (by omega)
          change w.rangeAt b (o + k * 34) (inL x) at hrg
          replace hrg := rr_below hrg HWr.out hbw
          have hbr : b < wr.heap.size := Nat.lt_of_lt_of_le hbw HWr.out.size
          obtain ⟨hstc, K7, B7⟩ := in_made x wr
          have hps := row_size inR_ok x
          have hs34 := inL_len x
          have HKX := Lib.hid hkx
          have hli := HLI.out
          have hgl := Kr.lt
          obtain ⟨PL, hPL⟩ : ∃ PL, PL = inL x := ⟨_, rfl⟩
          have HPL := Lib.hid hPL
          rw [← hPL] at hrg hstc K7 B7 hs34
          have hps : (Tryd.prog.info? 68).map (·.size) = some PL.length := by rw [hPL]; exact hps
          have HW8 := Lib.hid (below_step HWr.out HWr.out.size B7)
          have K8 := Kr.keep B7
          clear hPL hkx Kr
          go_upto_region 6 with (refine wpList_load_mid rfl 68 (.tmp 20) rfl b (o + k * 34) rfl PL _ hrg Tryd.underlying68 rfl hps ?_)
          refine wp_any (fun W => Below w.heap.size w W ∧ Bk W g1 28 #[.slice (some ⟨b, o, none⟩) ni tic, .slice to_ no toc] ∧ Bk W wr.heap.size 68 PL.toArray) ⟨HW8.out, K8, K7⟩ ?_
          clear HW8 K8 K7 B7 hstc hps hs34 hrg hbr HWr
          generalize wr.heap.size = g7 at *
          rintro W3 ⟨hW3, K3, K7⟩
          have HW3 := Lib.hid hW3
          have K7 : Bk W3 g7 68 (inL x).toArray := by rw [← HPL.out]; exact K7
          have d33 : W3.cell? ⟨g7, 33, none⟩ = some (.slice x.ks x.key.length x.kc) := (K7.cell 33).trans ((List.getElem?_toArray).trans (in_33 x))
          have z7 := K7.lt
          clear hW3 K7
          obtain ⟨kl, hkl⟩ : ∃ kl, kl = x.key.length := ⟨_, rfl⟩
          have HKL := Lib.hid hkl
          rw [← hkl] at d33
          clear hkl
          by_cases hkey : kl ≤ 200
          · have j2 : decide ((200 : Int) < (kl : Int)) = false := decide_eq_false (by omega)
            have HKE := Lib.hid hkey
            go_wp2_with fail
            go_roundw
            case rel =>
              refine ⟨k + 1, by omega, by go_num, HW3.out, K3, ?_⟩
              show ∀ j y, j < k + 1 → ins[j]? = some y → y.key.length ≤ 200
              intro j y hj hy
              rcases Nat.lt_or_ge j k with h | h
              · exact HX.out j y h hy
              · obtain rfl : j = k := by omega
                have e := HKX.out
                rw [hy] at e
                obtain rfl : y = x := by simpa using e
                rw [← HKL.out]
                exact HKE.out
            case measure => simp [intOf]; omega
          · have j2 : decide ((200 : Int) < (kl : Int)) = true := decide_eq_true (by omega)
            have HKE := Lib.hid hkey
            clear hkey
            go_wp2_with fail
            go_ret
            exact ⟨congrArg _ (b_false HBB.out (fun h => HKE.out (by rw [HKL.out]; exact h.2.2 x (List.mem_of_getElem? HKX.out)))), HW3.out⟩
        · obtain rfl : k = ni := by omega
          have j1 : decide ((k : Int) < (k : Int)) = false := decide_eq_false (by omega)
          clear hlt
          go_wp2_with fail
          go_ret
          refine ⟨congrArg _ (b_true HBB.out ⟨by rw [← HNI.out]; exact H40.out.1, by rw [← HNO.out]; exact H40.out.2, fun x hx => ?_⟩), HWr.out⟩
          obtain ⟨j, hj, rfl⟩ := List.mem_iff_getElem.1 hx
          exact HX.out j _ (by rw [HNI.out]; exact hj) (List.getElem?_eq_getElem hj)
    · have q2 : decide ((40 : Int) < (no : Int)) = true := decide_eq_true (by omega)
      have H12 := Lib.hid h2
      clear h2
      go_wp2_with fail
      go_ret
      exact ⟨congrArg _ (b_false HBB.out (fun h => H12.out (by rw [HNO.out]; exact h.2.1))), HW.out⟩
  · have q1 : decide ((40 : Int) < (ni : Int)) = true := decide_eq_true (by omega)
    have H12 := Lib.hid h1
    clear h1
    go_wp2_with fail
    go_ret
    exact ⟨congrArg _ (b_false HBB.out (fun h => H12.out (by rw [HNI.out]; exact h.1))), HW.out⟩
end Go.Proofs.YtmjiadfdmchhaaaDoor
