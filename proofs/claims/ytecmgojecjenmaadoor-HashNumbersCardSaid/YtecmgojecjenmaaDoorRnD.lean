/-
  The contract of the document's mul.
-/
import Derived.Test.YtecmgojecjenmaaDoorRnC
namespace Go.Proofs.YtecmgojecjenmaaDoor
open Go.RowKit
set_option linter.unusedVariables false

theorem wpList_mkD {ops : Array Oper} {rest : List Oper} {o : Oper} {a : Act} {w W : World} {Q : Exit → Act → World → Prop} {v1 v2 v : Value} (t : TypeId) (hg : o.guard = none) (l c : Operand)
    (hop : o.op = Op.makeSlice t l c) (hs : a.eval l = v1) (hx : a.eval c = v2)
    (hrun : (Instr.makeSlice t v1 v2).run Tryd.prog w = .ok v W) (hK : wpList Tryd.prog ops Q rest (a.put o.dst v) W) : wpList Tryd.prog ops Q (o :: rest) a w := by
  refine wpList_plain hg fun K hK' => ?_
  unfold Oper.wp
  simp [execOp, hop, hs, hx, hrun, Result.andThen]
  exact hK' _ _ hK
theorem wrap64 (z : Int) : IntKind.u64.wrap z = z % 18446744073709551616 := rfl
theorem mu2_intW (a b : Nat) : IntKind.u64.wrap ((a : Int) + IntKind.u64.wrap ((b : Int) / 16777216)) = (((a + b / d24) % d64 : Nat) : Int) := by
  rw [wrap64, wrap64]
  unfold d64 d24
  omega
theorem rowD_take {w : World} {T N r : Nat} {t : TypeId} {p : List Nat} (K : Bk w T t (dA p)) (hl : p.length = N) (hr : r ≤ N) (hN : N ≤ 100000) : RowV ddR w w.heap.size (.slice (some ⟨T, 0, none⟩) r N) (p.take r) := by
  have hlt : (p.take r).length = r := by rw [List.length_take]; omega
  refine ⟨_, N, by rw [hlt], by omega, by omega, fun _ => ⟨T, 0, rfl, K.lt, fun i x hx j v hv => ?_⟩⟩
  have hi := (List.getElem?_eq_some_iff.1 hx).1
  rw [hlt] at hi
  rw [List.getElem?_take_of_lt hi] at hx
  match j, hv with
  | 0, hv =>
    have hv : some (Value.int .u64 (x : Int)) = some v := hv
    rw [show ddR.k = 1 from rfl, Nat.mul_one, Nat.zero_add, Nat.add_zero, K.cell, dA_get p i (by omega), ← hv]
    unfold nth
    rw [List.getD, hx]
    rfl
theorem mu3_int (a : Nat) : ((a : Int) % 16777216) = ((a % d24 : Nat) : Int) := by
  unfold d24
  omega
set_option maxRecDepth 100000 in
set_option maxHeartbeats 4000000 in
theorem mul_any (u v : Value) (xs ys : List Nat) (w : World) (hu : RowV ddR w w.heap.size u xs) (hv : RowV ddR w w.heap.size v ys) (hx : xs.length ≤ 1000) (hy : ys.length ≤ 1000) :
    Calls Tryd.prog 32 #[u, v] w fun e w' => ∃ v', e = .returned v' ∧ RowV ddR w' w'.heap.size v' (mulN xs ys) ∧ Below w.heap.size w w' := by
  obtain ⟨s, c, rfl⟩ := hu.slice
  obtain ⟨s', c', rfl⟩ := hv.slice
  have HX := Lib.hid (fun h => hu.cellD h)
  have HY := Lib.hid (fun h => hv.cellD h)
  obtain ⟨n, hn⟩ : ∃ n, n = xs.length := ⟨_, rfl⟩
  obtain ⟨m, hm⟩ : ∃ m, m = ys.length := ⟨_, rfl⟩
  rw [← hn] at hx ⊢
  rw [← hm] at hy ⊢
  have HN := Lib.hid hn
  have HM := Lib.hid hm
  obtain ⟨N, hN⟩ : ∃ N, N = n + m + 1 := ⟨_, rfl⟩
  clear hu hv hn hm
  have hmk := run_makeD w N (by omega)
  have q0 : IntKind.i64.wrap ((n : Int) + (m : Int)) = (n : Int) + (m : Int) := IntWalk.i64_in _ (by omega)
  have q1 : IntKind.i64.wrap ((n : Int) + (m : Int) + 1) = (N : Int) := by rw [show (n : Int) + (m : Int) + 1 = (N : Int) by omega]; exact IntWalk.i64_in _ (by omega)
  have HNN := Lib.hid hN
  have hNl : N ≤ 2001 := by omega
  clear hN
  go_enter Tryd.func32, Tryd.ntmps32
  go_wp2_with (refine wpList_mkD (v1 := .int .i64 (N : Int)) (v2 := .int .i64 (N : Int)) (v := .slice (some ⟨w.heap.size, 0, none⟩) N N) 61 rfl (.tmp 15) (.tmp 15) rfl rfl rfl hmk ?_)
  clear hmk q0 q1
  refine wp_any (fun W => Below w.heap.size w W ∧ Bk W w.heap.size 46 (dA (zeros N))) ⟨(Below.refl _ _).alloc (Nat.le_refl _) _, Bk.new _ _ _⟩ ?_
  rintro W0 ⟨hW0, K0⟩
  go_loopw [6, 7] (fun iv kv wr => ∃ i : Nat, i ≤ n ∧ iv = .int .i64 (i : Int) ∧ Hid (Below w.heap.size w wr) ∧ ∃ o : List Nat, Hid (o = muI xs ys i) ∧ Hid (Bk wr w.heap.size 46 (dA o))) (fun iv _ _ => n - (intOf iv).toNat)
  case atStart =>
    refine ⟨0, Nat.zero_le _, rfl, hW0, zeros N, ?_, K0⟩
    show _ = _
    rw [muI, HNN.out, HN.out, HM.out]
  case round =>
    obtain ⟨i, hi, rfl, hWr, o, Ho, Kr⟩ := hrel
    clear hW0 K0
    by_cases hlt : i < n
    · have hd : decide ((i : Int) < (n : Int)) = true := decide_eq_true (by omega)
      go_wp2_with fail
      go_loopw [7] (fun kv wr => ∃ k : Nat, k ≤ m ∧ kv = .int .i64 (k : Int) ∧ Hid (Below w.heap.size w wr) ∧ ∃ p : List Nat, Hid (p = muK xs ys i o k) ∧ Hid (Bk wr w.heap.size 46 (dA p))) (fun kv _ => m - (intOf kv).toNat)
      case atStart => exact ⟨0, Nat.zero_le _, rfl, hWr.out, o, rfl, Kr.out⟩
      case round =>
        obtain ⟨k, hk, rfl, hWr2, p, Hp, Kr2⟩ := hrel
        by_cases hlt2 : k < m
        · have hd2 : decide ((k : Int) < (m : Int)) = true := decide_eq_true (by omega)
          obtain ⟨b, ob, rfl, hb, hc⟩ := HX.out (by intro h; have := HN.out; rw [h] at this; simp at this; omega)
          obtain ⟨b', ob', rfl, hb', hc'⟩ := HY.out (by intro h; have := HM.out; rw [h] at this; simp at this; omega)
          have hpl : p.length = N := by
            rw [Hp.out, muK_length, Ho.out, muI_length, ← HN.out, ← HM.out, HNN.out]
          have c1 := (hWr2.out.cell (p := ⟨b, ob + i, none⟩) hb).trans (hc i (by have := HN.out; omega))
          have c2 := (hWr2.out.cell (p := ⟨b', ob' + k, none⟩) hb').trans (hc' k (by have := HM.out; omega))
          obtain ⟨q, hq⟩ : ∃ q, q = i + k := ⟨_, rfl⟩
          have hqN : q + 1 < N := by have := HNN.out; omega
          have qa : IntKind.i64.wrap ((i : Int) + (k : Int)) = (q : Int) := by rw [show (i : Int) + (k : Int) = (q : Int) by omega]; exact IntWalk.i64_in _ (by omega)
          have qb : IntKind.i64.wrap ((q : Int) + 1) = (q : Int) + 1 := IntWalk.i64_in _ (by omega)
          have nb : ((q : Int) + 1).toNat = q + 1 := by omega
          have qc : IntKind.i64.wrap ((k : Int) + 1) = ((k + 1 : Nat) : Int) := by rw [show (k : Int) + 1 = ((k + 1 : Nat) : Int) by omega]; exact IntWalk.i64_in _ (by omega)
          have c0 := (Kr2.out.cell q).trans (dA_get p q (by omega))
          have f0 := Kr2.out.frozen q
          have j0 : (0 : Int) ≤ (q : Int) := by omega
          have j1 : (q : Int) < (N : Int) := by omega
          have j2 : (i : Int) < (n : Int) := by omega
          clear hc hc'
          have HQ := Lib.hid hq
          clear hq
          have hz := Kr2.out.lt
          go_upto_region 8 with fail
          go_still_tail 17, (by kernel_rfl)
          change wpList _ _ _ _ _ wr.drew
          go_upto_region 9 with fail
          obtain ⟨p1, hp1⟩ : ∃ p1, p1 = mu1 xs ys i k p := ⟨_, rfl⟩
          refine wp_any (fun W => Below w.heap.size w W ∧ Bk W w.heap.size 46 (dA p1)) ⟨(hWr2.out.drew).setCell (Nat.le_refl _) _, ?_⟩ ?_
          · rw [hp1, mu1, ← HQ.out]
            exact dA_setI (Kr2.out.drew) q _ (mu1_int _ _ _)
          have HP1 := Lib.hid hp1
          have hpl1 : p1.length = N := by rw [hp1, mu1, List.length_set, hpl]
          clear c0 c1 c2 f0 hp1 hz
          rintro W1 ⟨hW1, K1⟩
          have c0 := (K1.cell q).trans (dA_get p1 q (by omega))
          have c1 := (K1.cell (q + 1)).trans (dA_get p1 (q + 1) (by omega))
          have f0 := K1.frozen (q + 1)
          have hz := K1.lt
          have j3 : (0 : Int) ≤ (q : Int) + 1 := by omega
          have j4 : (q : Int) + 1 < (N : Int) := by omega
          have HW1 := Lib.hid hW1
          have HK1 := Lib.hid K1
          clear hW1 K1
          go_still_tail 16, (by kernel_rfl)
          change wpList _ _ _ _ _ W1.drew
          go_upto_region 10 with fail
          obtain ⟨p2, hp2⟩ : ∃ p2, p2 = mu2 q p1 := ⟨_, rfl⟩
          refine wp_any (fun W => Below w.heap.size w W ∧ Bk W w.heap.size 46 (dA p2)) ⟨(HW1.out.drew).setCell (Nat.le_refl _) _, ?_⟩ ?_
          · rw [hp2, mu2]
            exact dA_setI (HK1.out.drew) (q + 1) _ (mu2_intW _ _)
          have HP2 := Lib.hid hp2
          have hpl2 : p2.length = N := by rw [hp2, mu2, List.length_set, hpl1]
          clear c0 c1 f0 hp2 hz j3 j4
          rintro W2 ⟨hW2, K2⟩
          have c0 := (K2.cell q).trans (dA_get p2 q (by omega))
          have f0 := K2.frozen q
          have hz := K2.lt
          have HW2 := Lib.hid hW2
          have HK2 := Lib.hid K2
          clear hW2 K2
          go_wp2_with fail
          go_roundw
          case rel =>
            refine ⟨k + 1, by omega, rfl, HW2.out.setCell (Nat.le_refl _) _, mu3 q p2, ?_, dA_setI HK2.out q _ (mu3_int _)⟩
            show _ = _
            rw [muK, muS, ← HQ.out, HP2.out, HP1.out, Hp.out]
          case measure => simp [intOf]; omega
        · have hd2 : decide ((k : Int) < (m : Int)) = false := decide_eq_false (by omega)
          have hkm : k = m := by omega
          subst hkm
          have qi : IntKind.i64.wrap ((i : Int) + 1) = ((i + 1 : Nat) : Int) := by rw [show (i : Int) + 1 = ((i + 1 : Nat) : Int) by omega]; exact IntWalk.i64_in _ (by omega)
          go_wp2_with fail
          go_roundw
          case rel => 
            refine ⟨i + 1, by omega, rfl, hWr2.out, p, ?_, Kr2.out⟩
            show _ = _
            rw [muI, ← Ho.out, ← HM.out]
            exact Hp.out
          case measure => simp [intOf]; omega
    · have hd : decide ((i : Int) < (n : Int)) = false := decide_eq_false (by omega)
      have hin : i = n := by omega
      rw [hin] at Ho
      have hol : o.length = N := by rw [Ho.out, muI_length, ← HN.out, ← HM.out, HNN.out]
      clear hin
      go_wp2_with fail
      clear hd hlt
      go_loopw [8] (fun kv wr => ∃ k : Nat, k + 1 ≤ N ∧ kv = .int .i64 (k : Int) ∧ Hid (Below w.heap.size w wr) ∧ ∃ p : List Nat, Hid (p = caK o k) ∧ Hid (Bk wr w.heap.size 46 (dA p))) (fun kv _ => N - (intOf kv).toNat)
      case atStart => exact ⟨0, by have := HNN.out; omega, rfl, hWr.out, o, rfl, Kr.out⟩
      case round =>
        obtain ⟨k, hk, rfl, hWr2, p, Hp, Kr2⟩ := hrel
        have hpl : p.length = N := by rw [Hp.out, caK_length, hol]
        have qb : IntKind.i64.wrap ((k : Int) + 1) = (k : Int) + 1 := IntWalk.i64_in _ (by omega)
        by_cases hlt2 : k + 1 < N
        · have hd2 : decide ((k : Int) + 1 < (N : Int)) = true := decide_eq_true (by omega)
          have nb : ((k : Int) + 1).toNat = k + 1 := by omega
          have c0 := (Kr2.out.cell k).trans (dA_get p k (by omega))
          have c1 := (Kr2.out.cell (k + 1)).trans (dA_get p (k + 1) (by omega))
          have f0 := Kr2.out.frozen (k + 1)
          have j3 : (0 : Int) ≤ (k : Int) + 1 := by omega
          have j4 : (k : Int) + 1 < (N : Int) := by omega
          have j5 : (k : Int) < (N : Int) := by omega
          have hz := Kr2.out.lt
          go_upto_region 14 with fail
          go_still_tail 12, (by kernel_rfl)
          change wpList _ _ _ _ _ wr.drew
          go_upto_region 15 with fail
          obtain ⟨p2, hp2⟩ : ∃ p2, p2 = mu2 k p := ⟨_, rfl⟩
          refine wp_any (fun W => Below w.heap.size w W ∧ Bk W w.heap.size 46 (dA p2)) ⟨(hWr2.out.drew).setCell (Nat.le_refl _) _, ?_⟩ ?_
          · rw [hp2, mu2]
            exact dA_setI (Kr2.out.drew) (k + 1) _ (mu2_intW _ _)
          have HP2 := Lib.hid hp2
          have hpl2 : p2.length = N := by rw [hp2, mu2, List.length_set, hpl]
          clear c0 c1 f0 hp2 hz
          rintro W2 ⟨hW2, K2⟩
          have c0 := (K2.cell k).trans (dA_get p2 k (by omega))
          have f0 := K2.frozen k
          have hz := K2.lt
          have HW2 := Lib.hid hW2
          have HK2 := Lib.hid K2
          clear hW2 K2
          go_wp2_with fail
          go_roundw
          case rel =>
            refine ⟨k + 1, by omega, by go_num, HW2.out.setCell (Nat.le_refl _) _, mu3 k p2, ?_, dA_setI HK2.out k _ (mu3_int _)⟩
            show _ = _
            rw [caK, HP2.out, Hp.out]
          case measure => simp [intOf]; omega
        · have hd2 : decide ((k : Int) + 1 < (N : Int)) = false := decide_eq_false (by omega)
          have hkn : k = n + m := by have := HNN.out; omega
          rw [hkn] at Hp
          go_wp2_with fail
          clear hd2 hlt2 qb hk hkn
          go_loopw [9] (fun rv wr => ∃ r : Nat, r ≤ N ∧ rv = .int .i64 (r : Int) ∧ Hid (Below w.heap.size w wr) ∧ Hid (trF p N = trF p r) ∧ Hid (Bk wr w.heap.size 46 (dA p))) (fun rv _ => (intOf rv).toNat)
          case atStart => exact ⟨N, Nat.le_refl _, rfl, hWr2.out, rfl, Kr2.out⟩
          case round =>
            obtain ⟨r, hr, rfl, hWr3, Ht, Kr3⟩ := hrel
            cases r with
            | zero =>
              have j0 : (0 : Int) ≤ (N : Int) := by omega
              have HR := rowD_take (r := 0) Kr3.out hpl (by omega) (by omega)
              have HE : mulN xs ys = p.take 0 := by
                have ht := Ht.out
                rw [trF] at ht
                rw [mulN, ← HN.out, ← HM.out, ← Ho.out, ← Hp.out, ← HNN.out, ht]
              have HR := Lib.hid HR
              have HE := Lib.hid HE
              go_wp2_with fail
              go_ret
              exact ⟨_, rfl, by rw [HE.out]; exact HR.out, hWr3.out⟩
            | succ r =>
              have hd3 : decide ((0 : Int) < ((r + 1 : Nat) : Int)) = true := decide_eq_true (by omega)
              have qd : IntKind.i64.wrap (((r + 1 : Nat) : Int) - 1) = (r : Int) := by rw [show ((r + 1 : Nat) : Int) - 1 = (r : Int) by omega]; exact IntWalk.i64_in _ (by omega)
              have c0 := (Kr3.out.cell r).trans (dA_get p r (by omega))
              have j1 : (r : Int) < (N : Int) := by omega
              by_cases h0 : nth p r = 0
              · have hz0 : ((nth p r : Nat) : Int) = 0 := by omega
                have ht := Ht.out
                rw [trF, if_pos h0] at ht
                rw [hz0] at c0
                have HT := Lib.hid ht
                clear ht hz0 h0
                go_wp2_with fail
                go_roundw
                case rel => exact ⟨r, by omega, rfl, hWr3.out, HT.out, Kr3.out⟩
                case measure => simp [intOf]
              · have hz0 : (((nth p r : Nat) : Int) == 0) = false := by rw [beq_eq_false_iff_ne]; omega
                have j0 : ((r + 1 : Nat) : Int) ≤ (N : Int) := by omega
                have HR := rowD_take (r := r + 1) Kr3.out hpl (by omega) (by omega)
                have HE : mulN xs ys = p.take (r + 1) := by
                  have ht := Ht.out
                  rw [trF, if_neg h0] at ht
                  rw [mulN, ← HN.out, ← HM.out, ← Ho.out, ← Hp.out, ← HNN.out, ht]
                have HR := Lib.hid HR
                have HE := Lib.hid HE
                clear h0
                generalize nth p r = z at *
                go_wp2_with fail
                go_ret
                exact ⟨_, rfl, by rw [HE.out]; exact HR.out, hWr3.out⟩
end Go.Proofs.YtecmgojecjenmaaDoor
