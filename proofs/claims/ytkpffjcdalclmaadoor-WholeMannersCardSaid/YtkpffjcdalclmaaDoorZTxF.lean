/- The contract of package tx's next. -/
import Derived.Test.YtkpffjcdalclmaaDoorZTxE
namespace Go.Proofs.YtkpffjcdalclmaaDoor
open Go.RowKit
set_option linter.unusedVariables false
set_option linter.unusedSimpArgs false
set_option maxRecDepth 100000
theorem tx_infos : (Tryd.prog.info? 89).map (·.size) = some 2 := by kernel_rfl
set_option maxHeartbeats 8000000 in
theorem tnext_any (p : Nat) (v : Value) (s : St) (w : World) (hR : RdS w p v s) (hI : StI s) :
    Calls Tryd.prog 91 #[.pointer (some ⟨p, 0, none⟩)] w fun r w' => ∃ t, r = .returned (.agg #[t.iv, t.ov]) ∧ NextSays s t ∧ MineT w' w.heap.size t ∧ ∃ v', Took p v (nxSt s) w w' v' := by
  have HR := Lib.hid hR
  have HI := Lib.hid hI
  have hpw := hR.1.lt
  have HC1 : Hid (∀ W v1, RdS W p v1 s → Calls Tryd.prog 90 #[.pointer (some ⟨p, 0, none⟩), .int .u64 32] W fun r w' => r = .returned (.int .u64 ((nxN s : Nat) : Int)) ∧ ∃ v', Took p v1 (nxS1 s) W w' v') := fun W v1 h => rcount_any p 32 v1 s W h hI.ok
  have HC2 : Hid (∀ W v1, RdS W p v1 (nxS2 s) → Calls Tryd.prog 90 #[.pointer (some ⟨p, 0, none⟩), .int .u64 32] W fun r w' => r = .returned (.int .u64 ((nxM s : Nat) : Int)) ∧ ∃ v', Took p v1 (nxS3 s) W w' v') := fun W v1 h => rcount_any p 32 v1 (nxS2 s) W h (nxS2_inv s hI).ok
  have HIN : Hid (∀ j W v1, RdS W p v1 (inSts j (nxS1 s)) → Calls Tryd.prog 102 #[.pointer (some ⟨p, 0, none⟩)] W fun r w' => ∃ x, r = .returned (.agg (inL x).toArray) ∧ InSays (inSts j (nxS1 s)) x ∧ Mine w' W.heap.size x.kv x.key ∧ ∃ v', Took p v1 (inSts (j + 1) (nxS1 s)) W w' v') := fun j W v1 h => tinput_any p v1 _ W h (inSts_inv j _ (nxS1_inv s hI))
  have HOUT : Hid (∀ j W v1, RdS W p v1 (outSts j (nxS3 s)) → Calls Tryd.prog 103 #[.pointer (some ⟨p, 0, none⟩)] W fun r w' => ∃ x, r = .returned (.agg (ouL x).toArray) ∧ OutSays (outSts j (nxS3 s)) x ∧ ∃ v', Took p v1 (outSts (j + 1) (nxS3 s)) W w' v') := fun j W v1 h => toutput_any p v1 _ W h (outSts_inv j _ (nxS3_inv s hI))
  have hN := nxN_le s
  have hM := nxM_le s
  have HS1 := Lib.hid (nxS1_shr s)
  have HSJ : Hid (∀ j, (inSts j (nxS1 s)).1.length ≤ s.1.length) := fun j => Nat.le_trans (inSts_shr j _) (nxS1_shr s)
  have HS3 := Lib.hid (nxS3_shr s)
  have HSK : Hid (∀ j, (outSts j (nxS3 s)).1.length ≤ s.1.length) := fun j => Nat.le_trans (outSts_shr j _) (nxS3_shr s)
  have HD2 : Hid (inSts (nxN s) (nxS1 s) = nxS2 s) := rfl
  have HD4 : Hid (outSts (nxM s) (nxS3 s) = nxSt s) := rfl
  obtain ⟨n, hn⟩ : ∃ n, n = nxN s := ⟨_, rfl⟩
  obtain ⟨m, hm⟩ : ∃ m, m = nxM s := ⟨_, rfl⟩
  have HNM := Lib.hid (show n = nxN s ∧ m = nxM s from ⟨hn, hm⟩)
  rw [← hn] at HC1 hN HD2
  rw [← hm] at HC2 hM HD4
  clear hR hI hn hm
  go_enter Tryd.func91, Tryd.ntmps91
  go_upto_region 2 with fail
  refine wp_any (fun W => Took p v s w W v ∧ Bk W w.heap.size 89 #[.slice none 0 0, .slice none 0 0] ∧ Bk W (w.heap.size + 1) 89 #[.slice none 0 0, .slice none 0 0]) ⟨(Took.refl HR.out).far HR.out (Nat.le_refl _) (((Below.refl _ _).alloc (Nat.le_refl _) _).alloc (by simp) _), (Bk.new _ _ _).alloc _, Bk.new' _ _ _ (by simp)⟩ ?_
  have hn2 : ¬ w.heap.size = p := by omega
  have hn3 : ¬ w.heap.size + 1 = p := by omega
  obtain ⟨g2, hg2⟩ : ∃ g2, g2 = w.heap.size := ⟨_, rfl⟩
  obtain ⟨g3, hg3⟩ : ∃ g3, g3 = w.heap.size + 1 := ⟨_, rfl⟩
  have HG := Lib.hid (show g2 = w.heap.size ∧ g3 = w.heap.size + 1 from ⟨hg2, hg3⟩)
  rw [← hg3] at hn3 ⊢
  rw [← hg2] at hn2 ⊢
  clear hg2 hg3
  rintro W ⟨T, K2, K3⟩
  have HT := Lib.hid T
  clear T
  go_wp2_with fail
  refine (HC1.out W v HT.out.1).mono ?_
  rintro e W1 ⟨rfl, v1, T1⟩
  have K2 := T1.2.1.keep K2 hn2
  have K3 := T1.2.1.keep K3 hn3
  have T1 := Lib.hid (HT.out.trans T1)
  clear HT HC1
  go_upto_region 3 with fail
  go_loopw [6] (fun i wr => ∃ (j : Nat) (vj : Value) (si : Option Addr) (ci : Nat) (xs : List InM), j ≤ n ∧ i = .int .u64 j ∧ Hid (Took p v (inSts j (nxS1 s)) w wr vj) ∧ Bk wr g2 89 #[.slice none 0 0, .slice none 0 0] ∧ Bk wr g3 89 #[.slice si j ci, .slice none 0 0] ∧ Hid (MineR inR wr w.heap.size (.slice si j ci) xs ∧ xs.length = j ∧ (∀ x ∈ xs, Mine wr w.heap.size x.kv x.key) ∧ InsSay (nxS1 s) xs)) (fun i _ => n - (intOf i).toNat)
  case atStart => exact ⟨0, v1, none, 0, [], Nat.zero_le _, rfl, T1, K2, K3, .inl ⟨rfl, rfl⟩, rfl, (fun x hx => by cases hx), (fun k x hk => by simp at hk)⟩
  case round =>
    obtain ⟨j, vj, si, ci, xs, hj, rfl, HT, J2, J3, HX⟩ := hrel
    clear T1 K2 K3
    by_cases hlt : j < n
    · have j1 : decide ((j : Int) < (n : Int)) = true := decide_eq_true (by omega)
      have c0 : wr.cell? ⟨g3, 0, none⟩ = some (.slice si j ci) := J3.cell 0
      have z3 := J3.lt
      have HTD := Lib.hid (HT.out.far HR.out (HSJ.out j) ((Below.refl _ _).drew))
      have HC := Lib.hid (HIN.out j wr.drew vj HTD.out.1)
      have HJ2 := Lib.hid J2
      have HJ3 := Lib.hid J3
      have hszw : w.heap.size ≤ wr.heap.size := HT.out.size
      have HLW := Lib.hid hszw
      clear J2 J3 hszw
      go_upto_region 4 with fail
      go_region_law (first
        | (have B7 : Below w6.heap.size w6 (w6.alloc (.cells (inL x).toArray 166)) := (Below.refl _ _).alloc (Nat.le_refl _) _
           have R7 := one_rowR' inR_ok (Bk.new w6 166 (inL x).toArray)
           have X7 := HX6.out.1.keep B7
           refine step_appR inR_ok xs [x] w.heap.size rfl (.tmp 9) (.tmp 12) rfl rfl rfl rfl X7 (Nat.le_trans HZ6.out B7.size) R7 (by have := HX6.out.2.1; simp; omega) ?_
           rintro v8 W8 M8 B8 U8
           have KP := KeptR.app X7 U8
           have K8 := KP _ _ _ ne_in_tx (K6.alloc (.cells (inL x).toArray 166))
           have K8b := KP _ _ _ ne_in_tx (K6b.alloc (.cells (inL x).toArray 166))
           have T8 := T6.out.far HR.out (HSJ.out (j + 1)) ((B7.mono HZ6.out).trans B8)
           have Y8 := Lib.hid (show (∀ y ∈ xs, Mine W8 w.heap.size y.kv y.key) ∧ Mine W8 w.heap.size x.kv x.key from ⟨fun y hy => ((HX6.out.2.2.1 y hy).keep B7).keptR KP ne_in_u8, (HK6.out.keep B7).keptR KP ne_in_u8⟩)
           obtain ⟨s8, e8, hv8⟩ := M8.slice
           have hl8 : (xs ++ [x]).length = j + 1 := by have := HX6.out.2.1; simp; omega
           rw [hl8] at hv8
           subst hv8
           have M8 := Lib.hid M8
           have T8 := Lib.hid T8
           have c8 : W8.cell? ⟨g3, 0, none⟩ = some (.slice si j ci) := K8.cell 0
           have f8 := K8.frozen 0
           have z8 := K8.lt
           clear KP)
        | (go_simp
           go_at_call 102
           refine (HC.out).mono ?_
           rintro e w6 ⟨x, rfl, hsx, M6, v6, T6⟩
           have K6 := T6.2.1.keep HJ3.out.drew hn3
           have K6b := T6.2.1.keep HJ2.out.drew hn2
           have HX6 : Hid (MineR inR w6 w.heap.size (.slice si j ci) xs ∧ xs.length = j ∧ (∀ x ∈ xs, Mine w6 w.heap.size x.kv x.key) ∧ InsSay (nxS1 s) xs) := by
             refine ⟨?_, HX.out.2.1, fun y hy => ?_, HX.out.2.2.2⟩
             · exact (HX.out.1.keep ((Below.refl _ _).drew)).but' T6.2.1 HTD.out.1.1 (by decide)
             · exact ((HX.out.2.2.1 y hy).keep ((Below.refl _ _).drew)).but' T6.2.1 HTD.out.1.1 (by decide)
           have HK6 := Lib.hid (M6.mono (show w.heap.size ≤ wr.drew.heap.size from HLW.out))
           have HZ6 : Hid (w.heap.size ≤ w6.heap.size) := Nat.le_trans HLW.out T6.size
           have HS6 := Lib.hid hsx
           have T6 := Lib.hid (HTD.out.trans T6)
           have c6 : w6.cell? ⟨g3, 0, none⟩ = some (.slice si j ci) := K6.cell 0
           have c7 : (w6.alloc (.cells (inL x).toArray 166)).cell? ⟨g3, 0, none⟩ = some (.slice si j ci) := (K6.alloc _).cell 0
           have hfo := in_fold x
           have hle := inL_len x
           clear M6 hsx))
      all_goals
        have HE : Hid (Took p v (inSts (j + 1) (nxS1 s)) w (W8.setCell ⟨g3, 0, none⟩ (.slice s8 (j + 1) e8)) v6 ∧ Bk (W8.setCell ⟨g3, 0, none⟩ (.slice s8 (j + 1) e8)) g2 89 #[.slice none 0 0, .slice none 0 0] ∧ Bk (W8.setCell ⟨g3, 0, none⟩ (.slice s8 (j + 1) e8)) g3 89 #[.slice s8 (j + 1) e8, .slice none 0 0] ∧ (MineR inR (W8.setCell ⟨g3, 0, none⟩ (.slice s8 (j + 1) e8)) w.heap.size (.slice s8 (j + 1) e8) (xs ++ [x]) ∧ (xs ++ [x]).length = j + 1 ∧ (∀ y ∈ xs ++ [x], Mine (W8.setCell ⟨g3, 0, none⟩ (.slice s8 (j + 1) e8)) w.heap.size y.kv y.key) ∧ InsSay (nxS1 s) (xs ++ [x]))) := by
          have hb := But.set_ (S := fun k => k = g3) (But.refl _ W8) (.inl rfl) 0 none (.slice s8 (j + 1) e8)
          refine ⟨T8.out.far HR.out (HSJ.out (j + 1)) ((Below.refl _ _).setCell (by have := HG.out; show w.heap.size ≤ g3; omega) _), K8b.far (by have := HG.out; show g2 ≠ g3; omega) _, K8.set_ 0 _, M8.out.but' hb K8 ne_in_tx, hl8, fun y hy => ?_, HX6.out.2.2.2.snoc (by rw [HX6.out.2.1]; exact HS6.out)⟩
          rcases List.mem_append.1 hy with h | h
          · exact (Y8.out.1 y h).but' hb K8 ht_tx
          · rw [List.mem_singleton] at h
            subst h
            exact Y8.out.2.but' hb K8 ht_tx
        clear HX HT HTD HC HJ2 HJ3
        go_wp2_with fail
        go_roundw
        case rel => exact ⟨j + 1, v6, s8, e8, xs ++ [x], by omega, by go_num, HE.out.1, HE.out.2.1, HE.out.2.2.1, HE.out.2.2.2⟩
        case measure => simp [intOf]; omega
    · obtain rfl : j = n := by omega
      have j1 : decide ((j : Int) < (j : Int)) = false := decide_eq_false (by omega)
      rw [HD2.out] at HT
      clear hlt
      go_wp2_with fail
      refine (HC2.out wr vj HT.out.1).mono ?_
      rintro e W1 ⟨rfl, v1, T1⟩
      have K2 := T1.2.1.keep J2 hn2
      have K3 := T1.2.1.keep J3 hn3
      have HX1 : Hid (MineR inR W1 w.heap.size (.slice si j ci) xs ∧ xs.length = j ∧ (∀ x ∈ xs, Mine W1 w.heap.size x.kv x.key) ∧ InsSay (nxS1 s) xs) := ⟨HX.out.1.but' T1.2.1 HT.out.1.1 (by decide), HX.out.2.1, fun y hy => (HX.out.2.2.1 y hy).but' T1.2.1 HT.out.1.1 (by decide), HX.out.2.2.2⟩
      have T1 := Lib.hid (HT.out.trans T1)
      clear HT HC2 J2 J3 HX
      go_upto_region 7 with fail
      go_loopw [18] (fun i wr => ∃ (q : Nat) (vj : Value) (so : Option Addr) (co : Nat) (ys : List OutM), q ≤ m ∧ i = .int .u64 q ∧ Hid (Took p v (outSts q (nxS3 s)) w wr vj) ∧ Bk wr g2 89 #[.slice none 0 0, .slice none 0 0] ∧ Bk wr g3 89 #[.slice si j ci, .slice so q co] ∧ Hid (MineR inR wr w.heap.size (.slice si j ci) xs ∧ xs.length = j ∧ (∀ x ∈ xs, Mine wr w.heap.size x.kv x.key) ∧ InsSay (nxS1 s) xs) ∧ Hid (MineR outR wr w.heap.size (.slice so q co) ys ∧ ys.length = q ∧ OutsSay (nxS3 s) ys)) (fun i _ => m - (intOf i).toNat)
      case atStart => exact ⟨0, v1, none, 0, [], Nat.zero_le _, rfl, T1, K2, K3, HX1, .inl ⟨rfl, rfl⟩, rfl, (fun k x hk => by simp at hk)⟩
      case round =>
        obtain ⟨q, vj, so, co, ys, hq, rfl, HT, J2, J3, HX, HY⟩ := hrel
        clear T1 K2 K3 HX1
        by_cases hlq : q < m
        · have j2 : decide ((q : Int) < (m : Int)) = true := decide_eq_true (by omega)
          have c0 : wr.cell? ⟨g3, 1, none⟩ = some (.slice so q co) := J3.cell 1
          have z3 := J3.lt
          have HTD := Lib.hid (HT.out.far HR.out (HSK.out q) ((Below.refl _ _).drew))
          have HC := Lib.hid (HOUT.out q wr.drew vj HTD.out.1)
          have HJ2 := Lib.hid J2
          have HJ3 := Lib.hid J3
          have hszw : w.heap.size ≤ wr.heap.size := HT.out.size
          have HLW := Lib.hid hszw
          clear J2 J3 hszw
          go_upto_region 8 with fail
          go_region_law (first
            | (have B7 : Below w6.heap.size w6 (w6.alloc (.cells (ouL x).toArray 169)) := (Below.refl _ _).alloc (Nat.le_refl _) _
               have R7 := one_rowR' outR_ok (Bk.new w6 169 (ouL x).toArray)
               have X7 := HY6.out.1.keep B7
               refine step_appR outR_ok ys [x] w.heap.size rfl (.tmp 21) (.tmp 24) rfl rfl rfl rfl X7 (Nat.le_trans HZ6.out B7.size) R7 (by have := HY6.out.2.1; simp; omega) ?_
               rintro v8 W8 M8 B8 U8
               have KP := KeptR.app X7 U8
               have K8 := KP _ _ _ ne_out_tx (K6.alloc (.cells (ouL x).toArray 169))
               have K8b := KP _ _ _ ne_out_tx (K6b.alloc (.cells (ouL x).toArray 169))
               have T8 := T6.out.far HR.out (HSK.out (q + 1)) ((B7.mono HZ6.out).trans B8)
               have Y8 := Lib.hid (show MineR inR W8 w.heap.size (.slice si j ci) xs ∧ (∀ y ∈ xs, Mine W8 w.heap.size y.kv y.key) from ⟨(HX6.out.1.keep B7).keptR KP ne_in_out, fun y hy => ((HX6.out.2.2.1 y hy).keep B7).keptR KP ne_out_u8⟩)
               obtain ⟨s8, e8, hv8⟩ := M8.slice
               have hl8 : (ys ++ [x]).length = q + 1 := by have := HY6.out.2.1; simp; omega
               rw [hl8] at hv8
               subst hv8
               have M8 := Lib.hid M8
               have T8 := Lib.hid T8
               have c8 : W8.cell? ⟨g3, 1, none⟩ = some (.slice so q co) := K8.cell 1
               have f8 := K8.frozen 1
               have z8 := K8.lt
               clear KP)
            | (go_simp
               go_at_call 103
               refine (HC.out).mono ?_
               rintro e w6 ⟨x, rfl, hsx, v6, T6⟩
               have K6 := T6.2.1.keep HJ3.out.drew hn3
               have K6b := T6.2.1.keep HJ2.out.drew hn2
               have HX6 : Hid (MineR inR w6 w.heap.size (.slice si j ci) xs ∧ xs.length = j ∧ (∀ x ∈ xs, Mine w6 w.heap.size x.kv x.key) ∧ InsSay (nxS1 s) xs) := by
                 refine ⟨?_, HX.out.2.1, fun y hy => ?_, HX.out.2.2.2⟩
                 · exact (HX.out.1.keep ((Below.refl _ _).drew)).but' T6.2.1 HTD.out.1.1 (by decide)
                 · exact ((HX.out.2.2.1 y hy).keep ((Below.refl _ _).drew)).but' T6.2.1 HTD.out.1.1 (by decide)
               have HY6 : Hid (MineR outR w6 w.heap.size (.slice so q co) ys ∧ ys.length = q ∧ OutsSay (nxS3 s) ys) := ⟨(HY.out.1.keep ((Below.refl _ _).drew)).but' T6.2.1 HTD.out.1.1 (by decide), HY.out.2⟩
               have HZ6 : Hid (w.heap.size ≤ w6.heap.size) := Nat.le_trans HLW.out T6.size
               have HS6 := Lib.hid hsx
               have T6 := Lib.hid (HTD.out.trans T6)
               have c6 : w6.cell? ⟨g3, 1, none⟩ = some (.slice so q co) := K6.cell 1
               have c7 : (w6.alloc (.cells (ouL x).toArray 169)).cell? ⟨g3, 1, none⟩ = some (.slice so q co) := (K6.alloc _).cell 1
               have hfo := out_fold x
               have hle := ouL_len x
               clear hsx))
          all_goals
            have HE : Hid (Took p v (outSts (q + 1) (nxS3 s)) w (W8.setCell ⟨g3, 1, none⟩ (.slice s8 (q + 1) e8)) v6 ∧ Bk (W8.setCell ⟨g3, 1, none⟩ (.slice s8 (q + 1) e8)) g2 89 #[.slice none 0 0, .slice none 0 0] ∧ Bk (W8.setCell ⟨g3, 1, none⟩ (.slice s8 (q + 1) e8)) g3 89 #[.slice si j ci, .slice s8 (q + 1) e8] ∧ (MineR inR (W8.setCell ⟨g3, 1, none⟩ (.slice s8 (q + 1) e8)) w.heap.size (.slice si j ci) xs ∧ xs.length = j ∧ (∀ y ∈ xs, Mine (W8.setCell ⟨g3, 1, none⟩ (.slice s8 (q + 1) e8)) w.heap.size y.kv y.key) ∧ InsSay (nxS1 s) xs) ∧ (MineR outR (W8.setCell ⟨g3, 1, none⟩ (.slice s8 (q + 1) e8)) w.heap.size (.slice s8 (q + 1) e8) (ys ++ [x]) ∧ (ys ++ [x]).length = q + 1 ∧ OutsSay (nxS3 s) (ys ++ [x]))) := by
              have hb := But.set_ (S := fun k => k = g3) (But.refl _ W8) (.inl rfl) 1 none (.slice s8 (q + 1) e8)
              exact ⟨T8.out.far HR.out (HSK.out (q + 1)) ((Below.refl _ _).setCell (by have := HG.out; show w.heap.size ≤ g3; omega) _), K8b.far (by have := HG.out; show g2 ≠ g3; omega) _, K8.set_ 1 _, ⟨Y8.out.1.but' hb K8 ne_in_tx, HX6.out.2.1, fun y hy => (Y8.out.2 y hy).but' hb K8 ht_tx, HX6.out.2.2.2⟩, M8.out.but' hb K8 ne_out_tx, hl8, HY6.out.2.2.snoc (by rw [HY6.out.2.1]; exact HS6.out)⟩
            clear HX HY HT HTD HC HJ2 HJ3
            go_wp2_with fail
            go_roundw
            case rel => exact ⟨q + 1, v6, s8, e8, ys ++ [x], by omega, by go_num, HE.out.1, HE.out.2.1, HE.out.2.2.1, HE.out.2.2.2.1, HE.out.2.2.2.2⟩
            case measure => simp [intOf]; omega
        · obtain rfl : q = m := by omega
          have j2 : decide ((q : Int) < (q : Int)) = false := decide_eq_false (by omega)
          rw [HD4.out] at HT
          have c0 : wr.cell? ⟨g3, 0, none⟩ = some (.slice si j ci) := J3.cell 0
          have c1 : wr.cell? ⟨g3, 1, none⟩ = some (.slice so q co) := J3.cell 1
          have z3 := J3.lt
          have e0 : wr.cell? ⟨g2, 0, none⟩ = some (.slice none 0 0) := J2.cell 0
          have e1 : wr.cell? ⟨g2, 1, none⟩ = some (.slice none 0 0) := J2.cell 1
          have z2 := J2.lt
          have f20 := J2.frozen 0
          have f21 := J2.frozen 1
          have HSX := Lib.hid (nxSt_shr s)
          obtain ⟨t, ht⟩ : ∃ t : TxM, t = ⟨si, ci, xs, so, co, ys⟩ := ⟨_, rfl⟩
          have HEND : Hid (t.iv = .slice si j ci ∧ t.ov = .slice so q co ∧ NextSays s t) := by
            rw [ht]
            exact ⟨by show Value.slice _ xs.length _ = _; rw [HX.out.2.1], by show Value.slice _ ys.length _ = _; rw [HY.out.2.1], ⟨by show xs.length = _; rw [HX.out.2.1]; exact HNM.out.1, HX.out.2.2.2, by show ys.length = _; rw [HY.out.2.1]; exact HNM.out.2, HY.out.2.2⟩⟩
          have HMT : Hid (∀ W', But (fun k => k = g2) wr W' → MineT W' w.heap.size t) := by
            show ∀ W', _
            intro W' hb
            refine ⟨?_, ?_, ?_⟩
            · rw [HEND.out.1, ht]
              exact HX.out.1.but' hb J2 ne_in_tx
            · intro x hx
              rw [ht] at hx
              exact (HX.out.2.2.1 x hx).but' hb J2 ht_tx
            · rw [HEND.out.2.1, ht]
              exact HY.out.1.but' hb J2 ne_out_tx
          have HJ2 := Lib.hid J2
          clear hlq HX HY J2 J3 ht
          go_wp2_with fail
          have KR : Bk ((wr.setCell ⟨g2, 0, none⟩ (.slice si j ci)).setCell ⟨g2, 1, none⟩ (.slice so q co)) g2 89 #[.slice si j ci, .slice so q co] := (HJ2.out.set_ 0 _).set_ 1 _
          have hb : But (fun k => k = g2) wr ((wr.setCell ⟨g2, 0, none⟩ (.slice si j ci)).setCell ⟨g2, 1, none⟩ (.slice so q co)) := But.set_ (S := fun k => k = g2) (But.set_ (S := fun k => k = g2) (But.refl _ _) (.inl rfl) 0 none _) (.inl rfl) 1 none _
          refine bodyPost_ret (results_cell_row rfl _ _ g2 89 #[.slice si j ci, .slice so q co] (0, 0) _ rfl KR Tryd.underlying89 rfl tx_infos) rfl ⟨t, ?_, HEND.out.2.2, HMT.out _ hb, vj, HT.out.far HR.out HSX.out (((Below.refl _ _).setCell (by have := HG.out; show w.heap.size ≤ g2; omega) _).setCell (by have := HG.out; show w.heap.size ≤ g2; omega) _)⟩
          rw [HEND.out.1, HEND.out.2.1]
end Go.Proofs.YtkpffjcdalclmaaDoor
