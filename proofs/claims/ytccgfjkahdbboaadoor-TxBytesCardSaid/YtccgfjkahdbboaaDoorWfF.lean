/-
  The document's answer for layer 6: the next count, its contract.
-/
import Derived.Test.YtccgfjkahdbboaaDoorWfE
namespace Go.Proofs.YtccgfjkahdbboaaDoor
open Go.RowKit
set_option linter.unusedVariables false
set_option linter.unusedSimpArgs false
set_option maxRecDepth 100000 in
set_option maxHeartbeats 8000000 in
theorem rfnumber_any (s : St) (most : Nat) (w : World) (hI : StI s) (hmost : most < 18446744073709551616) :
    Calls Tryd.prog 48 #[stv s, .int .u64 (most : Int)] w fun e w' => e = .returned (.tuple #[.int .u64 ((rdCount s most).1 : Int), stv (rdCount s most).2]) ∧ Below w.heap.size w w' := by
  have he : (strN [] : ByteArray) = ⟨#[]⟩ := by decide +kernel
  have HT : Hid (∀ (t : St) (k : Nat), StI t → k ≤ 8 → ∀ W, Calls Tryd.prog 47 #[stv t, .int .i64 (k : Int)] W fun e w' => e = .returned (.tuple #[.string (strN (rdTake t k).1), stv (rdTake t k).2]) ∧ Below W.heap.size W w') := fun t k ht hk W => rftake_any t k W (by omega) ht.1 ht.2.1
  have HL : Hid (∀ (t : St) (k : Nat), StI t → k ≤ 8 → ∀ W, Calls Tryd.prog 67 #[.string (strN (rdTake t k).1)] W fun e w' => e = .returned (.int .u64 ((rdNum t k).1 : Int)) ∧ w' = W) := fun t k ht hk W => by
    have e : (rdNum t (k : Int)).1 = ofL ((rdTake t (k : Int)).1.take 8) := by unfold rdNum; rfl
    rw [e]
    exact rflow_any _ W (take_inv t k ht).2.1 (by have := take_len t k; omega)
  have HLT : Hid (∀ (t : St) (k : Nat), StI t → k ≤ 8 → (rdNum t k).1 < 256 ^ k ∧ StI (rdTake t k).2) := fun t k ht hk => ⟨num_lt t k hk ht, (take_inv t k ht).1⟩
  have HC : Hid (∀ (n : Nat) (W : World), n < 18446744073709551616 → Calls Tryd.prog 28 #[.int .u64 (n : Int)] W fun e w' => e = .returned (.string (strN (countL n))) ∧ Below W.heap.size W w') := fun n W h => rfcount_any n W h
  have HCZ : Hid (∀ n : Nat, (strN (countL n)).size = if n < 253 then 1 else if n < 65536 then 3 else if n < 4294967296 then 5 else 9) := fun n => by rw [strN_size, countL_len3]
  obtain ⟨⟨r1, rs⟩, hR⟩ : ∃ r : Nat × St, r = rdCount s most := ⟨_, rfl⟩
  rw [← hR]
  show Calls Tryd.prog _ _ w fun e w' => e = .returned (.tuple #[.int .u64 (r1 : Int), stv rs]) ∧ Below w.heap.size w w'
  have HR0 := Lib.hid hR
  have HII := Lib.hid hI
  have HT1 := Lib.hid (HT.out s 1 hI (by omega))
  have HL1 := Lib.hid (HL.out s 1 hI (by omega))
  have HX1 := Lib.hid (HLT.out s 1 hI (by omega))
  obtain ⟨b1, hb1⟩ : ∃ b1, b1 = strN (rdTake s ((1 : Nat) : Int)).1 := ⟨_, rfl⟩
  obtain ⟨⟨l1, k1⟩, hs1⟩ : ∃ s1 : St, s1 = (rdTake s ((1 : Nat) : Int)).2 := ⟨_, rfl⟩
  obtain ⟨n1, hn1⟩ : ∃ n1, n1 = (rdNum s ((1 : Nat) : Int)).1 := ⟨_, rfl⟩
  rw [← hb1, ← hs1] at HT1
  rw [← hb1, ← hn1] at HL1
  rw [← hn1, ← hs1] at HX1
  have HS1 := Lib.hid hs1
  have HN1 := Lib.hid hn1
  obtain ⟨l0, k0⟩ := s
  have HT1 : Hid (∀ W, Calls Tryd.prog 47 #[.agg #[.string (strN l0), .int .i64 ((k0 : Nat) : Int)], .int .i64 1] W fun e w' => e = .returned (.tuple #[.string b1, .agg #[.string (strN l1), .int .i64 ((k1 : Nat) : Int)]]) ∧ Below W.heap.size W w') := HT1
  show Calls Tryd.prog _ #[.agg #[.string (strN l0), .int .i64 ((k0 : Nat) : Int)], _] w _
  have hW : Below w.heap.size w ((w.alloc (.cells #[.string (strN l0), .int .i64 ((k0 : Nat) : Int)] 81)).alloc (.cells #[.string ⟨#[]⟩, .int .i64 0] 81)) := ((Below.refl _ _).alloc (Nat.le_refl _) _).alloc (by simp) _
  clear hI hR hb1 hs1 hn1
  go_enter Tryd.func48, Tryd.ntmps48
  go_upto_region 1 with fail
  refine wp_any (fun W => Below w.heap.size w W ∧ Bk W w.heap.size 81 #[.string (strN l0), .int .i64 ((k0 : Nat) : Int)] ∧ Bk W (w.heap.size + 1) 81 #[.string ⟨#[]⟩, .int .i64 0]) ⟨hW, (Bk.new _ _ _).alloc _, Bk.new' _ _ _ (by simp)⟩ ?_
  generalize hg2 : w.heap.size = g2 at *
  clear hW
  rintro W ⟨hW, K2, K5⟩
  have HW := Lib.hid hW
  have hsz := hW.size
  have hgW : g2 ≤ W.heap.size := Nat.le_of_lt K2.lt
  clear hW hsz
  have c0 := K2.cell 0
  have c1 := K2.cell 1
  have fz0 := K2.frozen 0
  have fz1 := K2.frozen 1
  have d0 := K5.cell 0
  have d1 := K5.cell 1
  have f0 := K5.frozen 0
  have f1 := K5.frozen 1
  have z2 := K2.lt
  have z5 := K5.lt
  go_wp2_with fail
  refine (HT1.out _).mono ?_
  rintro e w1 ⟨rfl, hb⟩
  clear c0 c1 fz0 fz1 d0 d1 f0 f1 z2 z5
  have K2 := K2.keep hb
  have K5 := K5.keep hb
  have HW := Lib.hid (HW.out.trans (hb.mono hgW))
  clear hb hgW HT1
  have c0 := K2.cell 0
  have c1 := K2.cell 1
  have fz0 := K2.frozen 0
  have fz1 := K2.frozen 1
  have d0 := K5.cell 0
  have d1 := K5.cell 1
  have f0 := K5.frozen 0
  have f1 := K5.frozen 1
  have z2 := K2.lt
  have z5 := K5.lt
  go_upto_region 2 with fail
  refine wp_any (fun V => Below g2 w V ∧ Bk V g2 81 #[.string (strN l1), .int .i64 ((k1 : Nat) : Int)] ∧ Bk V (g2 + 1) 81 #[.string ⟨#[]⟩, .int .i64 0]) ⟨(HW.out.setCell (Nat.le_refl _) _).setCell (Nat.le_refl _) _, st_set2 K2 _ _, (K5.far (by show g2 + 1 ≠ g2; omega) _).far (by show g2 + 1 ≠ g2; omega) _⟩ ?_
  clear c0 c1 fz0 fz1 d0 d1 f0 f1 z2 z5
  clear K2 K5 HW
  rintro V ⟨hW, K2, K5⟩
  have HW := Lib.hid hW
  clear hW
  have c0 := K2.cell 0
  have c1 := K2.cell 1
  have fz0 := K2.frozen 0
  have fz1 := K2.frozen 1
  have d0 := K5.cell 0
  have d1 := K5.cell 1
  have f0 := K5.frozen 0
  have f1 := K5.frozen 1
  have z2 := K2.lt
  have z5 := K5.lt
  go_wp2_with fail
  refine (HL1.out _).mono ?_
  rintro e w2 ⟨rfl, e2⟩
  subst w2
  clear HL1
  have hn256 : n1 < 256 := HX1.out.1
  by_cases h253 : n1 < 253
  · have hd3 : decide ((253 : Int) ≤ (n1 : Int)) = false := decide_eq_false (by omega)
    have hd3' : decide (253 ≤ n1) = false := decide_eq_false (by omega)
    have HR : Hid ((r1, rs) = numEnd n1 most (l1, k1)) := by
      have hcn : rdCnt (l0, k0) = ((n1, 0), (l1, k1)) := by
        have e1 : (rdNum (l0, k0) 1).1 = n1 := HN1.out.symm
        have e2 : (rdNum (l0, k0) 1).2 = (l1, k1) := HS1.out.symm
        unfold rdCnt
        rw [e1, e2, if_neg (by omega), if_neg (by omega), if_neg (by omega)]
      show _ = _
      rw [HR0.out, count_end _ most HII.out n1 (l1, k1) 0 hcn HX1.out.2, if_neg (by omega)]
    clear HT HL HLT HC HCZ
    by_cases hcs : k1 = 0
    · subst hcs
      have HR2 := HR.out
      unfold numEnd at HR2
      rw [if_neg (show ¬ ((l1, 0) : St).2 ≠ 0 by simp)] at HR2
      have hb0 : (((0 : Nat) : Int) == 0) = true := rfl
      have hbn : (((0 : Nat) : Int) != 0) = false := rfl
      by_cases hmn : most < n1
      · rw [if_pos hmn] at HR2
        obtain ⟨rfl, rfl⟩ := Prod.mk.inj HR2
        have hd9 : decide ((most : Int) < (n1 : Int)) = true := decide_eq_true (by omega)
        clear HR HR2
        go_wp2_with fail
        refine st_ret (g := g2 + 1) rfl rfl rfl rfl ?_ ?_
        · show Bk _ _ _ #[.string (strN []), .int .i64 ((2 : Nat) : Int)]; rw [he]; exact st_set2 K5 _ _
        · try rw [hg2]
          repeat' (first | exact HW.out | with_reducible refine Below.drew ?_ | with_reducible refine Below.setCell ?_ ?_ _ | (show g2 ≤ g2 + 1; omega))
      · rw [if_neg hmn] at HR2
        obtain ⟨rfl, rfl⟩ := Prod.mk.inj HR2
        have hd9 : decide ((most : Int) < (r1 : Int)) = false := decide_eq_false (by omega)
        clear HR HR2
        go_upto_region 17 with fail
        go_region_law (fail)
        all_goals
          go_wp2_with fail
          refine st_ret (g := g2 + 1) rfl rfl rfl rfl ?_ ?_
          · exact (st_set2 K5 _ _).drew
          · try rw [hg2]
            repeat' (first | exact HW.out | with_reducible refine Below.drew ?_ | with_reducible refine Below.setCell ?_ ?_ _ | (show g2 ≤ g2 + 1; omega))
    · have HR2 := HR.out
      unfold numEnd at HR2
      rw [if_pos (show ((l1, k1) : St).2 ≠ 0 from hcs)] at HR2
      obtain ⟨rfl, rfl⟩ := Prod.mk.inj HR2
      have hb0 : (((k1 : Nat) : Int) == 0) = false := by simp; omega
      have hbn : (((k1 : Nat) : Int) != 0) = true := by simp; omega
      have hbd : decide (((k1 : Nat) : Int) = 0) = false := decide_eq_false (by omega)
      clear HR HR2
      go_upto_region 14 with fail
      go_region_law (fail)
      all_goals
        go_wp2_with fail
        refine st_ret (g := g2 + 1) rfl rfl rfl rfl ?_ ?_
        · show Bk _ _ _ #[.string (strN []), .int .i64 ((k1 : Nat) : Int)]; rw [he]; exact (st_set2 K5 _ _).drew
        · try rw [hg2]
          repeat' (first | exact HW.out | with_reducible refine Below.drew ?_ | with_reducible refine Below.setCell ?_ ?_ _ | (show g2 ≤ g2 + 1; omega))
  · rcases (show n1 = 253 ∨ n1 = 254 ∨ n1 = 255 by omega) with hv | hv | hv
    · subst hv
      have HT2 := Lib.hid (HT.out (l1, k1) 2 HX1.out.2 (by omega))
      have HL2 := Lib.hid (HL.out (l1, k1) 2 HX1.out.2 (by omega))
      have HX2 := Lib.hid (HLT.out (l1, k1) 2 HX1.out.2 (by omega))
      obtain ⟨b2, hb2⟩ : ∃ b2, b2 = strN (rdTake (l1, k1) ((2 : Nat) : Int)).1 := ⟨_, rfl⟩
      obtain ⟨⟨l2, k2⟩, hs2⟩ : ∃ s2 : St, s2 = (rdTake (l1, k1) ((2 : Nat) : Int)).2 := ⟨_, rfl⟩
      obtain ⟨n2, hn2⟩ : ∃ n2, n2 = (rdNum (l1, k1) ((2 : Nat) : Int)).1 := ⟨_, rfl⟩
      rw [← hb2, ← hs2] at HT2
      rw [← hb2, ← hn2] at HL2
      rw [← hn2, ← hs2] at HX2
      have hcn : rdCnt (l0, k0) = ((n2, 253), (l2, k2)) := by
        have e1 : (rdNum (l0, k0) 1).1 = 253 := HN1.out.symm
        have e2 : (rdNum (l0, k0) 1).2 = (l1, k1) := HS1.out.symm
        have e3 : (rdNum (l1, k1) 2).1 = n2 := hn2.symm
        have e4 : (rdNum (l1, k1) 2).2 = (l2, k2) := hs2.symm
        unfold rdCnt
        rw [e1, e2, e3, e4]
        rfl
      have HCE := Lib.hid (HR0.out.trans (count_end _ most HII.out n2 (l2, k2) 253 hcn HX2.out.2))
      have HT2 : Hid (∀ W, Calls Tryd.prog 47 #[.agg #[.string (strN l1), .int .i64 ((k1 : Nat) : Int)], .int .i64 2] W fun e w' => e = .returned (.tuple #[.string b2, .agg #[.string (strN l2), .int .i64 ((k2 : Nat) : Int)]]) ∧ Below W.heap.size W w') := HT2
      have HC2 := Lib.hid (fun W => HC.out n2 W (Nat.lt_of_lt_of_le HX2.out.1 (by decide)))
      have hcz := HCZ.out n2
      have hx2 : n2 < 256 ^ 2 := HX2.out.1
      generalize hcs2 : strN (countL n2) = cs2 at *
      clear hb2 hs2 hn2 hcn HT HL HLT HC HCZ hcs2
      go_wp2_with fail
      refine (HT2.out _).mono ?_
      rintro e w3 ⟨rfl, hb⟩
      clear c0 c1 fz0 fz1 d0 d1 f0 f1 z2 z5
      have hgV : g2 ≤ V.heap.size := Nat.le_of_lt K2.lt
      have K2 := K2.keep hb
      have K5 := K5.keep hb
      have HW := Lib.hid (HW.out.trans (hb.mono hgV))
      clear hb hgV HT2
      have c0 := K2.cell 0
      have c1 := K2.cell 1
      have fz0 := K2.frozen 0
      have fz1 := K2.frozen 1
      have d0 := K5.cell 0
      have d1 := K5.cell 1
      have f0 := K5.frozen 0
      have f1 := K5.frozen 1
      have z2 := K2.lt
      have z5 := K5.lt
      go_upto_region 10 with fail
      refine wp_any (fun V => Below g2 w V ∧ Bk V g2 81 #[.string (strN l2), .int .i64 ((k2 : Nat) : Int)] ∧ Bk V (g2 + 1) 81 #[.string ⟨#[]⟩, .int .i64 0]) ⟨(HW.out.setCell (Nat.le_refl _) _).setCell (Nat.le_refl _) _, st_set2 K2 _ _, (K5.far (by show g2 + 1 ≠ g2; omega) _).far (by show g2 + 1 ≠ g2; omega) _⟩ ?_
      clear c0 c1 fz0 fz1 d0 d1 f0 f1 z2 z5
      clear K2 K5 HW
      rintro V ⟨hW, K2, K5⟩
      have HW := Lib.hid hW
      clear hW
      have c0 := K2.cell 0
      have c1 := K2.cell 1
      have fz0 := K2.frozen 0
      have fz1 := K2.frozen 1
      have d0 := K5.cell 0
      have d1 := K5.cell 1
      have f0 := K5.frozen 0
      have f1 := K5.frozen 1
      have z2 := K2.lt
      have z5 := K5.lt
      go_wp2_with fail
      refine (HL2.out _).mono ?_
      rintro e w4 ⟨rfl, e4⟩
      subst w4
      clear HL2
      by_cases hcs : k2 = 0
      · subst hcs
        have hb00 : (((0 : Nat) : Int) == 0) = true := rfl
        go_wp2_with fail
        refine (HC2.out _).mono ?_
        rintro e w5 ⟨rfl, hb⟩
        clear c0 c1 fz0 fz1 d0 d1 f0 f1 z2 z5
        have hgV : g2 ≤ V.heap.size := Nat.le_of_lt K2.lt
        have K2 := K2.keep hb
        have K5 := K5.keep hb
        have HW := Lib.hid (HW.out.trans (hb.mono hgV))
        clear hb hgV HC2
        have c0 := K2.cell 0
        have c1 := K2.cell 1
        have fz0 := K2.frozen 0
        have fz1 := K2.frozen 1
        have d0 := K5.cell 0
        have d1 := K5.cell 1
        have f0 := K5.frozen 0
        have f1 := K5.frozen 1
        have z2 := K2.lt
        have z5 := K5.lt
        by_cases hlo : n2 < 253
        · have e := HCE.out
          rw [if_pos (by first | exact ⟨rfl, hlo⟩ | exact ⟨trivial, hlo⟩)] at e
          obtain ⟨rfl, rfl⟩ := Prod.mk.inj e
          have hbq : (((cs2.size : Nat) : Int) != 3) = true := by
            rw [hcz]
            split <;> (try split) <;> (try split) <;> first | rfl | omega
          clear hcz e HCE
          go_wp2_with fail
          refine st_ret (g := g2 + 1) rfl rfl rfl rfl ?_ ?_
          · show Bk _ _ _ #[.string (strN []), .int .i64 ((70 : Nat) : Int)]; rw [he]; exact st_set2 K5 _ _
          · try rw [hg2]
            repeat' (first | exact HW.out | with_reducible refine Below.drew ?_ | with_reducible refine Below.setCell ?_ ?_ _ | (show g2 ≤ g2 + 1; omega))
        · have hbq : (((cs2.size : Nat) : Int) != 3) = false := by
            rw [hcz]
            split <;> (try split) <;> (try split) <;> first | rfl | omega
          have HR : Hid ((r1, rs) = numEnd n2 most (l2, 0)) := by
            show _ = _
            rw [HCE.out, if_neg (fun h => hlo h.2)]
          clear hcz HCE hlo
          have HR2 := HR.out
          unfold numEnd at HR2
          rw [if_neg (show ¬ ((l2, 0) : St).2 ≠ 0 by simp)] at HR2
          have hb0 : (((0 : Nat) : Int) == 0) = true := rfl
          have hbn : (((0 : Nat) : Int) != 0) = false := rfl
          by_cases hmn : most < n2
          · rw [if_pos hmn] at HR2
            obtain ⟨rfl, rfl⟩ := Prod.mk.inj HR2
            have hd9 : decide ((most : Int) < (n2 : Int)) = true := decide_eq_true (by omega)
            clear HR HR2
            go_wp2_with fail
            refine st_ret (g := g2 + 1) rfl rfl rfl rfl ?_ ?_
            · show Bk _ _ _ #[.string (strN []), .int .i64 ((2 : Nat) : Int)]; rw [he]; exact st_set2 K5 _ _
            · try rw [hg2]
              repeat' (first | exact HW.out | with_reducible refine Below.drew ?_ | with_reducible refine Below.setCell ?_ ?_ _ | (show g2 ≤ g2 + 1; omega))
          · rw [if_neg hmn] at HR2
            obtain ⟨rfl, rfl⟩ := Prod.mk.inj HR2
            have hd9 : decide ((most : Int) < (r1 : Int)) = false := decide_eq_false (by omega)
            clear HR HR2
            go_upto_region 17 with fail
            go_region_law (fail)
            all_goals
              go_wp2_with fail
              refine st_ret (g := g2 + 1) rfl rfl rfl rfl ?_ ?_
              · exact (st_set2 K5 _ _).drew
              · try rw [hg2]
                repeat' (first | exact HW.out | with_reducible refine Below.drew ?_ | with_reducible refine Below.setCell ?_ ?_ _ | (show g2 ≤ g2 + 1; omega))
      · have hb00 : (((k2 : Nat) : Int) == 0) = false := by simp; omega
        have hb01 : decide (((k2 : Nat) : Int) = 0) = false := decide_eq_false (by omega)
        have HR : Hid ((r1, rs) = numEnd n2 most (l2, k2)) := by
          show _ = _
          rw [HCE.out, if_neg (fun h => hcs h.1)]
        clear hcz HCE HC2
        have HR2 := HR.out
        unfold numEnd at HR2
        rw [if_pos (show ((l2, k2) : St).2 ≠ 0 from hcs)] at HR2
        obtain ⟨rfl, rfl⟩ := Prod.mk.inj HR2
        have hb0 : (((k2 : Nat) : Int) == 0) = false := by simp; omega
        have hbn : (((k2 : Nat) : Int) != 0) = true := by simp; omega
        have hbd : decide (((k2 : Nat) : Int) = 0) = false := decide_eq_false (by omega)
        clear HR HR2
        go_upto_region 14 with fail
        go_region_law (fail)
        all_goals
          go_wp2_with fail
          refine st_ret (g := g2 + 1) rfl rfl rfl rfl ?_ ?_
          · show Bk _ _ _ #[.string (strN []), .int .i64 ((k2 : Nat) : Int)]; rw [he]; exact (st_set2 K5 _ _).drew
          · try rw [hg2]
            repeat' (first | exact HW.out | with_reducible refine Below.drew ?_ | with_reducible refine Below.setCell ?_ ?_ _ | (show g2 ≤ g2 + 1; omega))
    · subst hv
      have HT2 := Lib.hid (HT.out (l1, k1) 4 HX1.out.2 (by omega))
      have HL2 := Lib.hid (HL.out (l1, k1) 4 HX1.out.2 (by omega))
      have HX2 := Lib.hid (HLT.out (l1, k1) 4 HX1.out.2 (by omega))
      obtain ⟨b2, hb2⟩ : ∃ b2, b2 = strN (rdTake (l1, k1) ((4 : Nat) : Int)).1 := ⟨_, rfl⟩
      obtain ⟨⟨l2, k2⟩, hs2⟩ : ∃ s2 : St, s2 = (rdTake (l1, k1) ((4 : Nat) : Int)).2 := ⟨_, rfl⟩
      obtain ⟨n2, hn2⟩ : ∃ n2, n2 = (rdNum (l1, k1) ((4 : Nat) : Int)).1 := ⟨_, rfl⟩
      rw [← hb2, ← hs2] at HT2
      rw [← hb2, ← hn2] at HL2
      rw [← hn2, ← hs2] at HX2
      have hcn : rdCnt (l0, k0) = ((n2, 65536), (l2, k2)) := by
        have e1 : (rdNum (l0, k0) 1).1 = 254 := HN1.out.symm
        have e2 : (rdNum (l0, k0) 1).2 = (l1, k1) := HS1.out.symm
        have e3 : (rdNum (l1, k1) 4).1 = n2 := hn2.symm
        have e4 : (rdNum (l1, k1) 4).2 = (l2, k2) := hs2.symm
        unfold rdCnt
        rw [e1, e2, e3, e4]
        rfl
      have HCE := Lib.hid (HR0.out.trans (count_end _ most HII.out n2 (l2, k2) 65536 hcn HX2.out.2))
      have HT2 : Hid (∀ W, Calls Tryd.prog 47 #[.agg #[.string (strN l1), .int .i64 ((k1 : Nat) : Int)], .int .i64 4] W fun e w' => e = .returned (.tuple #[.string b2, .agg #[.string (strN l2), .int .i64 ((k2 : Nat) : Int)]]) ∧ Below W.heap.size W w') := HT2
      have HC2 := Lib.hid (fun W => HC.out n2 W (Nat.lt_of_lt_of_le HX2.out.1 (by decide)))
      have hcz := HCZ.out n2
      have hx2 : n2 < 256 ^ 4 := HX2.out.1
      generalize hcs2 : strN (countL n2) = cs2 at *
      clear hb2 hs2 hn2 hcn HT HL HLT HC HCZ hcs2
      go_wp2_with fail
      refine (HT2.out _).mono ?_
      rintro e w3 ⟨rfl, hb⟩
      clear c0 c1 fz0 fz1 d0 d1 f0 f1 z2 z5
      have hgV : g2 ≤ V.heap.size := Nat.le_of_lt K2.lt
      have K2 := K2.keep hb
      have K5 := K5.keep hb
      have HW := Lib.hid (HW.out.trans (hb.mono hgV))
      clear hb hgV HT2
      have c0 := K2.cell 0
      have c1 := K2.cell 1
      have fz0 := K2.frozen 0
      have fz1 := K2.frozen 1
      have d0 := K5.cell 0
      have d1 := K5.cell 1
      have f0 := K5.frozen 0
      have f1 := K5.frozen 1
      have z2 := K2.lt
      have z5 := K5.lt
      go_upto_region 10 with fail
      refine wp_any (fun V => Below g2 w V ∧ Bk V g2 81 #[.string (strN l2), .int .i64 ((k2 : Nat) : Int)] ∧ Bk V (g2 + 1) 81 #[.string ⟨#[]⟩, .int .i64 0]) ⟨(HW.out.setCell (Nat.le_refl _) _).setCell (Nat.le_refl _) _, st_set2 K2 _ _, (K5.far (by show g2 + 1 ≠ g2; omega) _).far (by show g2 + 1 ≠ g2; omega) _⟩ ?_
      clear c0 c1 fz0 fz1 d0 d1 f0 f1 z2 z5
      clear K2 K5 HW
      rintro V ⟨hW, K2, K5⟩
      have HW := Lib.hid hW
      clear hW
      have c0 := K2.cell 0
      have c1 := K2.cell 1
      have fz0 := K2.frozen 0
      have fz1 := K2.frozen 1
      have d0 := K5.cell 0
      have d1 := K5.cell 1
      have f0 := K5.frozen 0
      have f1 := K5.frozen 1
      have z2 := K2.lt
      have z5 := K5.lt
      go_wp2_with fail
      refine (HL2.out _).mono ?_
      rintro e w4 ⟨rfl, e4⟩
      subst w4
      clear HL2
      by_cases hcs : k2 = 0
      · subst hcs
        have hb00 : (((0 : Nat) : Int) == 0) = true := rfl
        go_wp2_with fail
        refine (HC2.out _).mono ?_
        rintro e w5 ⟨rfl, hb⟩
        clear c0 c1 fz0 fz1 d0 d1 f0 f1 z2 z5
        have hgV : g2 ≤ V.heap.size := Nat.le_of_lt K2.lt
        have K2 := K2.keep hb
        have K5 := K5.keep hb
        have HW := Lib.hid (HW.out.trans (hb.mono hgV))
        clear hb hgV HC2
        have c0 := K2.cell 0
        have c1 := K2.cell 1
        have fz0 := K2.frozen 0
        have fz1 := K2.frozen 1
        have d0 := K5.cell 0
        have d1 := K5.cell 1
        have f0 := K5.frozen 0
        have f1 := K5.frozen 1
        have z2 := K2.lt
        have z5 := K5.lt
        by_cases hlo : n2 < 65536
        · have e := HCE.out
          rw [if_pos (by first | exact ⟨rfl, hlo⟩ | exact ⟨trivial, hlo⟩)] at e
          obtain ⟨rfl, rfl⟩ := Prod.mk.inj e
          have hbq : (((cs2.size : Nat) : Int) != 5) = true := by
            rw [hcz]
            split <;> (try split) <;> (try split) <;> first | rfl | omega
          clear hcz e HCE
          go_wp2_with fail
          refine st_ret (g := g2 + 1) rfl rfl rfl rfl ?_ ?_
          · show Bk _ _ _ #[.string (strN []), .int .i64 ((70 : Nat) : Int)]; rw [he]; exact st_set2 K5 _ _
          · try rw [hg2]
            repeat' (first | exact HW.out | with_reducible refine Below.drew ?_ | with_reducible refine Below.setCell ?_ ?_ _ | (show g2 ≤ g2 + 1; omega))
        · have hbq : (((cs2.size : Nat) : Int) != 5) = false := by
            rw [hcz]
            split <;> (try split) <;> (try split) <;> first | rfl | omega
          have HR : Hid ((r1, rs) = numEnd n2 most (l2, 0)) := by
            show _ = _
            rw [HCE.out, if_neg (fun h => hlo h.2)]
          clear hcz HCE hlo
          have HR2 := HR.out
          unfold numEnd at HR2
          rw [if_neg (show ¬ ((l2, 0) : St).2 ≠ 0 by simp)] at HR2
          have hb0 : (((0 : Nat) : Int) == 0) = true := rfl
          have hbn : (((0 : Nat) : Int) != 0) = false := rfl
          by_cases hmn : most < n2
          · rw [if_pos hmn] at HR2
            obtain ⟨rfl, rfl⟩ := Prod.mk.inj HR2
            have hd9 : decide ((most : Int) < (n2 : Int)) = true := decide_eq_true (by omega)
            clear HR HR2
            go_wp2_with fail
            refine st_ret (g := g2 + 1) rfl rfl rfl rfl ?_ ?_
            · show Bk _ _ _ #[.string (strN []), .int .i64 ((2 : Nat) : Int)]; rw [he]; exact st_set2 K5 _ _
            · try rw [hg2]
              repeat' (first | exact HW.out | with_reducible refine Below.drew ?_ | with_reducible refine Below.setCell ?_ ?_ _ | (show g2 ≤ g2 + 1; omega))
          · rw [if_neg hmn] at HR2
            obtain ⟨rfl, rfl⟩ := Prod.mk.inj HR2
            have hd9 : decide ((most : Int) < (r1 : Int)) = false := decide_eq_false (by omega)
            clear HR HR2
            go_upto_region 17 with fail
            go_region_law (fail)
            all_goals
              go_wp2_with fail
              refine st_ret (g := g2 + 1) rfl rfl rfl rfl ?_ ?_
              · exact (st_set2 K5 _ _).drew
              · try rw [hg2]
                repeat' (first | exact HW.out | with_reducible refine Below.drew ?_ | with_reducible refine Below.setCell ?_ ?_ _ | (show g2 ≤ g2 + 1; omega))
      · have hb00 : (((k2 : Nat) : Int) == 0) = false := by simp; omega
        have hb01 : decide (((k2 : Nat) : Int) = 0) = false := decide_eq_false (by omega)
        have HR : Hid ((r1, rs) = numEnd n2 most (l2, k2)) := by
          show _ = _
          rw [HCE.out, if_neg (fun h => hcs h.1)]
        clear hcz HCE HC2
        have HR2 := HR.out
        unfold numEnd at HR2
        rw [if_pos (show ((l2, k2) : St).2 ≠ 0 from hcs)] at HR2
        obtain ⟨rfl, rfl⟩ := Prod.mk.inj HR2
        have hb0 : (((k2 : Nat) : Int) == 0) = false := by simp; omega
        have hbn : (((k2 : Nat) : Int) != 0) = true := by simp; omega
        have hbd : decide (((k2 : Nat) : Int) = 0) = false := decide_eq_false (by omega)
        clear HR HR2
        go_upto_region 14 with fail
        go_region_law (fail)
        all_goals
          go_wp2_with fail
          refine st_ret (g := g2 + 1) rfl rfl rfl rfl ?_ ?_
          · show Bk _ _ _ #[.string (strN []), .int .i64 ((k2 : Nat) : Int)]; rw [he]; exact (st_set2 K5 _ _).drew
          · try rw [hg2]
            repeat' (first | exact HW.out | with_reducible refine Below.drew ?_ | with_reducible refine Below.setCell ?_ ?_ _ | (show g2 ≤ g2 + 1; omega))
    · subst hv
      have HT2 := Lib.hid (HT.out (l1, k1) 8 HX1.out.2 (by omega))
      have HL2 := Lib.hid (HL.out (l1, k1) 8 HX1.out.2 (by omega))
      have HX2 := Lib.hid (HLT.out (l1, k1) 8 HX1.out.2 (by omega))
      obtain ⟨b2, hb2⟩ : ∃ b2, b2 = strN (rdTake (l1, k1) ((8 : Nat) : Int)).1 := ⟨_, rfl⟩
      obtain ⟨⟨l2, k2⟩, hs2⟩ : ∃ s2 : St, s2 = (rdTake (l1, k1) ((8 : Nat) : Int)).2 := ⟨_, rfl⟩
      obtain ⟨n2, hn2⟩ : ∃ n2, n2 = (rdNum (l1, k1) ((8 : Nat) : Int)).1 := ⟨_, rfl⟩
      rw [← hb2, ← hs2] at HT2
      rw [← hb2, ← hn2] at HL2
      rw [← hn2, ← hs2] at HX2
      have hcn : rdCnt (l0, k0) = ((n2, 4294967296), (l2, k2)) := by
        have e1 : (rdNum (l0, k0) 1).1 = 255 := HN1.out.symm
        have e2 : (rdNum (l0, k0) 1).2 = (l1, k1) := HS1.out.symm
        have e3 : (rdNum (l1, k1) 8).1 = n2 := hn2.symm
        have e4 : (rdNum (l1, k1) 8).2 = (l2, k2) := hs2.symm
        unfold rdCnt
        rw [e1, e2, e3, e4]
        rfl
      have HCE := Lib.hid (HR0.out.trans (count_end _ most HII.out n2 (l2, k2) 4294967296 hcn HX2.out.2))
      have HT2 : Hid (∀ W, Calls Tryd.prog 47 #[.agg #[.string (strN l1), .int .i64 ((k1 : Nat) : Int)], .int .i64 8] W fun e w' => e = .returned (.tuple #[.string b2, .agg #[.string (strN l2), .int .i64 ((k2 : Nat) : Int)]]) ∧ Below W.heap.size W w') := HT2
      have HC2 := Lib.hid (fun W => HC.out n2 W (Nat.lt_of_lt_of_le HX2.out.1 (by decide)))
      have hcz := HCZ.out n2
      have hx2 : n2 < 256 ^ 8 := HX2.out.1
      generalize hcs2 : strN (countL n2) = cs2 at *
      clear hb2 hs2 hn2 hcn HT HL HLT HC HCZ hcs2
      go_wp2_with fail
      refine (HT2.out _).mono ?_
      rintro e w3 ⟨rfl, hb⟩
      clear c0 c1 fz0 fz1 d0 d1 f0 f1 z2 z5
      have hgV : g2 ≤ V.heap.size := Nat.le_of_lt K2.lt
      have K2 := K2.keep hb
      have K5 := K5.keep hb
      have HW := Lib.hid (HW.out.trans (hb.mono hgV))
      clear hb hgV HT2
      have c0 := K2.cell 0
      have c1 := K2.cell 1
      have fz0 := K2.frozen 0
      have fz1 := K2.frozen 1
      have d0 := K5.cell 0
      have d1 := K5.cell 1
      have f0 := K5.frozen 0
      have f1 := K5.frozen 1
      have z2 := K2.lt
      have z5 := K5.lt
      go_upto_region 10 with fail
      refine wp_any (fun V => Below g2 w V ∧ Bk V g2 81 #[.string (strN l2), .int .i64 ((k2 : Nat) : Int)] ∧ Bk V (g2 + 1) 81 #[.string ⟨#[]⟩, .int .i64 0]) ⟨(HW.out.setCell (Nat.le_refl _) _).setCell (Nat.le_refl _) _, st_set2 K2 _ _, (K5.far (by show g2 + 1 ≠ g2; omega) _).far (by show g2 + 1 ≠ g2; omega) _⟩ ?_
      clear c0 c1 fz0 fz1 d0 d1 f0 f1 z2 z5
      clear K2 K5 HW
      rintro V ⟨hW, K2, K5⟩
      have HW := Lib.hid hW
      clear hW
      have c0 := K2.cell 0
      have c1 := K2.cell 1
      have fz0 := K2.frozen 0
      have fz1 := K2.frozen 1
      have d0 := K5.cell 0
      have d1 := K5.cell 1
      have f0 := K5.frozen 0
      have f1 := K5.frozen 1
      have z2 := K2.lt
      have z5 := K5.lt
      go_wp2_with fail
      refine (HL2.out _).mono ?_
      rintro e w4 ⟨rfl, e4⟩
      subst w4
      clear HL2
      by_cases hcs : k2 = 0
      · subst hcs
        have hb00 : (((0 : Nat) : Int) == 0) = true := rfl
        go_wp2_with fail
        refine (HC2.out _).mono ?_
        rintro e w5 ⟨rfl, hb⟩
        clear c0 c1 fz0 fz1 d0 d1 f0 f1 z2 z5
        have hgV : g2 ≤ V.heap.size := Nat.le_of_lt K2.lt
        have K2 := K2.keep hb
        have K5 := K5.keep hb
        have HW := Lib.hid (HW.out.trans (hb.mono hgV))
        clear hb hgV HC2
        have c0 := K2.cell 0
        have c1 := K2.cell 1
        have fz0 := K2.frozen 0
        have fz1 := K2.frozen 1
        have d0 := K5.cell 0
        have d1 := K5.cell 1
        have f0 := K5.frozen 0
        have f1 := K5.frozen 1
        have z2 := K2.lt
        have z5 := K5.lt
        by_cases hlo : n2 < 4294967296
        · have e := HCE.out
          rw [if_pos (by first | exact ⟨rfl, hlo⟩ | exact ⟨trivial, hlo⟩)] at e
          obtain ⟨rfl, rfl⟩ := Prod.mk.inj e
          have hbq : (((cs2.size : Nat) : Int) != 9) = true := by
            rw [hcz]
            split <;> (try split) <;> (try split) <;> first | rfl | omega
          clear hcz e HCE
          go_wp2_with fail
          refine st_ret (g := g2 + 1) rfl rfl rfl rfl ?_ ?_
          · show Bk _ _ _ #[.string (strN []), .int .i64 ((70 : Nat) : Int)]; rw [he]; exact st_set2 K5 _ _
          · try rw [hg2]
            repeat' (first | exact HW.out | with_reducible refine Below.drew ?_ | with_reducible refine Below.setCell ?_ ?_ _ | (show g2 ≤ g2 + 1; omega))
        · have hbq : (((cs2.size : Nat) : Int) != 9) = false := by
            rw [hcz]
            split <;> (try split) <;> (try split) <;> first | rfl | omega
          have HR : Hid ((r1, rs) = numEnd n2 most (l2, 0)) := by
            show _ = _
            rw [HCE.out, if_neg (fun h => hlo h.2)]
          clear hcz HCE hlo
          have HR2 := HR.out
          unfold numEnd at HR2
          rw [if_neg (show ¬ ((l2, 0) : St).2 ≠ 0 by simp)] at HR2
          have hb0 : (((0 : Nat) : Int) == 0) = true := rfl
          have hbn : (((0 : Nat) : Int) != 0) = false := rfl
          by_cases hmn : most < n2
          · rw [if_pos hmn] at HR2
            obtain ⟨rfl, rfl⟩ := Prod.mk.inj HR2
            have hd9 : decide ((most : Int) < (n2 : Int)) = true := decide_eq_true (by omega)
            clear HR HR2
            go_wp2_with fail
            refine st_ret (g := g2 + 1) rfl rfl rfl rfl ?_ ?_
            · show Bk _ _ _ #[.string (strN []), .int .i64 ((2 : Nat) : Int)]; rw [he]; exact st_set2 K5 _ _
            · try rw [hg2]
              repeat' (first | exact HW.out | with_reducible refine Below.drew ?_ | with_reducible refine Below.setCell ?_ ?_ _ | (show g2 ≤ g2 + 1; omega))
          · rw [if_neg hmn] at HR2
            obtain ⟨rfl, rfl⟩ := Prod.mk.inj HR2
            have hd9 : decide ((most : Int) < (r1 : Int)) = false := decide_eq_false (by omega)
            clear HR HR2
            go_upto_region 17 with fail
            go_region_law (fail)
            all_goals
              go_wp2_with fail
              refine st_ret (g := g2 + 1) rfl rfl rfl rfl ?_ ?_
              · exact (st_set2 K5 _ _).drew
              · try rw [hg2]
                repeat' (first | exact HW.out | with_reducible refine Below.drew ?_ | with_reducible refine Below.setCell ?_ ?_ _ | (show g2 ≤ g2 + 1; omega))
      · have hb00 : (((k2 : Nat) : Int) == 0) = false := by simp; omega
        have hb01 : decide (((k2 : Nat) : Int) = 0) = false := decide_eq_false (by omega)
        have HR : Hid ((r1, rs) = numEnd n2 most (l2, k2)) := by
          show _ = _
          rw [HCE.out, if_neg (fun h => hcs h.1)]
        clear hcz HCE HC2
        have HR2 := HR.out
        unfold numEnd at HR2
        rw [if_pos (show ((l2, k2) : St).2 ≠ 0 from hcs)] at HR2
        obtain ⟨rfl, rfl⟩ := Prod.mk.inj HR2
        have hb0 : (((k2 : Nat) : Int) == 0) = false := by simp; omega
        have hbn : (((k2 : Nat) : Int) != 0) = true := by simp; omega
        have hbd : decide (((k2 : Nat) : Int) = 0) = false := decide_eq_false (by omega)
        clear HR HR2
        go_upto_region 14 with fail
        go_region_law (fail)
        all_goals
          go_wp2_with fail
          refine st_ret (g := g2 + 1) rfl rfl rfl rfl ?_ ?_
          · show Bk _ _ _ #[.string (strN []), .int .i64 ((k2 : Nat) : Int)]; rw [he]; exact (st_set2 K5 _ _).drew
          · try rw [hg2]
            repeat' (first | exact HW.out | with_reducible refine Below.drew ?_ | with_reducible refine Below.setCell ?_ ?_ _ | (show g2 ≤ g2 + 1; omega))
end Go.Proofs.YtccgfjkahdbboaaDoor
