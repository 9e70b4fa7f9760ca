/-
  Texts in one: WfF, WfG, WfJ.
-/
import Derived.Test.YtfflgimbgmbpaaaDoorWfZ
import Derived.Laws.CopyOwn
namespace Go.Proofs.YtfflgimbgmbpaaaDoor
open Go.RowKit
set_option linter.unusedVariables false
set_option linter.unusedSimpArgs false
set_option maxRecDepth 100000 in
set_option maxHeartbeats 8000000 in
theorem rfnumber_any (s : St) (most : Nat) (w : World) (hI : StI s) (hmost : most < 18446744073709551616) :
    Calls Tryd.prog 115 #[stv s, .int .u64 (most : Int)] w fun e w' => e = .returned (.tuple #[.int .u64 ((rdCount s most).1 : Int), stv (rdCount s most).2]) ∧ Below w.heap.size w w' := by
  have he : (strN [] : ByteArray) = ⟨#[]⟩ := by decide +kernel
  have HT : Hid (∀ (t : St) (k : Nat), StI t → k ≤ 8 → ∀ W, Calls Tryd.prog 77 #[stv t, .int .i64 (k : Int)] W fun e w' => e = .returned (.tuple #[.string (strN (rdTake t k).1), stv (rdTake t k).2]) ∧ Below W.heap.size W w') := fun t k ht hk W => rftake_any t k W (by omega) ht.1 ht.2.1
  have HL : Hid (∀ (t : St) (k : Nat), StI t → k ≤ 8 → ∀ W, Calls Tryd.prog 78 #[.string (strN (rdTake t k).1)] W fun e w' => e = .returned (.int .u64 ((rdNum t k).1 : Int)) ∧ w' = W) := fun t k ht hk W => by
    have e : (rdNum t (k : Int)).1 = ofL ((rdTake t (k : Int)).1.take 8) := by unfold rdNum; rfl
    rw [e]
    exact rflow_any _ W (take_inv t k ht).2.1 (by have := take_len t k; omega)
  have HLT : Hid (∀ (t : St) (k : Nat), StI t → k ≤ 8 → (rdNum t k).1 < 256 ^ k ∧ StI (rdTake t k).2) := fun t k ht hk => ⟨num_lt t k hk ht, (take_inv t k ht).1⟩
  have HC : Hid (∀ (n : Nat) (W : World), n < 18446744073709551616 → Calls Tryd.prog 65 #[.int .u64 (n : Int)] W fun e w' => e = .returned (.string (strN (countL n))) ∧ Below W.heap.size W w') := fun n W h => rfcount_any n W h
  have HCZ : Hid (∀ n : Nat, (strN (countL n)).size = if n < 253 then 1 else if n < 65536 then 3 else if n < 4294967296 then 5 else 9) := fun n => by rw [strN_size, countL_len3]
  obtain ⟨⟨r1, rs⟩, hR⟩ : ∃ r : Nat × St, r = rdCount s most := ⟨_, rfl⟩
  rw [← hR]
  show Calls Tryd.prog _ _ w fun e w' => e = .returned (.tuple #[.int .u64 (r1 : Int), stv rs]) ∧ Below w.heap.size w w'
  have HR0 := Lib.hid hR
  have HII := Lib.hid hI
  have HT1 := Lib.hid (HT.out s 1 hI (by omega))
  have HL1 := Lib.hid (HL.out s 1 hI (by omega))
  have HX1 := Lib.hid (HLT.out s 1 hI (by omega))
  obtain ⟨b1, hb1⟩ : ∃ b1, b1 = strN (rdTake s ((1 : Nat) : Int)).1 := ⟨_, rfl⟩
  obtain ⟨⟨l1, k1⟩, hs1⟩ : ∃ s1 : St, s1 = (rdTake s ((1 : Nat) : Int)).2 := ⟨_, rfl⟩
  obtain ⟨n1, hn1⟩ : ∃ n1, n1 = (rdNum s ((1 : Nat) : Int)).1 := ⟨_, rfl⟩
  rw [← hb1, ← hs1] at HT1
  rw [← hb1, ← hn1] at HL1
  rw [← hn1, ← hs1] at HX1
  have HS1 := Lib.hid hs1
  have HN1 := Lib.hid hn1
  obtain ⟨l0, k0⟩ := s
  have HT1 : Hid (∀ W, Calls Tryd.prog 77 #[.agg #[.string (strN l0), .int .i64 ((k0 : Nat) : Int)], .int .i64 1] W fun e w' => e = .returned (.tuple #[.string b1, .agg #[.string (strN l1), .int .i64 ((k1 : Nat) : Int)]]) ∧ Below W.heap.size W w') := HT1
  show Calls Tryd.prog _ #[.agg #[.string (strN l0), .int .i64 ((k0 : Nat) : Int)], _] w _
  have hW : Below w.heap.size w ((w.alloc (.cells #[.string (strN l0), .int .i64 ((k0 : Nat) : Int)] 145)).alloc (.cells #[.string ⟨#[]⟩, .int .i64 0] 145)) := ((Below.refl _ _).alloc (Nat.le_refl _) _).alloc (by simp) _
  clear hI hR hb1 hs1 hn1
  go_enter Tryd.func115, Tryd.ntmps115
  go_upto_region 1 with fail
  refine wp_any (fun W => Below w.heap.size w W ∧ Bk W w.heap.size 145 #[.string (strN l0), .int .i64 ((k0 : Nat) : Int)] ∧ Bk W (w.heap.size + 1) 145 #[.string ⟨#[]⟩, .int .i64 0]) ⟨hW, (Bk.new _ _ _).alloc _, Bk.new' _ _ _ (by simp)⟩ ?_
  generalize hg2 : w.heap.size = g2 at *
  clear hW
  rintro W ⟨hW, K2, K5⟩
  have HW := Lib.hid hW
  have hsz := hW.size
  have hgW : g2 ≤ W.heap.size := Nat.le_of_lt K2.lt
  clear hW hsz
  have c0 := K2.cell 0
  have c1 := K2.cell 1
  have fz0 := K2.frozen 0
  have fz1 := K2.frozen 1
  have d0 := K5.cell 0
  have d1 := K5.cell 1
  have f0 := K5.frozen 0
  have f1 := K5.frozen 1
  have z2 := K2.lt
  have z5 := K5.lt
  go_wp2_with fail
  refine (HT1.out _).mono ?_
  rintro e w1 ⟨rfl, hb⟩
  clear c0 c1 fz0 fz1 d0 d1 f0 f1 z2 z5
  have K2 := K2.keep hb
  have K5 := K5.keep hb
  have HW := Lib.hid (HW.out.trans (hb.mono hgW))
  clear hb hgW HT1
  have c0 := K2.cell 0
  have c1 := K2.cell 1
  have fz0 := K2.frozen 0
  have fz1 := K2.frozen 1
  have d0 := K5.cell 0
  have d1 := K5.cell 1
  have f0 := K5.frozen 0
  have f1 := K5.frozen 1
  have z2 := K2.lt
  have z5 := K5.lt
  go_upto_region 2 with fail
  refine wp_any (fun V => Below g2 w V ∧ Bk V g2 145 #[.string (strN l1), .int .i64 ((k1 : Nat) : Int)] ∧ Bk V (g2 + 1) 145 #[.string ⟨#[]⟩, .int .i64 0]) ⟨(HW.out.setCell (Nat.le_refl _) _).setCell (Nat.le_refl _) _, st_set2 K2 _ _, (K5.far (by show g2 + 1 ≠ g2; omega) _).far (by show g2 + 1 ≠ g2; omega) _⟩ ?_
  clear c0 c1 fz0 fz1 d0 d1 f0 f1 z2 z5
  clear K2 K5 HW
  rintro V ⟨hW, K2, K5⟩
  have HW := Lib.hid hW
  clear hW
  have c0 := K2.cell 0
  have c1 := K2.cell 1
  have fz0 := K2.frozen 0
  have fz1 := K2.frozen 1
  have d0 := K5.cell 0
  have d1 := K5.cell 1
  have f0 := K5.frozen 0
  have f1 := K5.frozen 1
  have z2 := K2.lt
  have z5 := K5.lt
  go_wp2_with fail
  refine (HL1.out _).mono ?_
  rintro e w2 ⟨rfl, e2⟩
  subst w2
  clear HL1
  have hn256 : n1 < 256 := HX1.out.1
  by_cases h253 : n1 < 253
  · have hd3 : decide ((253 : Int) ≤ (n1 : Int)) = false := decide_eq_false (by omega)
    have hd3' : decide (253 ≤ n1) = false := decide_eq_false (by omega)
    have HR : Hid ((r1, rs) = numEnd n1 most (l1, k1)) := by
      have hcn : rdCnt (l0, k0) = ((n1, 0), (l1, k1)) := by
        have e1 : (rdNum (l0, k0) 1).1 = n1 := HN1.out.symm
        have e2 : (rdNum (l0, k0) 1).2 = (l1, k1) := HS1.out.symm
        unfold rdCnt
        rw [e1, e2, if_neg (by omega), if_neg (by omega), if_neg (by omega)]
      show _ = _
      rw [HR0.out, count_end _ most HII.out n1 (l1, k1) 0 hcn HX1.out.2, if_neg (by omega)]
    clear HT HL HLT HC HCZ
    by_cases hcs : k1 = 0
    · subst hcs
      have HR2 := HR.out
      unfold numEnd at HR2
      rw [if_neg (show ¬ ((l1, 0) : St).2 ≠ 0 by simp)] at HR2
      have hb0 : (((0 : Nat) : Int) == 0) = true := rfl
      have hbn : (((0 : Nat) : Int) != 0) = false := rfl
      by_cases hmn : most < n1
      · rw [if_pos hmn] at HR2
        obtain ⟨rfl, rfl⟩ := Prod.mk.inj HR2
        have hd9 : decide ((most : Int) < (n1 : Int)) = true := decide_eq_true (by omega)
        clear HR HR2
        go_wp2_with fail
        refine st_ret (g := g2 + 1) rfl rfl rfl rfl ?_ ?_
        · show Bk _ _ _ #[.string (strN []), .int .i64 ((2 : Nat) : Int)]; rw [he]; exact st_set2 K5 _ _
        · try rw [hg2]
          repeat' (first | exact HW.out | with_reducible refine Below.drew ?_ | with_reducible refine Below.setCell ?_ ?_ _ | (show g2 ≤ g2 + 1; omega))
      · rw [if_neg hmn] at HR2
        obtain ⟨rfl, rfl⟩ := Prod.mk.inj HR2
        have hd9 : decide ((most : Int) < (r1 : Int)) = false := decide_eq_false (by omega)
        clear HR HR2
        go_upto_region 17 with fail
        go_region_law (fail)
        all_goals
          go_wp2_with fail
          refine st_ret (g := g2 + 1) rfl rfl rfl rfl ?_ ?_
          · exact (st_set2 K5 _ _).drew
          · try rw [hg2]
            repeat' (first | exact HW.out | with_reducible refine Below.drew ?_ | with_reducible refine Below.setCell ?_ ?_ _ | (show g2 ≤ g2 + 1; omega))
    · have HR2 := HR.out
      unfold numEnd at HR2
      rw [if_pos (show ((l1, k1) : St).2 ≠ 0 from hcs)] at HR2
      obtain ⟨rfl, rfl⟩ := Prod.mk.inj HR2
      have hb0 : (((k1 : Nat) : Int) == 0) = false := by simp; omega
      have hbn : (((k1 : Nat) : Int) != 0) = true := by simp; omega
      have hbd : decide (((k1 : Nat) : Int) = 0) = false := decide_eq_false (by omega)
      clear HR HR2
      go_upto_region 14 with fail
      go_region_law (fail)
      all_goals
        go_wp2_with fail
        refine st_ret (g := g2 + 1) rfl rfl rfl rfl ?_ ?_
        · show Bk _ _ _ #[.string (strN []), .int .i64 ((k1 : Nat) : Int)]; rw [he]; exact (st_set2 K5 _ _).drew
        · try rw [hg2]
          repeat' (first | exact HW.out | with_reducible refine Below.drew ?_ | with_reducible refine Below.setCell ?_ ?_ _ | (show g2 ≤ g2 + 1; omega))
  · rcases (show n1 = 253 ∨ n1 = 254 ∨ n1 = 255 by omega) with hv | hv | hv
    · subst hv
      have HT2 := Lib.hid (HT.out (l1, k1) 2 HX1.out.2 (by omega))
      have HL2 := Lib.hid (HL.out (l1, k1) 2 HX1.out.2 (by omega))
      have HX2 := Lib.hid (HLT.out (l1, k1) 2 HX1.out.2 (by omega))
      obtain ⟨b2, hb2⟩ : ∃ b2, b2 = strN (rdTake (l1, k1) ((2 : Nat) : Int)).1 := ⟨_, rfl⟩
      obtain ⟨⟨l2, k2⟩, hs2⟩ : ∃ s2 : St, s2 = (rdTake (l1, k1) ((2 : Nat) : Int)).2 := ⟨_, rfl⟩
      obtain ⟨n2, hn2⟩ : ∃ n2, n2 = (rdNum (l1, k1) ((2 : Nat) : Int)).1 := ⟨_, rfl⟩
      rw [← hb2, ← hs2] at HT2
      rw [← hb2, ← hn2] at HL2
      rw [← hn2, ← hs2] at HX2
      have hcn : rdCnt (l0, k0) = ((n2, 253), (l2, k2)) := by
        have e1 : (rdNum (l0, k0) 1).1 = 253 := HN1.out.symm
        have e2 : (rdNum (l0, k0) 1).2 = (l1, k1) := HS1.out.symm
        have e3 : (rdNum (l1, k1) 2).1 = n2 := hn2.symm
        have e4 : (rdNum (l1, k1) 2).2 = (l2, k2) := hs2.symm
        unfold rdCnt
        rw [e1, e2, e3, e4]
        rfl
      have HCE := Lib.hid (HR0.out.trans (count_end _ most HII.out n2 (l2, k2) 253 hcn HX2.out.2))
      have HT2 : Hid (∀ W, Calls Tryd.prog 77 #[.agg #[.string (strN l1), .int .i64 ((k1 : Nat) : Int)], .int .i64 2] W fun e w' => e = .returned (.tuple #[.string b2, .agg #[.string (strN l2), .int .i64 ((k2 : Nat) : Int)]]) ∧ Below W.heap.size W w') := HT2
      have HC2 := Lib.hid (fun W => HC.out n2 W (Nat.lt_of_lt_of_le HX2.out.1 (by decide)))
      have hcz := HCZ.out n2
      have hx2 : n2 < 256 ^ 2 := HX2.out.1
      generalize hcs2 : strN (countL n2) = cs2 at *
      clear hb2 hs2 hn2 hcn HT HL HLT HC HCZ hcs2
      go_wp2_with fail
      refine (HT2.out _).mono ?_
      rintro e w3 ⟨rfl, hb⟩
      clear c0 c1 fz0 fz1 d0 d1 f0 f1 z2 z5
      have hgV : g2 ≤ V.heap.size := Nat.le_of_lt K2.lt
      have K2 := K2.keep hb
      have K5 := K5.keep hb
      have HW := Lib.hid (HW.out.trans (hb.mono hgV))
      clear hb hgV HT2
      have c0 := K2.cell 0
      have c1 := K2.cell 1
      have fz0 := K2.frozen 0
      have fz1 := K2.frozen 1
      have d0 := K5.cell 0
      have d1 := K5.cell 1
      have f0 := K5.frozen 0
      have f1 := K5.frozen 1
      have z2 := K2.lt
      have z5 := K5.lt
      go_upto_region 10 with fail
      refine wp_any (fun V => Below g2 w V ∧ Bk V g2 145 #[.string (strN l2), .int .i64 ((k2 : Nat) : Int)] ∧ Bk V (g2 + 1) 145 #[.string ⟨#[]⟩, .int .i64 0]) ⟨(HW.out.setCell (Nat.le_refl _) _).setCell (Nat.le_refl _) _, st_set2 K2 _ _, (K5.far (by show g2 + 1 ≠ g2; omega) _).far (by show g2 + 1 ≠ g2; omega) _⟩ ?_
      clear c0 c1 fz0 fz1 d0 d1 f0 f1 z2 z5
      clear K2 K5 HW
      rintro V ⟨hW, K2, K5⟩
      have HW := Lib.hid hW
      clear hW
      have c0 := K2.cell 0
      have c1 := K2.cell 1
      have fz0 := K2.frozen 0
      have fz1 := K2.frozen 1
      have d0 := K5.cell 0
      have d1 := K5.cell 1
      have f0 := K5.frozen 0
      have f1 := K5.frozen 1
      have z2 := K2.lt
      have z5 := K5.lt
      go_wp2_with fail
      refine (HL2.out _).mono ?_
      rintro e w4 ⟨rfl, e4⟩
      subst w4
      clear HL2
      by_cases hcs : k2 = 0
      · subst hcs
        have hb00 : (((0 : Nat) : Int) == 0) = true := rfl
        go_wp2_with fail
        refine (HC2.out _).mono ?_
        rintro e w5 ⟨rfl, hb⟩
        clear c0 c1 fz0 fz1 d0 d1 f0 f1 z2 z5
        have hgV : g2 ≤ V.heap.size := Nat.le_of_lt K2.lt
        have K2 := K2.keep hb
        have K5 := K5.keep hb
        have HW := Lib.hid (HW.out.trans (hb.mono hgV))
        clear hb hgV HC2
        have c0 := K2.cell 0
        have c1 := K2.cell 1
        have fz0 := K2.frozen 0
        have fz1 := K2.frozen 1
        have d0 := K5.cell 0
        have d1 := K5.cell 1
        have f0 := K5.frozen 0
        have f1 := K5.frozen 1
        have z2 := K2.lt
        have z5 := K5.lt
        by_cases hlo : n2 < 253
        · have e := HCE.out
          rw [if_pos (by first | exact ⟨rfl, hlo⟩ | exact ⟨trivial, hlo⟩)] at e
          obtain ⟨rfl, rfl⟩ := Prod.mk.inj e
          have hbq : (((cs2.size : Nat) : Int) != 3) = true := by
            rw [hcz]
            split <;> (try split) <;> (try split) <;> first | rfl | omega
          clear hcz e HCE
          go_wp2_with fail
          refine st_ret (g := g2 + 1) rfl rfl rfl rfl ?_ ?_
          · show Bk _ _ _ #[.string (strN []), .int .i64 ((70 : Nat) : Int)]; rw [he]; exact st_set2 K5 _ _
          · try rw [hg2]
            repeat' (first | exact HW.out | with_reducible refine Below.drew ?_ | with_reducible refine Below.setCell ?_ ?_ _ | (show g2 ≤ g2 + 1; omega))
        · have hbq : (((cs2.size : Nat) : Int) != 3) = false := by
            rw [hcz]
            split <;> (try split) <;> (try split) <;> first | rfl | omega
          have HR : Hid ((r1, rs) = numEnd n2 most (l2, 0)) := by
            show _ = _
            rw [HCE.out, if_neg (fun h => hlo h.2)]
          clear hcz HCE hlo
          have HR2 := HR.out
          unfold numEnd at HR2
          rw [if_neg (show ¬ ((l2, 0) : St).2 ≠ 0 by simp)] at HR2
          have hb0 : (((0 : Nat) : Int) == 0) = true := rfl
          have hbn : (((0 : Nat) : Int) != 0) = false := rfl
          by_cases hmn : most < n2
          · rw [if_pos hmn] at HR2
            obtain ⟨rfl, rfl⟩ := Prod.mk.inj HR2
            have hd9 : decide ((most : Int) < (n2 : Int)) = true := decide_eq_true (by omega)
            clear HR HR2
            go_wp2_with fail
            refine st_ret (g := g2 + 1) rfl rfl rfl rfl ?_ ?_
            · show Bk _ _ _ #[.string (strN []), .int .i64 ((2 : Nat) : Int)]; rw [he]; exact st_set2 K5 _ _
            · try rw [hg2]
              repeat' (first | exact HW.out | with_reducible refine Below.drew ?_ | with_reducible refine Below.setCell ?_ ?_ _ | (show g2 ≤ g2 + 1; omega))
          · rw [if_neg hmn] at HR2
            obtain ⟨rfl, rfl⟩ := Prod.mk.inj HR2
            have hd9 : decide ((most : Int) < (r1 : Int)) = false := decide_eq_false (by omega)
            clear HR HR2
            go_upto_region 17 with fail
            go_region_law (fail)
            all_goals
              go_wp2_with fail
              refine st_ret (g := g2 + 1) rfl rfl rfl rfl ?_ ?_
              · exact (st_set2 K5 _ _).drew
              · try rw [hg2]
                repeat' (first | exact HW.out | with_reducible refine Below.drew ?_ | with_reducible refine Below.setCell ?_ ?_ _ | (show g2 ≤ g2 + 1; omega))
      · have hb00 : (((k2 : Nat) : Int) == 0) = false := by simp; omega
        have hb01 : decide (((k2 : Nat) : Int) = 0) = false := decide_eq_false (by omega)
        have HR : Hid ((r1, rs) = numEnd n2 most (l2, k2)) := by
          show _ = _
          rw [HCE.out, if_neg (fun h => hcs h.1)]
        clear hcz HCE HC2
        have HR2 := HR.out
        unfold numEnd at HR2
        rw [if_pos (show ((l2, k2) : St).2 ≠ 0 from hcs)] at HR2
        obtain ⟨rfl, rfl⟩ := Prod.mk.inj HR2
        have hb0 : (((k2 : Nat) : Int) == 0) = false := by simp; omega
        have hbn : (((k2 : Nat) : Int) != 0) = true := by simp; omega
        have hbd : decide (((k2 : Nat) : Int) = 0) = false := decide_eq_false (by omega)
        clear HR HR2
        go_upto_region 14 with fail
        go_region_law (fail)
        all_goals
          go_wp2_with fail
          refine st_ret (g := g2 + 1) rfl rfl rfl rfl ?_ ?_
          · show Bk _ _ _ #[.string (strN []), .int .i64 ((k2 : Nat) : Int)]; rw [he]; exact (st_set2 K5 _ _).drew
          · try rw [hg2]
            repeat' (first | exact HW.out | with_reducible refine Below.drew ?_ | with_reducible refine Below.setCell ?_ ?_ _ | (show g2 ≤ g2 + 1; omega))
    · subst hv
      have HT2 := Lib.hid (HT.out (l1, k1) 4 HX1.out.2 (by omega))
      have HL2 := Lib.hid (HL.out (l1, k1) 4 HX1.out.2 (by omega))
      have HX2 := Lib.hid (HLT.out (l1, k1) 4 HX1.out.2 (by omega))
      obtain ⟨b2, hb2⟩ : ∃ b2, b2 = strN (rdTake (l1, k1) ((4 : Nat) : Int)).1 := ⟨_, rfl⟩
      obtain ⟨⟨l2, k2⟩, hs2⟩ : ∃ s2 : St, s2 = (rdTake (l1, k1) ((4 : Nat) : Int)).2 := ⟨_, rfl⟩
      obtain ⟨n2, hn2⟩ : ∃ n2, n2 = (rdNum (l1, k1) ((4 : Nat) : Int)).1 := ⟨_, rfl⟩
      rw [← hb2, ← hs2] at HT2
      rw [← hb2, ← hn2] at HL2
      rw [← hn2, ← hs2] at HX2
      have hcn : rdCnt (l0, k0) = ((n2, 65536), (l2, k2)) := by
        have e1 : (rdNum (l0, k0) 1).1 = 254 := HN1.out.symm
        have e2 : (rdNum (l0, k0) 1).2 = (l1, k1) := HS1.out.symm
        have e3 : (rdNum (l1, k1) 4).1 = n2 := hn2.symm
        have e4 : (rdNum (l1, k1) 4).2 = (l2, k2) := hs2.symm
        unfold rdCnt
        rw [e1, e2, e3, e4]
        rfl
      have HCE := Lib.hid (HR0.out.trans (count_end _ most HII.out n2 (l2, k2) 65536 hcn HX2.out.2))
      have HT2 : Hid (∀ W, Calls Tryd.prog 77 #[.agg #[.string (strN l1), .int .i64 ((k1 : Nat) : Int)], .int .i64 4] W fun e w' => e = .returned (.tuple #[.string b2, .agg #[.string (strN l2), .int .i64 ((k2 : Nat) : Int)]]) ∧ Below W.heap.size W w') := HT2
      have HC2 := Lib.hid (fun W => HC.out n2 W (Nat.lt_of_lt_of_le HX2.out.1 (by decide)))
      have hcz := HCZ.out n2
      have hx2 : n2 < 256 ^ 4 := HX2.out.1
      generalize hcs2 : strN (countL n2) = cs2 at *
      clear hb2 hs2 hn2 hcn HT HL HLT HC HCZ hcs2
      go_wp2_with fail
      refine (HT2.out _).mono ?_
      rintro e w3 ⟨rfl, hb⟩
      clear c0 c1 fz0 fz1 d0 d1 f0 f1 z2 z5
      have hgV : g2 ≤ V.heap.size := Nat.le_of_lt K2.lt
      have K2 := K2.keep hb
      have K5 := K5.keep hb
      have HW := Lib.hid (HW.out.trans (hb.mono hgV))
      clear hb hgV HT2
      have c0 := K2.cell 0
      have c1 := K2.cell 1
      have fz0 := K2.frozen 0
      have fz1 := K2.frozen 1
      have d0 := K5.cell 0
      have d1 := K5.cell 1
      have f0 := K5.frozen 0
      have f1 := K5.frozen 1
      have z2 := K2.lt
      have z5 := K5.lt
      go_upto_region 10 with fail
      refine wp_any (fun V => Below g2 w V ∧ Bk V g2 145 #[.string (strN l2), .int .i64 ((k2 : Nat) : Int)] ∧ Bk V (g2 + 1) 145 #[.string ⟨#[]⟩, .int .i64 0]) ⟨(HW.out.setCell (Nat.le_refl _) _).setCell (Nat.le_refl _) _, st_set2 K2 _ _, (K5.far (by show g2 + 1 ≠ g2; omega) _).far (by show g2 + 1 ≠ g2; omega) _⟩ ?_
      clear c0 c1 fz0 fz1 d0 d1 f0 f1 z2 z5
      clear K2 K5 HW
      rintro V ⟨hW, K2, K5⟩
      have HW := Lib.hid hW
      clear hW
      have c0 := K2.cell 0
      have c1 := K2.cell 1
      have fz0 := K2.frozen 0
      have fz1 := K2.frozen 1
      have d0 := K5.cell 0
      have d1 := K5.cell 1
      have f0 := K5.frozen 0
      have f1 := K5.frozen 1
      have z2 := K2.lt
      have z5 := K5.lt
      go_wp2_with fail
      refine (HL2.out _).mono ?_
      rintro e w4 ⟨rfl, e4⟩
      subst w4
      clear HL2
      by_cases hcs : k2 = 0
      · subst hcs
        have hb00 : (((0 : Nat) : Int) == 0) = true := rfl
        go_wp2_with fail
        refine (HC2.out _).mono ?_
        rintro e w5 ⟨rfl, hb⟩
        clear c0 c1 fz0 fz1 d0 d1 f0 f1 z2 z5
        have hgV : g2 ≤ V.heap.size := Nat.le_of_lt K2.lt
        have K2 := K2.keep hb
        have K5 := K5.keep hb
        have HW := Lib.hid (HW.out.trans (hb.mono hgV))
        clear hb hgV HC2
        have c0 := K2.cell 0
        have c1 := K2.cell 1
        have fz0 := K2.frozen 0
        have fz1 := K2.frozen 1
        have d0 := K5.cell 0
        have d1 := K5.cell 1
        have f0 := K5.frozen 0
        have f1 := K5.frozen 1
        have z2 := K2.lt
        have z5 := K5.lt
        by_cases hlo : n2 < 65536
        · have e := HCE.out
          rw [if_pos (by first | exact ⟨rfl, hlo⟩ | exact ⟨trivial, hlo⟩)] at e
          obtain ⟨rfl, rfl⟩ := Prod.mk.inj e
          have hbq : (((cs2.size : Nat) : Int) != 5) = true := by
            rw [hcz]
            split <;> (try split) <;> (try split) <;> first | rfl | omega
          clear hcz e HCE
          go_wp2_with fail
          refine st_ret (g := g2 + 1) rfl rfl rfl rfl ?_ ?_
          · show Bk _ _ _ #[.string (strN []), .int .i64 ((70 : Nat) : Int)]; rw [he]; exact st_set2 K5 _ _
          · try rw [hg2]
            repeat' (first | exact HW.out | with_reducible refine Below.drew ?_ | with_reducible refine Below.setCell ?_ ?_ _ | (show g2 ≤ g2 + 1; omega))
        · have hbq : (((cs2.size : Nat) : Int) != 5) = false := by
            rw [hcz]
            split <;> (try split) <;> (try split) <;> first | rfl | omega
          have HR : Hid ((r1, rs) = numEnd n2 most (l2, 0)) := by
            show _ = _
            rw [HCE.out, if_neg (fun h => hlo h.2)]
          clear hcz HCE hlo
          have HR2 := HR.out
          unfold numEnd at HR2
          rw [if_neg (show ¬ ((l2, 0) : St).2 ≠ 0 by simp)] at HR2
          have hb0 : (((0 : Nat) : Int) == 0) = true := rfl
          have hbn : (((0 : Nat) : Int) != 0) = false := rfl
          by_cases hmn : most < n2
          · rw [if_pos hmn] at HR2
            obtain ⟨rfl, rfl⟩ := Prod.mk.inj HR2
            have hd9 : decide ((most : Int) < (n2 : Int)) = true := decide_eq_true (by omega)
            clear HR HR2
            go_wp2_with fail
            refine st_ret (g := g2 + 1) rfl rfl rfl rfl ?_ ?_
            · show Bk _ _ _ #[.string (strN []), .int .i64 ((2 : Nat) : Int)]; rw [he]; exact st_set2 K5 _ _
            · try rw [hg2]
              repeat' (first | exact HW.out | with_reducible refine Below.drew ?_ | with_reducible refine Below.setCell ?_ ?_ _ | (show g2 ≤ g2 + 1; omega))
          · rw [if_neg hmn] at HR2
            obtain ⟨rfl, rfl⟩ := Prod.mk.inj HR2
            have hd9 : decide ((most : Int) < (r1 : Int)) = false := decide_eq_false (by omega)
            clear HR HR2
            go_upto_region 17 with fail
            go_region_law (fail)
            all_goals
              go_wp2_with fail
              refine st_ret (g := g2 + 1) rfl rfl rfl rfl ?_ ?_
              · exact (st_set2 K5 _ _).drew
              · try rw [hg2]
                repeat' (first | exact HW.out | with_reducible refine Below.drew ?_ | with_reducible refine Below.setCell ?_ ?_ _ | (show g2 ≤ g2 + 1; omega))
      · have hb00 : (((k2 : Nat) : Int) == 0) = false := by simp; omega
        have hb01 : decide (((k2 : Nat) : Int) = 0) = false := decide_eq_false (by omega)
        have HR : Hid ((r1, rs) = numEnd n2 most (l2, k2)) := by
          show _ = _
          rw [HCE.out, if_neg (fun h => hcs h.1)]
        clear hcz HCE HC2
        have HR2 := HR.out
        unfold numEnd at HR2
        rw [if_pos (show ((l2, k2) : St).2 ≠ 0 from hcs)] at HR2
        obtain ⟨rfl, rfl⟩ := Prod.mk.inj HR2
        have hb0 : (((k2 : Nat) : Int) == 0) = false := by simp; omega
        have hbn : (((k2 : Nat) : Int) != 0) = true := by simp; omega
        have hbd : decide (((k2 : Nat) : Int) = 0) = false := decide_eq_false (by omega)
        clear HR HR2
        go_upto_region 14 with fail
        go_region_law (fail)
        all_goals
          go_wp2_with fail
          refine st_ret (g := g2 + 1) rfl rfl rfl rfl ?_ ?_
          · show Bk _ _ _ #[.string (strN []), .int .i64 ((k2 : Nat) : Int)]; rw [he]; exact (st_set2 K5 _ _).drew
          · try rw [hg2]
            repeat' (first | exact HW.out | with_reducible refine Below.drew ?_ | with_reducible refine Below.setCell ?_ ?_ _ | (show g2 ≤ g2 + 1; omega))
    · subst hv
      have HT2 := Lib.hid (HT.out (l1, k1) 8 HX1.out.2 (by omega))
      have HL2 := Lib.hid (HL.out (l1, k1) 8 HX1.out.2 (by omega))
      have HX2 := Lib.hid (HLT.out (l1, k1) 8 HX1.out.2 (by omega))
      obtain ⟨b2, hb2⟩ : ∃ b2, b2 = strN (rdTake (l1, k1) ((8 : Nat) : Int)).1 := ⟨_, rfl⟩
      obtain ⟨⟨l2, k2⟩, hs2⟩ : ∃ s2 : St, s2 = (rdTake (l1, k1) ((8 : Nat) : Int)).2 := ⟨_, rfl⟩
      obtain ⟨n2, hn2⟩ : ∃ n2, n2 = (rdNum (l1, k1) ((8 : Nat) : Int)).1 := ⟨_, rfl⟩
      rw [← hb2, ← hs2] at HT2
      rw [← hb2, ← hn2] at HL2
      rw [← hn2, ← hs2] at HX2
      have hcn : rdCnt (l0, k0) = ((n2, 4294967296), (l2, k2)) := by
        have e1 : (rdNum (l0, k0) 1).1 = 255 := HN1.out.symm
        have e2 : (rdNum (l0, k0) 1).2 = (l1, k1) := HS1.out.symm
        have e3 : (rdNum (l1, k1) 8).1 = n2 := hn2.symm
        have e4 : (rdNum (l1, k1) 8).2 = (l2, k2) := hs2.symm
        unfold rdCnt
        rw [e1, e2, e3, e4]
        rfl
      have HCE := Lib.hid (HR0.out.trans (count_end _ most HII.out n2 (l2, k2) 4294967296 hcn HX2.out.2))
      have HT2 : Hid (∀ W, Calls Tryd.prog 77 #[.agg #[.string (strN l1), .int .i64 ((k1 : Nat) : Int)], .int .i64 8] W fun e w' => e = .returned (.tuple #[.string b2, .agg #[.string (strN l2), .int .i64 ((k2 : Nat) : Int)]]) ∧ Below W.heap.size W w') := HT2
      have HC2 := Lib.hid (fun W => HC.out n2 W (Nat.lt_of_lt_of_le HX2.out.1 (by decide)))
      have hcz := HCZ.out n2
      have hx2 : n2 < 256 ^ 8 := HX2.out.1
      generalize hcs2 : strN (countL n2) = cs2 at *
      clear hb2 hs2 hn2 hcn HT HL HLT HC HCZ hcs2
      go_wp2_with fail
      refine (HT2.out _).mono ?_
      rintro e w3 ⟨rfl, hb⟩
      clear c0 c1 fz0 fz1 d0 d1 f0 f1 z2 z5
      have hgV : g2 ≤ V.heap.size := Nat.le_of_lt K2.lt
      have K2 := K2.keep hb
      have K5 := K5.keep hb
      have HW := Lib.hid (HW.out.trans (hb.mono hgV))
      clear hb hgV HT2
      have c0 := K2.cell 0
      have c1 := K2.cell 1
      have fz0 := K2.frozen 0
      have fz1 := K2.frozen 1
      have d0 := K5.cell 0
      have d1 := K5.cell 1
      have f0 := K5.frozen 0
      have f1 := K5.frozen 1
      have z2 := K2.lt
      have z5 := K5.lt
      go_upto_region 10 with fail
      refine wp_any (fun V => Below g2 w V ∧ Bk V g2 145 #[.string (strN l2), .int .i64 ((k2 : Nat) : Int)] ∧ Bk V (g2 + 1) 145 #[.string ⟨#[]⟩, .int .i64 0]) ⟨(HW.out.setCell (Nat.le_refl _) _).setCell (Nat.le_refl _) _, st_set2 K2 _ _, (K5.far (by show g2 + 1 ≠ g2; omega) _).far (by show g2 + 1 ≠ g2; omega) _⟩ ?_
      clear c0 c1 fz0 fz1 d0 d1 f0 f1 z2 z5
      clear K2 K5 HW
      rintro V ⟨hW, K2, K5⟩
      have HW := Lib.hid hW
      clear hW
      have c0 := K2.cell 0
      have c1 := K2.cell 1
      have fz0 := K2.frozen 0
      have fz1 := K2.frozen 1
      have d0 := K5.cell 0
      have d1 := K5.cell 1
      have f0 := K5.frozen 0
      have f1 := K5.frozen 1
      have z2 := K2.lt
      have z5 := K5.lt
      go_wp2_with fail
      refine (HL2.out _).mono ?_
      rintro e w4 ⟨rfl, e4⟩
      subst w4
      clear HL2
      by_cases hcs : k2 = 0
      · subst hcs
        have hb00 : (((0 : Nat) : Int) == 0) = true := rfl
        go_wp2_with fail
        refine (HC2.out _).mono ?_
        rintro e w5 ⟨rfl, hb⟩
        clear c0 c1 fz0 fz1 d0 d1 f0 f1 z2 z5
        have hgV : g2 ≤ V.heap.size := Nat.le_of_lt K2.lt
        have K2 := K2.keep hb
        have K5 := K5.keep hb
        have HW := Lib.hid (HW.out.trans (hb.mono hgV))
        clear hb hgV HC2
        have c0 := K2.cell 0
        have c1 := K2.cell 1
        have fz0 := K2.frozen 0
        have fz1 := K2.frozen 1
        have d0 := K5.cell 0
        have d1 := K5.cell 1
        have f0 := K5.frozen 0
        have f1 := K5.frozen 1
        have z2 := K2.lt
        have z5 := K5.lt
        by_cases hlo : n2 < 4294967296
        · have e := HCE.out
          rw [if_pos (by first | exact ⟨rfl, hlo⟩ | exact ⟨trivial, hlo⟩)] at e
          obtain ⟨rfl, rfl⟩ := Prod.mk.inj e
          have hbq : (((cs2.size : Nat) : Int) != 9) = true := by
            rw [hcz]
            split <;> (try split) <;> (try split) <;> first | rfl | omega
          clear hcz e HCE
          go_wp2_with fail
          refine st_ret (g := g2 + 1) rfl rfl rfl rfl ?_ ?_
          · show Bk _ _ _ #[.string (strN []), .int .i64 ((70 : Nat) : Int)]; rw [he]; exact st_set2 K5 _ _
          · try rw [hg2]
            repeat' (first | exact HW.out | with_reducible refine Below.drew ?_ | with_reducible refine Below.setCell ?_ ?_ _ | (show g2 ≤ g2 + 1; omega))
        · have hbq : (((cs2.size : Nat) : Int) != 9) = false := by
            rw [hcz]
            split <;> (try split) <;> (try split) <;> first | rfl | omega
          have HR : Hid ((r1, rs) = numEnd n2 most (l2, 0)) := by
            show _ = _
            rw [HCE.out, if_neg (fun h => hlo h.2)]
          clear hcz HCE hlo
          have HR2 := HR.out
          unfold numEnd at HR2
          rw [if_neg (show ¬ ((l2, 0) : St).2 ≠ 0 by simp)] at HR2
          have hb0 : (((0 : Nat) : Int) == 0) = true := rfl
          have hbn : (((0 : Nat) : Int) != 0) = false := rfl
          by_cases hmn : most < n2
          · rw [if_pos hmn] at HR2
            obtain ⟨rfl, rfl⟩ := Prod.mk.inj HR2
            have hd9 : decide ((most : Int) < (n2 : Int)) = true := decide_eq_true (by omega)
            clear HR HR2
            go_wp2_with fail
            refine st_ret (g := g2 + 1) rfl rfl rfl rfl ?_ ?_
            · show Bk _ _ _ #[.string (strN []), .int .i64 ((2 : Nat) : Int)]; rw [he]; exact st_set2 K5 _ _
            · try rw [hg2]
              repeat' (first | exact HW.out | with_reducible refine Below.drew ?_ | with_reducible refine Below.setCell ?_ ?_ _ | (show g2 ≤ g2 + 1; omega))
          · rw [if_neg hmn] at HR2
            obtain ⟨rfl, rfl⟩ := Prod.mk.inj HR2
            have hd9 : decide ((most : Int) < (r1 : Int)) = false := decide_eq_false (by omega)
            clear HR HR2
            go_upto_region 17 with fail
            go_region_law (fail)
            all_goals
              go_wp2_with fail
              refine st_ret (g := g2 + 1) rfl rfl rfl rfl ?_ ?_
              · exact (st_set2 K5 _ _).drew
              · try rw [hg2]
                repeat' (first | exact HW.out | with_reducible refine Below.drew ?_ | with_reducible refine Below.setCell ?_ ?_ _ | (show g2 ≤ g2 + 1; omega))
      · have hb00 : (((k2 : Nat) : Int) == 0) = false := by simp; omega
        have hb01 : decide (((k2 : Nat) : Int) = 0) = false := decide_eq_false (by omega)
        have HR : Hid ((r1, rs) = numEnd n2 most (l2, k2)) := by
          show _ = _
          rw [HCE.out, if_neg (fun h => hcs h.1)]
        clear hcz HCE HC2
        have HR2 := HR.out
        unfold numEnd at HR2
        rw [if_pos (show ((l2, k2) : St).2 ≠ 0 from hcs)] at HR2
        obtain ⟨rfl, rfl⟩ := Prod.mk.inj HR2
        have hb0 : (((k2 : Nat) : Int) == 0) = false := by simp; omega
        have hbn : (((k2 : Nat) : Int) != 0) = true := by simp; omega
        have hbd : decide (((k2 : Nat) : Int) = 0) = false := decide_eq_false (by omega)
        clear HR HR2
        go_upto_region 14 with fail
        go_region_law (fail)
        all_goals
          go_wp2_with fail
          refine st_ret (g := g2 + 1) rfl rfl rfl rfl ?_ ?_
          · show Bk _ _ _ #[.string (strN []), .int .i64 ((k2 : Nat) : Int)]; rw [he]; exact (st_set2 K5 _ _).drew
          · try rw [hg2]
            repeat' (first | exact HW.out | with_reducible refine Below.drew ?_ | with_reducible refine Below.setCell ?_ ?_ _ | (show g2 ≤ g2 + 1; omega))
end Go.Proofs.YtfflgimbgmbpaaaDoor
namespace Go.Proofs.YtfflgimbgmbpaaaDoor
open Go.RowKit
set_option linter.unusedVariables false
set_option linter.unusedSimpArgs false

theorem id_infoW : (Tryd.prog.info? 24).map (·.size) = some 32 := by kernel_rfl
theorem rd_far {w5 w6 : World} {p g3 : Nat} {v5 : Value} {s : St} (h : RdS w5 p v5 s) (hb : Below g3 w5 w6) (hp : p < g3) (hk : s.1 ≠ [] → ∀ k, slb v5 k → k < g3) : RdS w6 p v5 s := by
  obtain ⟨h1, ⟨a, cap, rfl, g1, g2, g3', g4⟩, h3⟩ := h
  refine ⟨Bk.below h1 hb hp, ⟨a, cap, rfl, g1, g2, g3', fun hne => ?_⟩, h3⟩
  obtain ⟨b, o, e, hlt, hn, hc⟩ := g4 hne
  subst e
  have hbg := hk hne b ⟨_, _, _, rfl, rfl⟩
  exact ⟨b, o, rfl, Nat.lt_of_lt_of_le hlt hb.size, hn, fun i hi => (hb.cell (p := ⟨b, o + i, none⟩) hbg).trans (hc i hi)⟩
theorem slb_lt {w : World} {p : Nat} {v : Value} {s : St} (h : RdS w p v s) (hne : s.1 ≠ []) : ∀ k, slb v k → k < w.heap.size := by
  obtain ⟨h1, ⟨a, cap, rfl, g1, g2, g3, g4⟩, h3⟩ := h
  obtain ⟨b, o, e, hlt, hn, hc⟩ := g4 hne
  subst e
  rintro k ⟨a', n', c', e', hk⟩
  cases e'
  rw [← hk]
  exact hlt
theorem rest_ne (s : St) (n : Int) (h : (rdTake s n).2.1 ≠ []) : s.1 ≠ [] := by
  intro e
  apply h
  unfold rdTake
  split
  · simp [e]
  · rfl
/-- The name that is read: the bytes, or noughts. -/
def idOf (ys : List Nat) : List Nat := ys ++ zeros (32 - ys.length)
theorem idOf_length (ys : List Nat) (h : ys.length ≤ 32) : (idOf ys).length = 32 := by unfold idOf; rw [List.length_append, zeros_length]; omega
theorem splice_id (ys : List Nat) (h : ys.length ≤ 32) : (splice (idA (zeros 32)).toList 0 (List.map byteV ys)).toArray = idA (idOf ys) := by
  unfold splice idA idOf zeros
  simp only [List.take_zero, List.nil_append, List.length_map, Nat.zero_add, List.map_append, List.map_replicate, List.drop_replicate]
set_option maxRecDepth 100000 in
set_option maxHeartbeats 4000000 in
theorem rid_any (p : Nat) (v : Value) (s : St) (w : World) (hR : RdS w p v s) (hok : StOk s) :
    Calls Tryd.prog 113 #[.pointer (some ⟨p, 0, none⟩)] w fun r w' => r = .returned (idv (idOf (rdTake s 32).1)) ∧ ∃ v', Took p v (rdTake s 32).2 w w' v' := by
  have hpw : p < w.heap.size := hR.1.lt
  have HSL := Lib.hid (fun h => slb_lt hR (rest_ne s 32 h))
  have HT : Hid (∀ W, Below w.heap.size w W → Calls Tryd.prog 99 #[.pointer (some ⟨p, 0, none⟩), .int .i64 32] W fun r w' => ∃ u, r = .returned u ∧ BsN w' (fun k => k = p) u (rdTake s 32).1 ∧ ∃ v', Took p v (rdTake s 32).2 W w' v') := fun W h => take_any p 32 v s W (hR.keep h) hok
  have HLN : Hid ((rdTake s 32).1.length ≤ 32) := take_len s 32
  have HB : Hid (∀ x ∈ (rdTake s 32).1, x < 256) := rdTake_lt hR 32
  generalize (rdTake s 32).1 = ys at *
  generalize (rdTake s 32).2 = t at *
  clear hR
  go_enter Tryd.func113, Tryd.ntmps113
  go_upto_region 2 with fail
  refine wp_any (fun W => Below w.heap.size w W ∧ Bk W w.heap.size 24 (idA (zeros 32)) ∧ Bk W (w.heap.size + 1) 24 (idA (zeros 32))) ⟨((Below.refl _ _).alloc (Nat.le_refl _) _).alloc (by simp) _, (Bk.new _ _ _).alloc _, Bk.new' _ _ _ (by simp)⟩ ?_
  rintro W ⟨hW, K2, K3⟩
  have HT1 := Lib.hid (HT.out W.drew hW.drew)
  have HW := Lib.hid hW
  have hn2 : ¬ w.heap.size = p := by omega
  have hn3 : ¬ w.heap.size + 1 = p := by omega
  have hgW := K3.lt
  have hi5 : (Tryd.prog.info? 5).map (·.size) = some 1 := by kernel_rfl
  have hzl : (idA (zeros 32)).toList.length = 32 := by rw [Array.length_toList, idA_size]; rfl
  obtain ⟨g2, hg2⟩ : ∃ g2, g2 = w.heap.size := ⟨_, rfl⟩
  obtain ⟨g3, hg3⟩ : ∃ g3, g3 = w.heap.size + 1 := ⟨_, rfl⟩
  have HGG := Lib.hid (show g2 = w.heap.size ∧ g3 = w.heap.size + 1 from ⟨hg2, hg3⟩)
  rw [← hg3] at K3 hn3 hgW ⊢
  rw [← hg2] at K2 hn2 ⊢
  clear hg2 hg3 hW HT
  go_region_law (first
    | (go_simp
       go_at_call 99
       with_reducible refine HT1.out.mono ?_
       rintro r w5 ⟨u, rfl, HU, v5, T5⟩
       obtain ⟨su, cu, rfl, hcu1, hcu2, hu3, hu4⟩ := HU
       have K2b := T5.2.1.keep K2.drew hn2
       have K3b := T5.2.1.keep K3.drew hn3)
    | (refine step_copy_splice rfl (.tmp 4) (.tmp 6) 40 40 rfl 5 Tryd.underlying40 hi5 (some ⟨g3, 0, none⟩) su 32 32 ys.length cu rfl rfl g3 0 (idA (zeros 32)).toList 24 K3b (ys.map byteV) (by rw [List.length_map]; exact (Nat.min_eq_left HLN.out).symm) (fun h => by
         obtain ⟨b, o, e, hlt, hnb, hc⟩ := hu4 (fun h0 => by rw [h0] at h; simp at h)
         refine ⟨rfl, ⟨b, o, none⟩, e, fun j v hj => ?_⟩
         obtain ⟨hjl, hjv⟩ := List.getElem?_eq_some_iff.1 hj
         rw [List.length_map] at hjl
         rw [Go.WideShapes.add_plain, hc j hjl, ← hjv, List.getElem_map]
         unfold nth byteV
         rw [List.getD, List.getElem?_eq_getElem hjl]
         rfl) (by rw [List.length_map, hzl, Nat.zero_add]; exact HLN.out) (fun v hv => by obtain ⟨x, _, rfl⟩ := List.mem_map.1 hv; rfl) g3 _ (Below.refl g3 _) (Nat.le_refl _) ?_
       intro w6 HG6 HB6))
  obtain ⟨hgg2, hgg3⟩ := HGG.out
  have hspl : (splice (idA (zeros 32)).toList 0 (List.map byteV ys)).toArray = idA (idOf ys) := splice_id ys HLN.out
  have R3 : Bk w6 g3 24 (idA (idOf ys)) := by show _ = _; rw [HG6.out, hspl]
  have R2 : Bk w6 g2 24 (idA (zeros 32)) := Bk.below K2b HB6 (by omega)
  have HIL := Lib.hid (idOf_length ys HLN.out)
  clear HG6 hspl
  generalize hQ : idOf ys = Q at *
  have HTK : Hid (∀ w7, Below g2 w5 w7 → ∃ v', Took p v t w w7 v') := fun w7 h7 => ⟨v5, rd_far T5.1 h7 (by omega) (fun hne k hk => by rw [hgg2]; exact HSL.out hne k (T5.2.2 k hk)), ((But.of HW.out.drew).trans T5.2.1 (fun _ _ h => h)).trans (S' := fun i => g2 ≤ i) ⟨h7.os, h7.tape, h7.output, h7.size, fun k hk hn => h7.block k (by omega)⟩ (fun i hi h => by omega), T5.2.2⟩
  have hgl : g2 ≤ g3 := by omega
  clear hgg2 hgg3
  go_wp2_with (first | (refine wpList_load_row rfl 24 (.tmp 3) rfl g3 rfl 24 (idA Q) (0, 0) _ R3 Tryd.underlying24 rfl (by rw [idA_size, HIL.out]; exact id_infoW) ?_) | (refine wpList_store_mid rfl 24 (.tmp 2) (.tmp 8) rfl g2 0 (idA Q) rfl rfl (by rw [idA_size, HIL.out]; exact R2.there 32 (by rw [idA_size]; decide)) (by rw [idA_size, HIL.out]; exact id_infoW) (all_oneCell_toArray (by intro v hv; simp only [List.mem_map] at hv; obtain ⟨x, _, rfl⟩ := hv; rfl)) ?_))
  refine bodyPost_ret (results_cell_row rfl _ _ g2 24 (idA Q) (0, 0) _ rfl (R2.setAll (by rw [idA_size, idA_size, HIL.out]; rfl)) Tryd.underlying24 rfl (by rw [idA_size, HIL.out]; exact id_infoW)) rfl ⟨rfl, HTK.out _ (Below.setCells (Nat.le_refl _) _ _ _ ⟨HB6.os, HB6.tape, HB6.output, HB6.size, fun k hk => HB6.block k (by omega)⟩)⟩
end Go.Proofs.YtfflgimbgmbpaaaDoor
namespace Go.Proofs.YtfflgimbgmbpaaaDoor
open Go.RowKit
set_option linter.unusedVariables false
set_option linter.unusedSimpArgs false

theorem StI.ok {s : St} (h : StI s) : StOk s := ⟨h.1, h.2.1⟩
theorem StI.fail {s : St} (h : StI s) {c : Nat} (hc : c < 1000) (h0 : c ≠ 0 ∨ s.2 ≠ 0) : StI (rdFail s c) := by
  refine ⟨Nat.zero_le _, ?_, by simp [rdFail], fun _ => rfl⟩
  have := h.2.1
  unfold rdFail
  show (if s.2 = 0 then c else s.2) < 1000
  split <;> omega
theorem num_inv (s : St) (n : Int) (h : StI s) : StI (rdNum s n).2 := (take_inv s n h).1
theorem cnt_inv (s : St) (h : StI s) : StI (rdCnt s).2 := by
  have h1 := num_inv s 1 h
  unfold rdCnt
  split
  · exact num_inv _ 2 h1
  · split
    · exact num_inv _ 4 h1
    · split
      · exact num_inv _ 8 h1
      · exact h1
theorem count_inv (s : St) (m : Nat) (h : StI s) : StI (rdCount s m).2 := by
  have h1 := cnt_inv s h
  unfold rdCount
  split
  · exact h1
  · split
    · exact h1.fail (by decide) (Or.inl (by decide))
    · split
      · exact h1.fail (by decide) (Or.inl (by decide))
      · exact h1
theorem rtext_inv (s : St) (m : Int) (h : StI s) : StI (rdText s m).2 := (take_inv _ _ (count_inv s _ h)).1
theorem take_some (s : St) (k : Nat) : (rdTake s (k : Int)).1 = [] ∨ (rdTake s (k : Int)).1.length = k := by
  unfold rdTake
  split
  · rename_i h
    exact Or.inr (by simp only [List.length_take, Int.toNat_natCast]; omega)
  · exact Or.inl rfl
theorem idOf_whole (ys : List Nat) (h : ys.length = 32) : idOf ys = ys := by unfold idOf zeros; rw [h]; simp
theorem idOf_none : idOf [] = zeros 32 := rfl
theorem idOf_lt (ys : List Nat) (h : ∀ x ∈ ys, x < 256) : ∀ x ∈ idOf ys, x < 256 := by
  unfold idOf
  intro x hx
  rcases List.mem_append.1 hx with hx | hx
  · exact h x hx
  · exact zeros_lt _ x hx
/-- A text is a count and then so many bytes: the two readings are one. -/
theorem text_route (s : St) (m : Int) : rdText s m = rdTake (rdCount s (max m 0).toNat).2 ((rdCount s (max m 0).toNat).1 : Int) := rfl
/-- The end's answer. -/
theorem rdEnd_route (s : St) (h : StI s) : rdEnd s = if s.2 = 0 ∧ s.1 ≠ [] then 70 else s.2 := by
  unfold rdEnd
  congr 1
  simp [List.length_pos_iff]
end Go.Proofs.YtfflgimbgmbpaaaDoor
