/-
  The document's check: Tx.
-/
import Derived.Test.YtmjiadfdmchhaaaDoorRkA
namespace Go.Proofs.YtmjiadfdmchhaaaDoor
open Go.RowKit
set_option linter.unusedVariables false
set_option linter.unusedSimpArgs false
set_option maxRecDepth 100000

theorem still_load_row {ops : Array Oper} {rest : List Oper} {o : Oper} {a : Act} {w : World} {Q : Act → Prop} (hg : o.guard = none) (ty : TypeId) (k : Operand) (ho : o.op = .load ty k) (b off : Nat) (hev : a.eval k = .pointer (some ⟨b, off, none⟩))
    (cs : List Value) (d : TypeDesc) (hr : w.rangeAt b off cs) (hu : Tryd.prog.underlying ty = some d) (hd : d.isRow = true) (hi : (Tryd.prog.info? ty).map (·.size) = some cs.length)
    (h : wpStill Tryd.prog ops w Q rest (a.put o.dst (.agg cs.toArray))) : wpStill Tryd.prog ops w Q (o :: rest) a := by
  refine wpStill_step (fun K hK => ?_)
  have hw : Region.wanted o (yielded ops a.tmps) = true := by simp [Region.wanted, hg]
  have hrun := run_loadAt_mid (P := Tryd.prog) w b off ty cs d hr hu hd hi
  rw [if_pos hw]
  unfold Oper.still execOp
  simp only [ho, hev, Sem.run_bind, hrun, Result.andThen_ok]
  exact (Oper.stillUpon_value o a w K _).mpr (hK _ h)
theorem heap_range {W w : World} (h : W.heap = w.heap) {b off : Nat} {l : List Value} (hr : w.rangeAt b off l) : W.rangeAt b off l := fun j v hv => by
  have := hr j v hv
  unfold World.cell? at this ⊢
  rw [h]
  exact this
theorem pt_inf : (Tryd.prog.info? 54).map (·.size) = some 33 := by kernel_rfl
theorem in_prefix {w : World} {b off : Nat} {x : InM} (h : w.rangeAt b off (inL x)) : w.rangeAt b off (poL (inP x)) := fun j v hv => by
  have hj := (List.getElem?_eq_some_iff.1 hv).1
  have e : inL x = poL (inP x) ++ [x.kv] := by unfold inL poL inP; simp
  exact h j v (by rw [e, List.getElem?_append_left hj]; exact hv)
theorem pov_agg (p : I32 × Nat) : pov p = .agg (poL p).toArray := rfl
theorem inE_cons (f : Bool) (seen : List (I32 × Nat)) (x : InM) (r : List InM) : inE f seen (x :: r) = if 100 < x.key.length then 2 else if (decide (inP x = mkP) != f) = true then 120 else if inP x ∈ seen then 5 else inE f (seen ++ [inP x]) r := rfl
set_option maxHeartbeats 8000000 in
theorem rtx_any (t : TxM) (f : Bool) (w : World) (hT : TxV w w.heap.size t) :
    Calls Tryd.prog 29 #[txv t, .bool f] w fun e w' => e = .returned (.int .i64 (txE f t : Nat)) ∧ Below w.heap.size w w' := by
  obtain ⟨ti, tic, ins, to_, toc, outs⟩ := t
  obtain ⟨ni, hni⟩ : ∃ ni, ni = ins.length := ⟨_, rfl⟩
  obtain ⟨no, hno⟩ : ∃ no, no = outs.length := ⟨_, rfl⟩
  obtain ⟨RI, hRI⟩ : ∃ r, r = inE f [] ins := ⟨_, rfl⟩
  obtain ⟨res, hres⟩ : ∃ r, r = txE f ⟨ti, tic, ins, to_, toc, outs⟩ := ⟨_, rfl⟩
  rw [← hres]
  have hres2 : res = if ¬ (0 < ni ∧ ni ≤ 32) then 120 else if ¬ (0 < no ∧ no ≤ 32) then 120 else if RI ≠ 0 then RI else if (osum 0 outs).2 = false then 121 else 0 := by
    rw [hres, hni, hno, hRI]
    rfl
  have HRES := Lib.hid hres2
  have HNI := Lib.hid hni
  have HNO := Lib.hid hno
  have HRI := Lib.hid hRI
  have HT := Lib.hid hT
  have hli : ni < 9223372036854775808 := by
    obtain ⟨s, c, e, h1, h2, _⟩ := hT.1
    have : ni = ins.length := hni
    simp only at h1
    omega
  have hlo : no < 9223372036854775808 := by
    obtain ⟨s, c, e, h1, h2, _⟩ := hT.2.2.1
    have : no = outs.length := hno
    simp only at h1
    omega
  have HLI := Lib.hid hli
  show Calls Tryd.prog _ #[.agg #[.slice ti ins.length tic, .slice to_ outs.length toc], .bool f] w _
  rw [← hni, ← hno]
  clear hT hni hno hli hlo hRI hres hres2
  go_enter Tryd.func29, Tryd.ntmps29
  go_upto_region 1 with fail
  refine wp_any (fun W => Below w.heap.size w W ∧ Bk W w.heap.size 28 #[.slice ti ni tic, .slice to_ no toc]) ⟨(Below.refl w.heap.size w).alloc (Nat.le_refl _) _, Bk.new _ _ _⟩ ?_
  obtain ⟨g1, hg1⟩ : ∃ g1, g1 = w.heap.size := ⟨_, rfl⟩
  have HG := Lib.hid hg1
  rw [← hg1]
  clear hg1
  rintro W ⟨hW, K⟩
  have HW : Hid (Below w.heap.size w W) := by rw [← HG.out]; exact hW
  clear hW
  have c0 := K.cell 0
  have c1 := K.cell 1
  have z1 := K.lt
  by_cases h1 : ni < 1
  · have q1 : decide ((ni : Int) < 1) = true := decide_eq_true (by omega)
    have hr : res = 120 := by rw [HRES.out, if_pos (by omega)]
    clear h1
    go_wp2_with fail
    go_ret
    exact ⟨by rw [hr]; rfl, HW.out⟩
  have q1 : decide ((ni : Int) < 1) = false := decide_eq_false (by omega)
  by_cases h2 : no < 1
  · have q2 : decide ((no : Int) < 1) = true := decide_eq_true (by omega)
    have hr : res = 120 := by rw [HRES.out]; split; rfl; rw [if_pos (by omega)]
    clear h2
    go_wp2_with fail
    go_ret
    exact ⟨by rw [hr]; rfl, HW.out⟩
  have q2 : decide ((no : Int) < 1) = false := decide_eq_false (by omega)
  by_cases h3 : 32 < ni
  · have q3 : decide ((32 : Int) < (ni : Int)) = true := decide_eq_true (by omega)
    have hr : res = 120 := by rw [HRES.out, if_pos (by omega)]
    clear h3
    go_wp2_with fail
    go_ret
    exact ⟨by rw [hr]; rfl, HW.out⟩
  have q3 : decide ((32 : Int) < (ni : Int)) = false := decide_eq_false (by omega)
  by_cases h4 : 32 < no
  · have q4 : decide ((32 : Int) < (no : Int)) = true := decide_eq_true (by omega)
    have hr : res = 120 := by rw [HRES.out]; split; rfl; rw [if_pos (by omega)]
    clear h4
    go_wp2_with fail
    go_ret
    exact ⟨by rw [hr]; rfl, HW.out⟩
  have q4 : decide ((32 : Int) < (no : Int)) = false := decide_eq_false (by omega)
  have hr0 : res = if RI ≠ 0 then RI else if (osum 0 outs).2 = false then 121 else 0 := by rw [HRES.out, if_neg (by omega), if_neg (by omega)]
  have HR0 := Lib.hid hr0
  have hne : ins ≠ [] := by
    intro e
    have := HNI.out
    rw [e] at this
    simp at this
    omega
  have hrow := RowV.at_ (show RowV inR w w.heap.size (.slice ti ni tic) ins by rw [HNI.out]; exact HT.out.1) hne
  obtain ⟨b, o, rfl, hbw, hnn, hat⟩ := hrow
  clear hnn
  have HAT := Lib.hid (show ∀ i x, ins[i]? = some x → w.rangeAt b (o + i * 34) (inL x) from hat)
  have HBW := Lib.hid hbw
  have HSM := Lib.hid (show 1 ≤ ni ∧ ni ≤ 32 from ⟨by omega, by omega⟩)
  clear hr0 hne hat hbw h4
  go_upto_region 3 with fail
  clear q1 q2 q3 q4 h1 h2 h3
  have H0 : Hid (RI = inE f ((ins.take 0).map inP) (ins.drop 0)) := HRI.out
  go_wp2_with fail
  go_loopw [5] (fun i wr => ∃ (k : Nat), k ≤ ni ∧ i = .int .i64 k ∧ Hid (RI = inE f ((ins.take k).map inP) (ins.drop k)) ∧ Hid (Below w.heap.size w wr) ∧ Bk wr g1 28 #[.slice (some ⟨b, o, none⟩) ni tic, .slice to_ no toc]) (fun i _ => ni - (intOf i).toNat)
  case atStart => exact ⟨0, Nat.zero_le _, rfl, H0.out, HW.out, K⟩
  case round =>
    obtain ⟨k, hk, rfl, HR, HB, Kr⟩ := hrel
    clear c0 c1 z1 HW K H0
    have c0 := Kr.cell 0
    have z1 := Kr.lt
    by_cases hlt : k < ni
    · have j1 : decide ((k : Int) < (ni : Int)) = true := decide_eq_true (by omega)
      obtain ⟨x, hkx⟩ : ∃ x, ins[k]? = some x := ⟨_, List.getElem?_eq_getElem (by rw [← HNI.out]; exact hlt)⟩
      have hrg := rr_below (HAT.out k x hkx) HB.out HBW.out
      have hDR : ins.drop k = x :: ins.drop (k + 1) := by
        obtain ⟨hk', hx⟩ := List.getElem?_eq_some_iff.1 hkx
        rw [List.drop_eq_getElem_cons hk', hx]
      have hRR := HR.out
      rw [hDR, inE_cons] at hRR
      have d33 : wr.cell? ⟨b, o + k * 34 + 33, none⟩ = some (.slice x.ks x.key.length x.kc) := hrg 33 _ (in_33 x)
      have hxv := HT.out.2.1 x (List.mem_of_getElem? hkx)
      have HIX := Lib.hid hxv.1
      obtain ⟨kl, hkl⟩ : ∃ kl, kl = x.key.length := ⟨_, rfl⟩
      rw [← hkl] at d33 hRR
      have HKX := Lib.hid hkx
      have HRG := Lib.hid hrg
      have HRR := Lib.hid hRR
      have hb1 : b < wr.heap.size := Nat.lt_of_lt_of_le HBW.out HB.out.size
      clear hDR hkl hkx hrg hRR hxv HR
      by_cases hkey : 100 < kl
      · have jk : decide ((100 : Int) < (kl : Int)) = true := decide_eq_true (by omega)
        have hr : res = 2 := by rw [HR0.out, HRR.out, if_pos hkey]; rfl
        clear hkey
        go_wp2_with fail
        go_ret
        exact ⟨by rw [hr]; rfl, HB.out⟩
      have jk : decide ((100 : Int) < (kl : Int)) = false := decide_eq_false (by omega)
      have HRR : Hid (RI = if (decide (inP x = mkP) != f) = true then 120 else if inP x ∈ (ins.take k).map inP then 5 else inE f ((ins.take k).map inP ++ [inP x]) (ins.drop (k + 1))) := HRR.out.trans (if_neg hkey)
      clear hkey
      have hmk := rmaker_any x wr HIX.out
      have hps := row_size inR_ok x
      obtain ⟨PL, hPL⟩ : ∃ PL, PL = inL x := ⟨_, rfl⟩
      have hrg : wr.rangeAt b (o + k * 34) PL := by rw [hPL]; exact HRG.out
      have hps : (Tryd.prog.info? 68).map (·.size) = some PL.length := by rw [hPL]; exact hps
      rw [← hPL] at hmk
      obtain ⟨bq, hbq⟩ : ∃ bq, bq = decide (inP x = mkP) := ⟨_, rfl⟩
      rw [← hbq] at hmk HRR
      clear hPL hbq
      go_upto_region 8 with fail
      go_wp2_with (refine wpList_load_mid rfl 68 (.tmp 49) rfl b (o + k * 34) rfl PL _ hrg Tryd.underlying68 rfl hps ?_)
      refine hmk.mono ?_
      rintro e w8 ⟨rfl, hb8⟩
      have HB8 := Lib.hid (below_step HB.out HB.out.size hb8)
      have K8 := Kr.keep hb8
      clear hb8 hmk hps hrg jk d33 c0 z1 Kr HB hb1
      have c0 := K8.cell 0
      have z1 := K8.lt
      by_cases hne : bq = f
      · subst hne
        have HRR : Hid (RI = if inP x ∈ (ins.take k).map inP then 5 else inE bq ((ins.take k).map inP ++ [inP x]) (ins.drop (k + 1))) := HRR.out.trans (if_neg (by simp))
        have HKN := Lib.hid hlt
        clear hlt
        go_wp2_with fail
        go_loopw [6] (fun i wr => ∃ (j : Nat), j ≤ k ∧ i = .int .i64 j ∧ Hid (∀ q y, q < j → ins[q]? = some y → inP y ≠ inP x) ∧ Hid (Below w.heap.size w wr) ∧ Bk wr g1 28 #[.slice (some ⟨b, o, none⟩) ni tic, .slice to_ no toc]) (fun i _ => k - (intOf i).toNat)
        case atStart => exact ⟨0, Nat.zero_le _, rfl, (fun q y hq _ => absurd hq (by omega)), HB8.out, K8⟩
        case round =>
          obtain ⟨j, hj, rfl, HX, HBv, Kv⟩ := hrel
          clear c0 z1 K8 HB8
          have c0 := Kv.cell 0
          have z1 := Kv.lt
          by_cases hjk : j < k
          · have jj : decide ((j : Int) < (k : Int)) = true := decide_eq_true (by omega)
            obtain ⟨y, hjy⟩ : ∃ y, ins[j]? = some y := ⟨_, List.getElem?_eq_getElem (by rw [← HNI.out]; have := HKN.out; omega)⟩
            have hiy := (HT.out.2.1 y (List.mem_of_getElem? hjy)).1
            have hkn := HKN.out
            have hn32 : ni ≤ 32 := HSM.out.2
            have hjn : j < ni := by omega
            have hl1 := in_prefix (heap_range (W := wr.drew) (w := wr) rfl (rr_below (HAT.out j y hjy) HBv.out HBW.out))
            have hl2 := in_prefix (heap_range (W := wr.drew) (w := wr) rfl (rr_below (HAT.out k x HKX.out) HBv.out HBW.out))
            have hp1 : (Tryd.prog.info? 54).map (·.size) = some (poL (inP y)).length := by rw [poL_len]; exact pt_inf
            have hp2 : (Tryd.prog.info? 54).map (·.size) = some (poL (inP x)).length := by rw [poL_len]; exact pt_inf
            have heq := pt_eql (inP y) (inP x) hiy HIX.out
            rw [pov_agg, pov_agg] at heq
            obtain ⟨eqb, heb⟩ : ∃ e, e = decide (inP y = inP x) := ⟨_, rfl⟩
            rw [← heb] at heq
            have HEB := Lib.hid heb
            generalize poL (inP y) = PY at *
            generalize poL (inP x) = PX at *
            have HL1 := Lib.hid hl1
            have HL2 := Lib.hid hl2
            have HP1 := Lib.hid hp1
            have HP2 := Lib.hid hp2
            clear hl1 hl2 hp1 hp2
            have HJY := Lib.hid hjy
            clear heb hjy hiy
            go_upto_region 13 with fail
            go_still_tail 12, (by kernel_rfl)
            refine still_load_row rfl 54 (.tmp 63) rfl b (o + j * 34) rfl PY _ HL1.out Tryd.underlying54 rfl HP1.out ?_
            repeat still_step
            refine still_load_row rfl 54 (.tmp 69) rfl b (o + k * 34) rfl PX _ HL2.out Tryd.underlying54 rfl HP2.out ?_
            refine wpStill_nil ?_
            change wpList _ _ _ _ _ wr.drew
            cases eqb
            · go_wp2_with fail
              go_roundw
              case rel =>
                refine ⟨j + 1, by omega, by go_num, (show ∀ q z, q < j + 1 → ins[q]? = some z → inP z ≠ inP x from fun q z hq hz => ?_), HBv.out.drew, Kv.drew⟩
                rcases Nat.lt_or_ge q j with h | h
                · exact HX.out q z h hz
                · obtain rfl : q = j := by omega
                  have e := HJY.out
                  rw [hz] at e
                  obtain rfl : z = y := by simpa using e
                  exact of_decide_eq_false HEB.out.symm
              case measure => simp [intOf]; omega
            · have hr : res = 5 := by
                have hin : inP x ∈ (ins.take k).map inP := by
                  rw [← of_decide_eq_true HEB.out.symm]
                  refine List.mem_map_of_mem (List.mem_of_getElem? (i := j) ?_)
                  rw [List.getElem?_take_of_lt hjk]
                  exact HJY.out
                have e : RI = 5 := HRR.out.trans (if_pos hin)
                rw [HR0.out, e]
                rfl
              clear hjk
              go_wp2_with fail
              go_ret
              exact ⟨by rw [hr]; rfl, HBv.out.drew⟩
          · obtain rfl : j = k := by omega
            have jj : decide ((j : Int) < (j : Int)) = false := decide_eq_false (by omega)
            have HRN : Hid (RI = inE bq ((ins.take (j + 1)).map inP) (ins.drop (j + 1))) := by
              have e : (ins.take j).map inP ++ [inP x] = (ins.take (j + 1)).map inP := by
                rw [List.take_add_one, HKX.out, List.map_append]
                rfl
              rw [← e]
              refine HRR.out.trans (if_neg ?_)
              intro hm
              obtain ⟨y, hy, he⟩ := List.mem_map.1 hm
              obtain ⟨q, hq, hqe⟩ := List.mem_iff_getElem.1 hy
              have hql : q < j := by rw [List.length_take] at hq; omega
              refine HX.out q y hql ?_ he
              rw [List.getElem_take] at hqe
              rw [← hqe]
              exact List.getElem?_eq_getElem _
            have hkn := HKN.out
            have hn32 : ni ≤ 32 := HSM.out.2
            clear hjk
            go_wp2_with fail
            go_roundw
            case rel => exact ⟨j + 1, by omega, by go_num, HRN.out, HBv.out, Kv⟩
            case measure => simp [intOf]; omega
      · obtain rfl : bq = !f := by cases bq <;> cases f <;> simp_all
        have hr : res = 120 := by
          have e : RI = 120 := HRR.out.trans (if_pos (by cases f <;> rfl))
          rw [HR0.out, e]
          rfl
        clear hne
        cases f
        all_goals
          go_wp2_with fail
          go_ret
          exact ⟨by rw [hr]; rfl, HB8.out⟩
    · obtain rfl : k = ni := by omega
      have j1 : decide ((k : Int) < (k : Int)) = false := decide_eq_false (by omega)
      have c1 := Kr.cell 1
      have hri := HR.out
      rw [show ins.drop k = [] by rw [HNI.out]; exact List.drop_length] at hri
      have hri : RI = 0 := hri
      have hr : res = if (osum 0 outs).2 = false then 121 else 0 := by rw [HR0.out, hri]; rfl
      have HR1 := Lib.hid hr
      have hsum := rsumT_any outs (.slice to_ no toc) wr (by rw [HNO.out]; exact (HT.out.2.2.1.keep HB.out (Nat.le_refl _)).mono HB.out.size) HT.out.2.2.2
      generalize osum 0 outs = os at *
      obtain ⟨oa, ob⟩ := os
      clear hri hr hlt
      go_wp2_with fail
      refine hsum.mono ?_
      rintro e w9 ⟨rfl, rfl⟩
      clear hsum c0 c1 z1
      cases ob
      · have hr : res = 121 := HR1.out
        go_wp2_with fail
        go_ret
        exact ⟨by rw [hr]; rfl, HB.out⟩
      · have hr : res = 0 := HR1.out
        go_wp2_with fail
        go_ret
        exact ⟨by rw [hr]; rfl, HB.out⟩
end Go.Proofs.YtmjiadfdmchhaaaDoor
