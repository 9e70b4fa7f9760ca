/-
  What is proved: CheckOrder holds for every input; the two listed tables of package hash are taken to hold what the program's text lays in them, and the card ties them to it.
-/
import Derived.Test.YtpemljbdmbinlaaDoorCorR
import Derived.Test.YtpemljbdmbinlaaDoorTie
import Derived.Test.YtpemljbdmbinlaaDoorCards
import Derived.Stop.Joined
namespace Go.Proofs.YtpemljbdmbinlaaDoor.checkOrder
open Go.ChangeShapes Go.WideShapes Go.ChangeAt Go.RowKit
set_option linter.unusedVariables false

theorem own : ownKnob Tryd.prog.godebug = none := by kernel_rfl
theorem laidOut : laidOutB Tryd.prog = true := by kernel_rfl
theorem wf_i64 {z : Int} (h : (Lit.int .i64 z).wf = true) : -9223372036854775808 ≤ z ∧ z ≤ 9223372036854775807 := by
  simp [Lit.wf, IntKind.min, IntKind.max, IntKind.signed, IntKind.bits] at h
  omega
theorem mine_kept {α : Type} {S : RowT α} {e : TypeId} {W W' : World} {lo : Nat} {v : Value} {xs : List α} (h : MineR S W lo v xs) (hk : ∀ b t cs, t ≠ e → t ≠ 32 → Bk W b t cs → Bk W' b t cs) (h1 : S.e ≠ e) (h2 : S.e ≠ 32) : MineR S W' lo v xs := by
  rcases h with h | ⟨T, cap, z, e, hc, hc2, hT, K⟩
  · exact .inl h
  · exact .inr ⟨T, cap, z, e, hc, hc2, hT, hk _ _ _ h1 h2 K⟩
set_option maxRecDepth 100000 in
set_option maxHeartbeats 8000000 in
theorem walk (t : TxM) (f : Bool) (w : World) (hLd : Laid w) (hT : TxV w w.heap.size t) :
    Calls Tryd.prog 4 #[txv t, .bool f] w fun e w' => e = .returned (.bool true) ∧ Below w.heap.size w w' := by
  have HT := Lib.hid hT
  have HLD := Lib.hid hLd
  have HOV := Lib.hid hT.2.2.1
  have HOK := Lib.hid hT.2.2.2
  obtain ⟨sa, na, ca, ea⟩ : ∃ s n c, t.iv = .slice s n c := ⟨_, _, _, rfl⟩
  obtain ⟨sb, nb, cb, eb⟩ : ∃ s n c, t.ov = .slice s n c := ⟨_, _, _, rfl⟩
  have HEA := Lib.hid ea
  have hna : na = t.ins.length := by unfold TxM.iv at ea; injection ea with _ h _; exact h.symm
  have hnb : nb = t.outs.length := by unfold TxM.ov at eb; injection eb with _ h _; exact h.symm
  have HNA := Lib.hid hna
  have HNB := Lib.hid hnb
  have hLI := row_at (show RowV inR w w.heap.size (.slice sa na ca) t.ins from by rw [← ea]; exact hT.1)
  have hLO := row_at (show RowV outR w w.heap.size (.slice sb nb cb) t.outs from by rw [← eb]; exact hT.2.2.1)
  have HLI := Lib.hid hLI
  have HLO := Lib.hid hLO
  clear hna hnb hLI hLO
  have HEB := Lib.hid eb
  change Calls _ _ #[.agg #[t.iv, t.ov], .bool f] _ _
  rw [ea, eb]
  clear hLd hT ea eb
  go_enter Tryd.func4, Tryd.ntmps4
  go_upto_region 1 with fail
  refine wp_any (fun W => Below w.heap.size w W ∧ Bk W w.heap.size 32 #[.slice sa na ca, .slice sb nb cb]) ⟨(Below.refl w.heap.size w).alloc (Nat.le_refl _) _, Bk.new _ _ _⟩ ?_
  obtain ⟨g1, hg1⟩ : ∃ g1, g1 = w.heap.size := ⟨_, rfl⟩
  have HG := Lib.hid hg1
  rw [← hg1]
  clear hg1
  rintro W ⟨hW, K⟩
  have HW : Hid (Below w.heap.size w W) := by rw [← HG.out]; exact hW
  clear hW
  go_wp2_with fail
  refine (asks_any W (HLD.out.keep HW.out)).mono ?_
  rintro e w1 ⟨rfl, hb1⟩
  have HB1 := Lib.hid (below_step HW.out HW.out.size hb1)
  have K1 := K.keep hb1
  have c0 := K1.cell 0
  have c1 := K1.cell 1
  have z1 := K1.lt
  have hft := fits_any t w1 ((HT.out.keep HB1.out (Nat.le_refl _)).mono HB1.out.size)
  change Calls _ _ #[.agg #[t.iv, t.ov]] _ _ at hft
  rw [HEA.out, HEB.out] at hft
  have HFI := Lib.hid (fitB_iff t)
  generalize fitB t = fb at *
  clear hb1 HW K
  cases fb
  · go_wp2_with fail
    refine hft.mono ?_
    rintro e w2 ⟨rfl, hb2⟩
    have HB2 := Lib.hid (below_step HB1.out HB1.out.size hb2)
    clear hb2 hft
    go_wp2_with fail
    go_ret
    exact ⟨rfl, HB2.out⟩
  go_wp2_with fail
  refine hft.mono ?_
  rintro e w2 ⟨rfl, hb2⟩
  have HB2 := Lib.hid (below_step HB1.out HB1.out.size hb2)
  have K2 := K1.keep hb2
  clear hb2 hft HB1 K1 c0 c1 z1
  have HFT : Hid (TxFit t) := HFI.out.1 (by trivial)
  have HN40 := Lib.hid (show na ≤ 40 ∧ nb ≤ 40 from ⟨by rw [HNA.out]; exact HFT.out.1, by rw [HNB.out]; exact HFT.out.2.1⟩)
  have HZG : Hid (g1 < w2.heap.size) := K2.lt
  go_upto_region 6 with fail
  refine wp_any (fun W => Below w2.heap.size w2 W ∧ Bk W w2.heap.size 32 #[.slice none 0 0, .slice none 0 0]) ⟨(Below.refl _ _).alloc (Nat.le_refl _) _, Bk.new _ _ _⟩ ?_
  rintro W6 ⟨hB6, K56⟩
  have HB6 := Lib.hid (below_step HB2.out HB2.out.size hB6)
  have K16 := K2.keep hB6
  have HWP : Hid (w.heap.size ≤ w2.heap.size) := HB2.out.size
  clear hB6 HB2 K2
  generalize w2.heap.size = p5 at *
  have c0 := K16.cell 0
  have z1 := K16.lt
  have HM0 : Hid (MineR inR W6 p5 (.slice none 0 0) (t.ins.reverse.take 0)) := .inl ⟨rfl, rfl⟩
  go_wp2_with fail
  go_loopw [20] (fun i wr => ∃ (k : Nat) (si : Option Addr) (ci : Nat), k ≤ na ∧ i = .int .i64 k ∧ Hid (MineR inR wr p5 (.slice si k ci) (t.ins.reverse.take k)) ∧ Hid (Below w.heap.size w wr) ∧ Bk wr g1 32 #[.slice sa na ca, .slice sb nb cb] ∧ Bk wr p5 32 #[.slice si k ci, .slice none 0 0]) (fun i _ => na - (intOf i).toNat)
  case atStart => exact ⟨0, none, 0, Nat.zero_le _, rfl, HM0.out, HB6.out, K16, K56⟩
  case round =>
    obtain ⟨k, si, ci, hk, rfl, HM, HB, K1, K5⟩ := hrel
    clear c0 z1 K16 K56 HM0 HB6
    by_cases hlt : k < na
    · have j1 : decide ((k : Int) < (na : Int)) = true := decide_eq_true (by omega)
      obtain ⟨x, b, o, hkx, hse, hbw, hrg⟩ := HLI.out (na - 1 - k) (by have := HNA.out; omega)
      subst hse
      have hrg := rr_below hrg HB.out hbw
      have hbr : b < wr.heap.size := Nat.lt_of_lt_of_le hbw HB.out.size
      have hlen : (t.ins.reverse.take k).length = k := by rw [List.length_take, List.length_reverse, ← HNA.out]; omega
      have HTK := Lib.hid (rev_take t.ins k x (by rw [← HNA.out]; exact hlt) (by rw [← HNA.out]; exact hkx))
      have hn4 : na ≤ 40 := HN40.out.1
      have HK1 := Lib.hid K1
      clear hkx hbw
      go_upto_region 9 with fail
      refine cor_region9 wr g1 p5 b o na (na - 1) ca k (na - 1 - k) si none sb ci 0 0 nb cb (t.ins.reverse.take k) x HK1.out K5 HM.out hlen (by omega) (by omega) (by omega) hrg hbr (fun x23 x24 x25 x26 x27 x28 x29 x30 x31 x32 x33 x34 x35 x36 x37 s8 e8 W9 h36 hM9 hB9 hKP hK9 => ?_)
      subst h36
      have HB9 := Lib.hid (HB.out.trans (hB9.mono HWP.out))
      have K19 := HK1.out.below hB9 HZG.out
      rw [← HTK.out] at hM9
      have HM9 := Lib.hid hM9
      clear hM9 hB9 hKP hrg hbr hlen K1 K5 HK1 HM HB
      go_wp2_with fail
      go_roundw
      case rel => exact ⟨k + 1, s8, e8, by omega, by go_num, HM9.out, HB9.out, K19, hK9⟩
      case measure => simp [intOf]; omega
    · obtain rfl : k = na := by omega
      have j1 : decide ((k : Int) < (k : Int)) = false := decide_eq_false (by omega)
      have c1 := K1.cell 1
      have z1 := K1.lt
      have HMI : Hid (MineR inR wr p5 (.slice si k ci) t.ins.reverse) := by
        have h := HM.out
        rw [List.take_of_length_le (by rw [List.length_reverse, HNA.out]; exact Nat.le_refl _)] at h
        exact h
      have HM0 : Hid (MineR outR wr p5 (.slice none 0 0) (t.outs.reverse.take 0)) := .inl ⟨rfl, rfl⟩
      clear HM hlt
      go_wp2_with fail
      go_loopw [42] (fun i wr => ∃ (q : Nat) (so : Option Addr) (co : Nat), q ≤ nb ∧ i = .int .i64 q ∧ Hid (MineR inR wr p5 (.slice si k ci) t.ins.reverse) ∧ Hid (MineR outR wr p5 (.slice so q co) (t.outs.reverse.take q)) ∧ Hid (Below w.heap.size w wr) ∧ Bk wr g1 32 #[.slice sa k ca, .slice sb nb cb] ∧ Bk wr p5 32 #[.slice si k ci, .slice so q co]) (fun i _ => nb - (intOf i).toNat)
      case atStart => exact ⟨0, none, 0, Nat.zero_le _, rfl, HMI.out, HM0.out, HB.out, K1, K5⟩
      case round =>
        clear c1 z1 K1 K5 HMI HM0 HB j1
        obtain ⟨q, so, co, hq, rfl, HMI, HM, HB, K1, K5⟩ := hrel
        by_cases hlt : q < nb
        · have j1 : decide ((q : Int) < (nb : Int)) = true := decide_eq_true (by omega)
          obtain ⟨x, b, o, hkx, hse, hbw, hrg⟩ := HLO.out (nb - 1 - q) (by have := HNB.out; omega)
          subst hse
          have hrg := rr_below hrg HB.out hbw
          have hbr : b < wr.heap.size := Nat.lt_of_lt_of_le hbw HB.out.size
          have hlen : (t.outs.reverse.take q).length = q := by rw [List.length_take, List.length_reverse, ← HNB.out]; omega
          have HTK := Lib.hid (rev_take t.outs q x (by rw [← HNB.out]; exact hlt) (by rw [← HNB.out]; exact hkx))
          have hn4 : nb ≤ 40 := HN40.out.2
          have HK1 := Lib.hid K1
          clear hkx hbw
          go_upto_region 14 with fail
          refine cor_region14 wr g1 p5 b o nb (nb - 1) cb q (nb - 1 - q) so si sa co k ci k ca (t.outs.reverse.take q) x HK1.out K5 HM.out hlen (by omega) (by omega) (by omega) hrg hbr (fun x45 x46 x47 x48 x49 x50 x51 x52 x53 x54 x55 x56 x57 x58 x59 s8 e8 W9 h58 hM9 hB9 hKP hK9 => ?_)
          subst h58
          have HB9 := Lib.hid (HB.out.trans (hB9.mono HWP.out))
          have K19 := HK1.out.below hB9 HZG.out
          rw [← HTK.out] at hM9
          have HM9 := Lib.hid hM9
          have HMI9 := Lib.hid (mine_kept HMI.out hKP (by decide) (by decide))
          clear hM9 hB9 hKP hrg hbr hlen K1 K5 HK1 HM HB HMI
          go_wp2_with fail
          go_roundw
          case rel => exact ⟨q + 1, s8, e8, by omega, by go_num, HMI9.out, HM9.out, HB9.out, K19, hK9⟩
          case measure => simp [intOf]; omega
        · obtain rfl : q = nb := by omega
          have j1 : decide ((q : Int) < (q : Int)) = false := decide_eq_false (by omega)
          have HMO : Hid (MineR outR wr p5 (.slice so q co) t.outs.reverse) := by
            have h := HM.out
            rw [List.take_of_length_le (by rw [List.length_reverse, HNB.out]; exact Nat.le_refl _)] at h
            exact h
          clear HM hlt
          have c1 := K1.cell 1
          have z1 := K1.lt
          have hov : RowV outR wr wr.heap.size (.slice sb q cb) t.outs := by
            rw [← HEB.out]
            exact (HOV.out.keep HB.out (Nat.le_refl _)).mono HB.out.size
          have hsum := csum_any t.outs (.slice sb q cb) wr hov HOK.out
          obtain ⟨oa, hoa⟩ : ∃ a, a = (osum 0 t.outs).1 := ⟨_, rfl⟩
          obtain ⟨ob, hob⟩ : ∃ a, a = (osum 0 t.outs).2 := ⟨_, rfl⟩
          rw [← hoa, ← hob] at hsum
          have HOA := Lib.hid hoa
          have HOB := Lib.hid hob
          clear hoa hob hov
          go_wp2_with fail
          refine hsum.mono ?_
          rintro e w3 ⟨rfl, hb3⟩
          have HB3 := Lib.hid (below_step HB.out HB.out.size hb3)
          have K13 := K1.keep hb3
          have K53 := K5.keep hb3
          have HMI3 := Lib.hid (HMI.out.keep hb3)
          have HMO3 := Lib.hid (HMO.out.keep hb3)
          clear hb3 hsum HB K1 K5 HMI HMO c1 z1
          have c1 := K53.cell 1
          have z5 := K53.lt
          have hmr := HMO3.out.rows outR_ok
          have hsum := csum_any t.outs.reverse (.slice so q co) w3 hmr (fun x hx => HOK.out x (List.mem_reverse.1 hx))
          rw [osum_rev, ← HOA.out, ← HOB.out] at hsum
          clear hmr
          go_wp2_with fail
          refine hsum.mono ?_
          rintro e V ⟨rfl, hb4⟩
          have HB4 := Lib.hid (below_step HB3.out HB3.out.size hb4)
          have K14 := K13.keep hb4
          have K54 := K53.keep hb4
          have HMI4 := Lib.hid (HMI3.out.keep hb4)
          have HMO4 := Lib.hid (HMO3.out.keep hb4)
          clear hb4 hsum HB3 K13 K53 HMI3 HMO3 c1 z5
          go_upto_region 18 with fail
          have d0 : ∀ w', Below V.heap.size V w' → w'.cell? ⟨g1, 0, none⟩ = some (.slice sa k ca) := fun w' h => (K14.keep h).cell 0
          have d1 : ∀ w', Below V.heap.size V w' → w'.cell? ⟨g1, 1, none⟩ = some (.slice sb q cb) := fun w' h => (K14.keep h).cell 1
          have d2 : ∀ w', Below V.heap.size V w' → w'.cell? ⟨p5, 0, none⟩ = some (.slice si k ci) := fun w' h => (K54.keep h).cell 0
          have d3 : ∀ w', Below V.heap.size V w' → w'.cell? ⟨p5, 1, none⟩ = some (.slice so q co) := fun w' h => (K54.keep h).cell 1
          have c0 := K14.cell 0
          have c1 := K14.cell 1
          have c2 := K54.cell 0
          have c3 := K54.cell 1
          have z1 := K14.lt
          have z5 := K54.lt
          obtain ⟨E1, hE1⟩ : ∃ E, E = txE f t := ⟨_, rfl⟩
          obtain ⟨u, hu⟩ : ∃ u : TxM, u = ⟨si, ci, t.ins.reverse, so, co, t.outs.reverse⟩ := ⟨_, rfl⟩
          obtain ⟨E2, hE2⟩ : ∃ E, E = txE f u := ⟨_, rfl⟩
          have hee : E2 = 0 ↔ E1 = 0 := by
            rw [hE1, hE2]
            exact txE_rev f t u (by rw [hu]) (by rw [hu])
          have hiv : u.iv = .slice si k ci := by
            rw [hu]
            unfold TxM.iv
            rw [List.length_reverse, ← HNA.out]
          have hov : u.ov = .slice so q co := by
            rw [hu]
            unfold TxM.ov
            rw [List.length_reverse, ← HNB.out]
          have HC1 : Hid (∀ W, Below V.heap.size V W → Calls Tryd.prog 20 #[.agg #[.slice sa k ca, .slice sb q cb], .bool f] W fun e w' => e = .returned (.int .i64 (E1 : Nat)) ∧ Below W.heap.size W w') := by
            show ∀ _, _
            intro W h
            have h2 := HB4.out.trans (h.mono HB4.out.size)
            have h1 := ctx_any t f W ((HT.out.keep h2 (Nat.le_refl _)).mono h2.size)
            change Calls _ _ #[.agg #[t.iv, t.ov], .bool f] _ _ at h1
            rw [HEA.out, HEB.out, ← hE1] at h1
            exact h1
          have HC2 : Hid (∀ W, Below V.heap.size V W → Calls Tryd.prog 20 #[.agg #[.slice si k ci, .slice so q co], .bool f] W fun e w' => e = .returned (.int .i64 (E2 : Nat)) ∧ Below W.heap.size W w') := by
            show ∀ _, _
            intro W h
            have h2 := HB4.out.trans (h.mono HB4.out.size)
            have hri := (HMI4.out.keep h).rows inR_ok
            have hro := (HMO4.out.keep h).rows outR_ok
            have h1 := ctx_any u f W ⟨by rw [hiv, hu]; exact hri, fun x hx => by
              rw [hu] at hx
              exact ((HT.out.2.1 x (List.mem_reverse.1 hx)).keep h2 (Nat.le_refl _)).mono h2.size, by rw [hov, hu]; exact hro, fun x hx => by
              rw [hu] at hx
              exact HOK.out x (List.mem_reverse.1 hx)⟩
            change Calls _ _ #[.agg #[u.iv, u.ov], .bool f] _ _ at h1
            rw [hiv, hov, ← hE2] at h1
            exact h1
          obtain ⟨bb, hbb⟩ : ∃ bb, bb = ((E1 : Int) == 0) := ⟨_, rfl⟩
          have q1 : ((E1 : Int) == 0) = bb := hbb.symm
          have q2 : ((E2 : Int) == 0) = bb := by
            rw [hbb, Bool.eq_iff_iff, beq_iff_eq, beq_iff_eq]
            omega
          clear hE1 hu hE2 hee hiv hov hbb K14 K54
          refine wp_region_noPanic ?_
          go_region_held (fun w' => Below V.heap.size V w')
            ((repeat' (first | with_reducible assumption | with_reducible exact Below.refl _ _ | with_reducible exact (Below.refl _ _).drew | with_reducible refine Below.drew ?_ | exact Nat.le_refl _)))
            (first
              | (go_at_call 20
                 with_reducible refine (HC1.out _ ?_).mono ?_
                 · repeat' (first | with_reducible assumption | with_reducible exact Below.refl _ _ | with_reducible exact (Below.refl _ _).drew | with_reducible refine Below.drew ?_)
                 rintro e w6 ⟨rfl, hb6⟩
                 have hE6 : Below V.heap.size V w6 := by
                   refine below_step ?_ ?_ hb6
                   · repeat' (first | with_reducible assumption | with_reducible exact Below.refl _ _ | with_reducible exact (Below.refl _ _).drew | with_reducible refine Below.drew ?_)
                   · first | exact Below.size (by with_reducible assumption) | (simp [World.drew]; done) | exact Nat.le_refl _
                 clear hb6)
              | (go_at_call 20
                 with_reducible refine (HC2.out _ ?_).mono ?_
                 · repeat' (first | with_reducible assumption | with_reducible exact Below.refl _ _ | with_reducible exact (Below.refl _ _).drew | with_reducible refine Below.drew ?_)
                 rintro e w7 ⟨rfl, hb7⟩
                 have hE7 : Below V.heap.size V w7 := by
                   refine below_step ?_ ?_ hb7
                   · repeat' (first | with_reducible assumption | with_reducible exact Below.refl _ _ | with_reducible exact (Below.refl _ _).drew | with_reducible refine Below.drew ?_)
                   · first | exact Below.size (by with_reducible assumption) | (simp [World.drew]; done) | exact Nat.le_refl _
                 clear hb7))
          all_goals
            refine NoPanic.normal ?_
            cases bb
            all_goals
              go_wp2_with fail
              go_ret
              refine ⟨rfl, HB4.out.trans (Below.mono ?_ HB4.out.size)⟩
              with_reducible assumption
end Go.Proofs.YtpemljbdmbinlaaDoor.checkOrder
