/- Package ban: slices.MinFunc over its bans. -/
import Derived.Test.YtkpffjcdalclmaaDoorZBanA
namespace Go.Proofs.YtkpffjcdalclmaaDoor
open Go.RowKit
set_option linter.unusedVariables false
set_option linter.unusedSimpArgs false
set_option maxRecDepth 100000
theorem bcellX {W w1 : World} (hb : Below W.heap.size W w1) : (∀ b o, b < W.heap.size → w1.cell? ⟨b, o, none⟩ = W.cell? ⟨b, o, none⟩) ∧ (∀ b o, b < W.heap.size → w1.frozen? ⟨b, o, none⟩ = W.frozen? ⟨b, o, none⟩) :=
  ⟨fun b o h => hb.cell (p := ⟨b, o, none⟩) h, fun b o h => hb.frozen (p := ⟨b, o, none⟩) h⟩
def minL (m : BanM) : List BanM → BanM
  | [] => m
  | x :: r => minL (if x.til < m.til then x else m) r
theorem cmpI_neg (x y : Int) : cmpI x y < 0 ↔ x < y := by
  unfold cmpI
  split
  · exact ⟨fun _ => by assumption, fun _ => by decide⟩
  · split
    · exact ⟨fun h => absurd h (by decide), fun _ => by omega⟩
    · exact ⟨fun h => absurd h (by decide), fun _ => by omega⟩
set_option maxHeartbeats 2000000 in
theorem min_any (x0 : BanM) (L : List BanM) (v : Value) (w : World) (h : RowV banR w w.heap.size v (x0 :: L)) :
    Calls Tryd.prog 46 #[v, .func (.func 47) #[] #[]] w fun e w' => e = .returned (bnV (minL x0 L)) ∧ Below w.heap.size w w' := by
  have h63 : (x0 :: L).length < 9223372036854775808 := by obtain ⟨_, _, _, h1, h2, _⟩ := h; omega
  obtain ⟨s0, c, rfl⟩ : ∃ s c, v = .slice s (x0 :: L).length c := h.slice
  have hrow := row_at h
  obtain ⟨n, hn⟩ : ∃ n, n = (x0 :: L).length := ⟨_, rfl⟩
  have HN := Lib.hid hn
  have hn1 : 1 ≤ n := by rw [hn]; simp
  rw [← hn] at hrow h63 ⊢
  have HL := Lib.hid hrow
  obtain ⟨res, hres⟩ : ∃ r, r = minL x0 L := ⟨_, rfl⟩
  rw [← hres]
  have H0 : Hid (res = minL x0 ((x0 :: L).drop 1)) := hres
  obtain ⟨y0, b, o, hk0, rfl, hbw, hrg⟩ := HL.out 0 (by omega)
  have e0 : y0 = x0 := by simpa using hk0.symm
  subst e0
  have r0 := hrg 0 _ rfl
  have r1 := hrg 1 _ rfl
  change w.cell? ⟨b, o + 0 * 2 + 0, none⟩ = _ at r0
  change w.cell? ⟨b, o + 0 * 2 + 1, none⟩ = _ at r1
  rw [Nat.zero_mul, Nat.add_zero] at r0 r1
  have j0 : decide ((n : Int) < 1) = false := decide_eq_false (by omega)
  have HB := Lib.hid hbw
  clear hrow hn h hres hk0 hrg
  go_enter Tryd.func46, Tryd.ntmps46
  go_upto_region 4 with fail
  refine wp_any (fun W => Below w.heap.size w W ∧ Bk W w.heap.size 114 #[.int .i64 0, .int .i64 0] ∧ Bk W (w.heap.size + 1) 114 #[.int .i64 y0.addr, .int .i64 y0.til])
    ⟨((Below.refl _ _).alloc (Nat.le_refl _) _).alloc (by simp) _, (Bk.new _ _ _).alloc _, Bk.new' _ _ _ (by simp)⟩ ?_
  clear r0 r1
  obtain ⟨g, hg⟩ : ∃ g, g = w.heap.size := ⟨_, rfl⟩
  have HG := Lib.hid hg
  have HBL : Hid (∀ W, Below g w W → Below w.heap.size w W) := by show ∀ _, _; rw [hg]; exact fun _ h => h
  have HLB : Hid (∀ W, Below w.heap.size w W → Below g w W) := by show ∀ _, _; rw [hg]; exact fun _ h => h
  rw [← hg] at HB hbw ⊢
  clear hg
  rintro W ⟨hW, G4, G5⟩
  have hzW := G5.lt
  have HW := Lib.hid hW
  have HG4 := Lib.hid G4
  have HG5 := Lib.hid G5
  clear hW G4 G5
  go_wp2_with fail
  go_loopw [6] (fun i wr => ∃ (k : Nat) (m : BanM), 1 ≤ k ∧ k ≤ n ∧ i = .int .i64 k ∧ Hid (Below g w wr) ∧ Hid (Bk wr g 114 #[.int .i64 0, .int .i64 0]) ∧ Hid (Bk wr (g + 1) 114 (bnL m).toArray) ∧ Hid (res = minL m ((y0 :: L).drop k))) (fun i _ => n - (intOf i).toNat)
  case atStart => exact ⟨1, y0, Nat.le_refl _, hn1, rfl, HW.out, HG4.out, HG5.out, H0.out⟩
  case round =>
    clear H0 HW HG4 HG5 hzW
    obtain ⟨k, m, hk1, hk, rfl, HB, HG4, HG5, HR⟩ := hrel
    by_cases hlt : k < n
    · obtain ⟨x, b', o', hkx, e, hbw', hrg⟩ := HL.out k hlt
      cases e
      have j1 : decide ((k : Int) < (n : Int)) = true := decide_eq_true (by omega)
      have hrg := rowr_below hrg (HBL.out _ HB.out) hbw'
      have r0 := hrg 0 _ rfl
      have r1 := hrg 1 _ rfl
      change wr.cell? ⟨b, o + k * 2 + 0, none⟩ = _ at r0
      change wr.cell? ⟨b, o + k * 2 + 1, none⟩ = _ at r1
      rw [Nat.add_zero] at r0
      obtain ⟨xa, xt⟩ := x
      obtain ⟨ma, mt⟩ := m
      have m0 := HG5.out.cell 0
      have m1 := HG5.out.cell 1
      change wr.cell? _ = some (.int .i64 ma) at m0
      change wr.cell? _ = some (.int .i64 mt) at m1
      change wr.cell? _ = some (.int .i64 xa) at r0
      change wr.cell? _ = some (.int .i64 xt) at r1
      have hzr := HG5.out.lt
      have hbr : b < wr.heap.size := Nat.lt_of_lt_of_le (by have := HG.out; omega) (HBL.out _ HB.out).size
      have HX := Lib.hid hkx
      have HR5 := Lib.hid r0
      have HR6 := Lib.hid r1
      have hc1 := ban1_any ⟨xa, xt⟩ ⟨ma, mt⟩ wr
      have hc2 := ban1_any ⟨xa, xt⟩ ⟨ma, mt⟩ wr.drew
      have hDR : (y0 :: L).drop k = ⟨xa, xt⟩ :: (y0 :: L).drop (k + 1) := by
        obtain ⟨hk', hx⟩ := List.getElem?_eq_some_iff.1 hkx
        rw [List.drop_eq_getElem_cons hk', hx]
      have hRR := HR.out
      rw [hDR] at hRR
      unfold minL at hRR
      have HRR := Lib.hid hRR
      have hz := cmpI_neg xt mt
      unfold bnV bnL at hc1 hc2
      simp only [] at hc1 hc2
      generalize cmpI xt mt = z at *
      have HZ := Lib.hid hz
      clear hrg hbw' hkx hDR hRR HR hz
      have hkp : ∀ W', Below wr.heap.size wr W' → W'.cell? ⟨b, o + k * 2, none⟩ = some (.int .i64 xa) ∧ W'.cell? ⟨b, o + k * 2 + 1, none⟩ = some (.int .i64 xt) ∧ W'.cell? ⟨g + 1, 0, none⟩ = some (.int .i64 ma) ∧ W'.cell? ⟨g + 1, 1, none⟩ = some (.int .i64 mt) ∧ Below wr.heap.size wr W' := fun W' h =>
        ⟨((bcellX h).1 _ _ hbr).trans r0, ((bcellX h).1 _ _ hbr).trans r1, ((bcellX h).1 _ _ hzr).trans m0, ((bcellX h).1 _ _ hzr).trans m1, h⟩
      by_cases hlz : z < 0
      · have d1 : decide (z < 0) = true := decide_eq_true hlz
        have HZ1 : Hid (xt < mt) := HZ.out.1 hlz
        have hRR2 := HRR.out
        rw [if_pos HZ1.out] at hRR2
        have HR2 := Lib.hid hRR2
        clear hlz HZ HRR hRR2
        go_upto_region 7 with fail
        go_region_held (fun w' => w'.cell? ⟨b, o + k * 2, none⟩ = some (.int .i64 xa) ∧ w'.cell? ⟨b, o + k * 2 + 1, none⟩ = some (.int .i64 xt) ∧ w'.cell? ⟨g + 1, 0, none⟩ = some (.int .i64 ma) ∧ w'.cell? ⟨g + 1, 1, none⟩ = some (.int .i64 mt) ∧ Below wr.heap.size wr w')
          (first | with_reducible assumption | exact hkp _ (Below.refl _ _).drew | exact hkp _ (Below.refl _ _))
          (first
            | (go_at_call 47
               first | with_reducible refine hc1.mono ?_ | with_reducible refine hc2.mono ?_
               rintro e w7 ⟨rfl, hb7⟩
               have hE7 : Below wr.heap.size wr w7 := by first | exact hb7 | exact ((Below.refl _ _).drew).trans hb7
               have hk7 := hkp _ hE7))
        obtain ⟨c0, c1, c2, c3, hE7⟩ := hk7
        have f0 := (HG5.out.keep hE7).frozen 0
        have f1 := (HG5.out.keep hE7).frozen 1
        have z7 := (HG5.out.keep hE7).lt
        have HB7 := Lib.hid (hE7)
        have q1 : (k : Int) + 1 ≤ 9223372036854775807 := by omega
        clear hc1 hc2 hkp hb7 hE7 r0 r1 m0 m1
        go_wp2_with fail
        go_roundw
        case rel =>
          have hB7 := HB7.out
          have G5' := ((HG5.out.keep hB7).set_ 0 (.int .i64 xa)).set_ 1 (.int .i64 xt)
          refine ⟨k + 1, ⟨xa, xt⟩, by omega, by omega, by simp, ?_, ?_, ?_, HR2.out⟩
          · exact HLB.out _ (((below_step (HBL.out _ HB.out) (HBL.out _ HB.out).size hB7).setCell (by have := HG.out; show _ ≤ g + 1; omega) _).setCell (by have := HG.out; show _ ≤ g + 1; omega) _)
          · exact ((HG4.out.keep hB7).far (by show g ≠ g + 1; omega) _).far (by show g ≠ g + 1; omega) _
          · exact G5'
        case measure => simp [intOf]; omega
      · have d1 : decide (z < 0) = false := decide_eq_false hlz
        have HZ1 : Hid (¬ xt < mt) := fun h => hlz (HZ.out.2 h)
        have hRR2 := HRR.out
        rw [if_neg HZ1.out] at hRR2
        have HR2 := Lib.hid hRR2
        clear hlz HZ HRR hRR2
        go_upto_region 7 with fail
        go_region_held (fun w' => w'.cell? ⟨b, o + k * 2, none⟩ = some (.int .i64 xa) ∧ w'.cell? ⟨b, o + k * 2 + 1, none⟩ = some (.int .i64 xt) ∧ w'.cell? ⟨g + 1, 0, none⟩ = some (.int .i64 ma) ∧ w'.cell? ⟨g + 1, 1, none⟩ = some (.int .i64 mt) ∧ Below wr.heap.size wr w')
          (first | with_reducible assumption | exact hkp _ (Below.refl _ _).drew | exact hkp _ (Below.refl _ _))
          (first
            | (go_at_call 47
               first | with_reducible refine hc1.mono ?_ | with_reducible refine hc2.mono ?_
               rintro e w7 ⟨rfl, hb7⟩
               have hE7 : Below wr.heap.size wr w7 := by first | exact hb7 | exact ((Below.refl _ _).drew).trans hb7
               have hk7 := hkp _ hE7))
        have HB7 := Lib.hid hE7
        clear hc1 hc2 hkp hb7 hE7 r0 r1 m0 m1 hk7
        go_wp2_with fail
        go_roundw
        case rel =>
          have hB7 := HB7.out
          refine ⟨k + 1, ⟨ma, mt⟩, by omega, by omega, by simp, ?_, ?_, ?_, HR2.out⟩
          · exact HLB.out _ (below_step (HBL.out _ HB.out) (HBL.out _ HB.out).size hB7)
          · exact HG4.out.keep hB7
          · exact HG5.out.keep hB7
        case measure => simp [intOf]; omega
    · have j1 : decide ((k : Int) < (n : Int)) = false := decide_eq_false (by omega)
      have hRe := HR.out
      rw [List.drop_eq_nil_of_le (by have := HN.out; omega)] at hRe
      obtain ⟨ma, mt⟩ := m
      have m0 := HG5.out.cell 0
      have m1 := HG5.out.cell 1
      have c0 := HG4.out.cell 0
      have c1 := HG4.out.cell 1
      change wr.cell? _ = some (.int .i64 ma) at m0
      change wr.cell? _ = some (.int .i64 mt) at m1
      change wr.cell? _ = some (.int .i64 0) at c0
      change wr.cell? _ = some (.int .i64 0) at c1
      have f0 := HG4.out.frozen 0
      have f1 := HG4.out.frozen 1
      have hz4 := HG4.out.lt
      have HRe := Lib.hid hRe
      clear hRe HR
      go_wp2_with fail
      have K4 := ((HG4.out).set_ 0 (.int .i64 ma)).set_ 1 (.int .i64 mt)
      refine bodyPost_ret (results_cell_row rfl _ _ g 114 (bnL ⟨ma, mt⟩).toArray (0, 0) _ rfl K4 Tryd.underlying114 rfl (row_size banR_ok ⟨ma, mt⟩)) rfl ?_
      refine ⟨by rw [HRe.out]; rfl, ((HBL.out _ HB.out).setCell ?_ _).setCell ?_ _⟩
      · exact Nat.le_of_eq HG.out.symm
      · exact Nat.le_of_eq HG.out.symm
end Go.Proofs.YtkpffjcdalclmaaDoor
