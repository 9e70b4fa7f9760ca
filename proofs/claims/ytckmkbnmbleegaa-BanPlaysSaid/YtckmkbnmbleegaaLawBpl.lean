/-
  What is proved: BanPlays holds for every input. No condition.
-/
import Derived.Test.YtckmkbnmbleegaaBanK
namespace Go.Proofs.Ytckmkbnmbleegaa.banPlays
open Go.ChangeShapes Go.WideShapes Go.ChangeAt Go.RowKit
set_option linter.unusedVariables false

theorem own : ownKnob Try.prog.godebug = none := by kernel_rfl
theorem laidOut : laidOutB Try.prog = true := by kernel_rfl
set_option maxRecDepth 100000 in
set_option maxHeartbeats 4000000 in
theorem walk (L : List OpM) (ask : Int × Int) (v : Value) (w : World) (h : RowV opR w w.heap.size v L) :
    Calls Try.prog 3 #[v, .agg #[.int .i64 ask.1, .int .i64 ask.2]] w fun e w' => e = .returned (.bool true) ∧ Below w.heap.size w w' := by
  obtain ⟨a0, a1⟩ := ask
  have h63 : L.length < 9223372036854775808 := by obtain ⟨_, _, _, h1, h2, _⟩ := h; omega
  obtain ⟨s0, c, rfl⟩ : ∃ s c, v = .slice s L.length c := h.slice
  have hrow := row_at h
  obtain ⟨n, hn⟩ : ∃ n, n = L.length := ⟨_, rfl⟩
  have HN := Lib.hid hn
  rw [← hn] at hrow h63 ⊢
  have HL := Lib.hid hrow
  have hBa : Below w.heap.size w (w.alloc (.cells #[.int .i64 a0, .int .i64 a1] 23)) := (Below.refl _ _).alloc (Nat.le_refl _) _
  have hbans := bans_any (w.alloc (.cells #[.int .i64 a0, .int .i64 a1] 23))
  have KA : Bk (w.alloc (.cells #[.int .i64 a0, .int .i64 a1] 23)) w.heap.size 23 #[.int .i64 a0, .int .i64 a1] := Bk.new _ _ _
  have HKA := Lib.hid KA
  have HBa := Lib.hid hBa
  clear hrow hn h KA hBa
  by_cases h200 : 120 < n
  · have d0 : decide ((120 : Int) < (n : Int)) = true := decide_eq_true (by omega)
    go_enter Try.func3, Try.ntmps3
    go_wp2_with fail
    refine hbans.mono ?_
    rintro e w1 ⟨rfl, hb1⟩
    go_wp2_with fail
    go_ret
    exact ⟨rfl, HBa.out.trans (hb1.mono HBa.out.size)⟩
  have d0 : decide ((120 : Int) < (n : Int)) = false := decide_eq_false (by omega)
  go_enter Try.func3, Try.ntmps3
  go_wp2_with fail
  refine hbans.mono ?_
  rintro e w1 ⟨rfl, hb1⟩
  have HB1 := Lib.hid (below_le HBa.out (Nat.le_refl _) hb1)
  have HKA1 := Lib.hid (HKA.out.keep hb1)
  clear hb1 hbans HBa HKA
  go_upto_region 6 with fail
  refine wp_any (fun W => Below w.heap.size w W ∧ Tab W w1.heap.size (.slice none 0 0) w1.heap.size [] ∧ Bk W w.heap.size 23 #[.int .i64 a0, .int .i64 a1]) ⟨below_le HB1.out (Nat.le_refl _) ((Below.refl _ _).alloc (Nat.le_refl _) _), tab_new w1 _, HKA1.out.alloc _⟩ ?_
  have HT : Hid (w.heap.size ≤ w1.heap.size) := HB1.out.size
  have HG : Hid (w.heap.size < w1.heap.size) := HKA1.out.lt
  clear HB1 HKA1
  generalize w1.heap.size = T at *
  obtain ⟨g3, hg3⟩ : ∃ g, g = w.heap.size := ⟨_, rfl⟩
  rw [← hg3] at HG ⊢
  have hz3 : g3 < T := HG.out
  have HG3 := Lib.hid hg3
  clear hg3
  rintro W ⟨hB, hT, hK⟩
  have hB : Below w.heap.size w W := by rw [← HG3.out]; exact hB
  have HB := Lib.hid hB
  have H0 := Lib.hid hT
  have HK := Lib.hid hK
  clear hB hT hK HG
  go_wp2_with fail
  go_loopw [6, 32] (fun s6 i wr => ∃ (k : Nat) (v : Value) (M : List BanM) (v6 : Value), v6 = s6 ∧ k ≤ n ∧ i = .int .i64 k ∧ Hid (Tab wr T v T M) ∧ Hid (M.length ≤ 32) ∧ Hid ((ads M).Nodup) ∧ Hid (MineR pairR wr T v6 M) ∧ Hid (Bk wr g3 23 #[.int .i64 a0, .int .i64 a1]) ∧ Hid (Below w.heap.size w wr)) (fun _ i _ => n - (intOf i).toNat)
  case atStart => exact ⟨0, _, [], _, rfl, Nat.zero_le _, rfl, H0.out, Nat.zero_le 32, List.nodup_nil, .inl ⟨rfl, rfl⟩, HK.out, HB.out⟩
  case round =>
    clear H0 HK HB
    obtain ⟨k, v, M, v6, rfl, hk, rfl, HTb, HM, HD, HR, HK, HB⟩ := hrel
    by_cases hlt : k < n
    · obtain ⟨⟨xk, xa, xt⟩, b, o, hkx, hse, hbw, hrg⟩ := HL.out k hlt
      subst hse
      have j1 : decide ((k : Int) < (n : Int)) = true := decide_eq_true (by omega)
      have hrg := rowr_below hrg HB.out hbw
      have r0 := hrg 0 _ rfl
      have r1 := hrg 1 _ rfl
      have r2 := hrg 2 _ rfl
      change wr.cell? ⟨b, o + k * 3 + 0, none⟩ = some (.int .i64 xk) at r0
      change wr.cell? ⟨b, o + k * 3 + 1, none⟩ = some (.int .i64 xa) at r1
      change wr.cell? ⟨b, o + k * 3 + 2, none⟩ = some (.int .i64 xt) at r2
      rw [Nat.add_zero] at r0
      have HX := Lib.hid hkx
      clear hrg hkx
      go_upto_region 10 with fail
      refine wp_any (fun W => Below wr.heap.size wr W ∧ Bk W wr.heap.size 30 #[.int .i64 xk, .int .i64 xa, .int .i64 xt]) ⟨(Below.refl _ _).alloc (Nat.le_refl _) _, Bk.new _ _ _⟩ ?_
      clear r0 r1 r2
      have hwz : Hid (w.heap.size ≤ wr.heap.size) := HB.out.size
      generalize hp5 : wr.heap.size = p5 at *
      rintro W1 ⟨hb1, K1⟩
      have HT1 := Lib.hid (HTb.out.keep (hp5 ▸ hb1))
      have HB1 := Lib.hid (HB.out.trans (hb1.mono hwz.out))
      have hB1r : Below wr.heap.size wr W1 := hp5 ▸ hb1
      have HW1 := Lib.hid hB1r
      have c0 := K1.cell 0
      have c1 := K1.cell 1
      have c2 := K1.cell 2
      change W1.cell? _ = some (.int .i64 xk) at c0
      change W1.cell? _ = some (.int .i64 xa) at c1
      change W1.cell? _ = some (.int .i64 xt) at c2
      have z5 := K1.lt
      have HK1 := Lib.hid K1
      clear hb1 K1 hB1r hp5
      have HR1 := Lib.hid (HR.out.keep HW1.out)
      have HKg1 := Lib.hid (HK.out.keep HW1.out)
      have hap : ¬ (p5 = T ∨ slb v p5) := by
        rintro (e | e)
        · subst e
          exact absurd (Bk.type_eq HK1.out HT1.out.G) (by decide)
        · exact (HT1.out.M.apart HK1.out (by decide)) e
      have HAP := Lib.hid hap
      clear hap HTb HR HK HB HX
      by_cases h1 : xk = 1
      · have q0 : (xk == 1) = true := by simp [h1]
        have hsw := sweep_any T v T M xt W1 HT1.out
        change Calls _ _ _ _ (fun e w' => Turned T v T (M.filter (liv xt)) W1 e w') at hsw
        clear h1
        go_wp2_with fail
        refine hsw.mono ?_
        rintro e w3 ht
        obtain ⟨rfl, v3, hT3, hB3, hBt, _⟩ := ht.go HT1.out (B := T) (Nat.le_refl _) (Nat.le_refl _) (Nat.le_of_lt HT1.out.G.lt)
        have HT3 := Lib.hid hT3
        have HB3 := Lib.hid (HB1.out.trans (hB3.mono HT.out))
        have HR3 := Lib.hid (HR1.out.turnedP HT1.out hBt)
        have HK3 := Lib.hid (HKg1.out.below hB3 hz3)
        have K5 := hBt.keep HK1.out HAP.out
        have HK5 := Lib.hid K5
        clear hsw ht hT3 hB3 hBt HT1 HB1 HR1 HKg1 K5 HW1 HK1 HAP c0 c1 c2 z5
        obtain ⟨s6, c6, e6⟩ := HR3.out.slice
        subst e6
        obtain ⟨m, hm⟩ : ∃ m, m = M.length := ⟨_, rfl⟩
        have HMm := Lib.hid hm
        have hrw := row_at (HR3.out.rows pairR_ok)
        have hm32 : m ≤ 32 := by rw [hm]; exact HM.out
        rw [← hm] at hrw ⊢
        have HRW := Lib.hid hrw
        clear hrw hm
        go_wp2_with fail
        have jx1 := j1
        clear j1
        generalize hwo : w3 = wo at *
        clear hwo
        obtain ⟨Z, hZ⟩ : ∃ Z, Z = wo.heap.size := ⟨_, rfl⟩
        have HZ := Lib.hid hZ
        have z5 := HK5.out.lt
        rw [← hZ] at HRW z5
        have HTZ : Hid (T ≤ Z) := by have := HT3.out.G.lt; show _ ≤ _; omega
        clear hZ
        go_loopw [9, 44] (fun s9 i wr => ∃ (j : Nat) (v9 : Value), v9 = s9 ∧ j ≤ m ∧ i = .int .i64 j ∧ Hid (MineR pairR wr Z v9 ((M.take j).filter (liv xt))) ∧ Hid (Below Z wo wr)) (fun _ i _ => m - (intOf i).toNat)
        case atStart => exact ⟨0, _, rfl, Nat.zero_le _, rfl, .inl ⟨rfl, rfl⟩, Below.refl _ _⟩
        case round =>
          obtain ⟨j, v9, rfl, hj, rfl, H9, HBz⟩ := hrel
          by_cases hjm : j < m
          · obtain ⟨⟨ya, yt⟩, b', o', hjx, hse, hbw', hrg⟩ := HRW.out j hjm
            subst hse
            have j1 : decide ((j : Int) < (m : Int)) = true := decide_eq_true (by omega)
            have hrg := rowr_below hrg HBz.out hbw'
            have r0 := hrg 0 _ rfl
            have r1 := hrg 1 _ rfl
            change wr.cell? ⟨b', o' + j * 2 + 0, none⟩ = some (.int .i64 ya) at r0
            change wr.cell? ⟨b', o' + j * 2 + 1, none⟩ = some (.int .i64 yt) at r1
            rw [Nat.add_zero] at r0
            have K5 := HK5.out.below HBz.out z5
            have HK5r := Lib.hid K5
            have HJX := Lib.hid hjx
            have HZr : Hid (Z ≤ wr.heap.size) := by have := HBz.out.size; have := HZ.out; show _ ≤ _; omega
            clear hrg hjx K5
            go_upto_region 16 with fail
            refine wp_any (fun W => Below wr.heap.size wr W ∧ Bk W wr.heap.size 23 #[.int .i64 ya, .int .i64 yt]) ⟨(Below.refl _ _).alloc (Nat.le_refl _) _, Bk.new _ _ _⟩ ?_
            clear r0 r1
            have hW5 : Hid (∀ W, Below wr.heap.size wr W → Bk W p5 30 #[.int .i64 xk, .int .i64 xa, .int .i64 xt] ∧ MineR pairR W Z v9 ((M.take j).filter (liv xt)) ∧ Below Z wo W) := by
              show ∀ _, _
              exact fun W hb => ⟨HK5r.out.keep hb, H9.out.keep hb, HBz.out.trans (hb.mono HZr.out)⟩
            rintro W2 ⟨hb2, K2⟩
            obtain ⟨K5, h9, hbz⟩ := hW5.out W2 hb2
            have d0 := K2.cell 0
            have d1 := K2.cell 1
            have d2 := K5.cell 2
            change W2.cell? _ = some (.int .i64 ya) at d0
            change W2.cell? _ = some (.int .i64 yt) at d1
            change W2.cell? _ = some (.int .i64 xt) at d2
            have z2 := K2.lt
            have z6 := K5.lt
            generalize wr.heap.size = p11 at *
            have H92 := Lib.hid h9
            have HBz2 := Lib.hid hbz
            have htk : (M.take (j + 1)).filter (liv xt) = (M.take j).filter (liv xt) ++ [(⟨ya, yt⟩ : BanM)].filter (liv xt) := by
              rw [List.take_add_one, HJX.out, List.filter_append]
              rfl
            by_cases hgt : xt < yt
            · have e1 : decide (xt < yt) = true := decide_eq_true hgt
              rw [List.filter_cons_of_pos (by rw [liv_lt]; exact e1)] at htk
              have HTK : Hid ((M.take (j + 1)).filter (liv xt) = (M.take j).filter (liv xt) ++ [⟨ya, yt⟩]) := htk
              have hBb : Below W2.heap.size W2 (W2.alloc (.cells #[.int .i64 ya, .int .i64 yt] 23)) := (Below.refl _ _).alloc (Nat.le_refl _) _
              have Kb : Bk (W2.alloc (.cells #[.int .i64 ya, .int .i64 yt] 23)) W2.heap.size 23 (pairR.c ⟨ya, yt⟩).toArray := Bk.new _ _ _
              have hZ2 : Z ≤ W2.heap.size := by have := HBz2.out.size; have := HZ.out; omega
              have hlen : ((M.take j).filter (liv xt)).length ≤ 32 := by
                refine Nat.le_trans (List.length_filter_le _ _) ?_
                rw [List.length_take]
                omega
              obtain ⟨v', W, hrun, hM9, hBut, _⟩ := appR pairR_ok _ [⟨ya, yt⟩] v9 (.slice (some ⟨W2.heap.size, 0, none⟩) 1 1) Z _ (H92.out.keep hBb) (Nat.le_trans hZ2 hBb.size) (one_rowR pairR_ok Kb) (by simp only [List.length_cons, List.length_nil]; omega)
              have H93 := Lib.hid hM9
              have HBz3 := Lib.hid (((HBz2.out.trans (hBb.mono hZ2))).trans (hBut.below (B := Z) (Nat.le_trans hZ2 hBb.size) (fun q hq => ((H92.out.keep hBb).slb_lo hq).1)))
              obtain ⟨s9, c9, e9⟩ := H92.out.slice
              subst e9
              change (Builtin.append_ #[28, 28] 28 _).run _ _ = _ at hrun
              clear hgt htk hBb Kb hZ2 hlen hM9 hBut h9 hbz hb2 K2 K5
              go_wp2_with (at_builtin; refine wpList_appG 28 rfl _ _ rfl rfl rfl rfl hrun ?_)
              go_roundw
              case rel => exact ⟨j + 1, _, rfl, by omega, by simp, by rw [HTK.out]; exact H93.out, HBz3.out⟩
              case measure => simp [intOf]; omega
            · have e1 : decide (xt < yt) = false := decide_eq_false hgt
              rw [List.filter_cons_of_neg (by rw [liv_lt, e1]; decide)] at htk
              have HTK : Hid ((M.take (j + 1)).filter (liv xt) = (M.take j).filter (liv xt)) := by rw [htk]; show _ = _; simp
              clear hgt htk h9 hbz hb2 K2 K5
              go_wp2_with fail
              go_roundw
              case rel => exact ⟨j + 1, _, rfl, by omega, by simp, by rw [HTK.out]; exact H92.out, HBz2.out⟩
              case measure => simp [intOf]; omega
          · have j1 : decide ((j : Int) < (m : Int)) = false := decide_eq_false (by omega)
            have e9 : (M.take j).filter (liv xt) = M.filter (liv xt) := by rw [List.take_of_length_le (by have := HMm.out; omega)]
            have h9 := H9.out
            rw [e9] at h9
            have H9e := Lib.hid h9
            have hbw : Below wo.heap.size wo wr := by rw [← HZ.out]; exact HBz.out
            have HT4 := Lib.hid (HT3.out.keep hbw)
            have HB4 := Lib.hid (HB3.out.trans (hbw.mono HB3.out.size))
            have HK4 := Lib.hid (HK3.out.keep hbw)
            have HM4 := Lib.hid (Nat.le_trans (List.length_filter_le (liv xt) M) HM.out)
            have HD4 := Lib.hid (List.Nodup.sublist (ads_filter_sub M (liv xt)) HD.out)
            have hl := len_any T v3 T _ wr HT4.out
            obtain ⟨s9, c9, es9⟩ := H9e.out.slice
            subst es9
            have h9T := h9
            have H9T : Hid (MineR pairR wr T (.slice s9 (M.filter (liv xt)).length c9) (M.filter (liv xt))) := by
              rcases h9 with h | ⟨q1, q2, q3, q4, q5, q6, q7, q8⟩
              · exact .inl h
              · exact .inr ⟨q1, q2, q3, q4, q5, q6, Nat.le_trans HTZ.out q7, q8⟩
            have q9 : (((M.filter (liv xt)).length : Int) != ((M.filter (liv xt)).length : Int)) = false := by simp
            generalize M.filter (liv xt) = M2 at *
            clear h9 h9T hbw HT3 HB3 HK3 H9e H9 e9
            go_wp2_with fail
            refine hl.mono ?_
            rintro e w6 ⟨rfl, rfl⟩
            go_wp2_with fail
            go_roundw
            case rel => exact ⟨k + 1, v3, M2, _, rfl, by omega, by simp, HT4.out, HM4.out, HD4.out, H9T.out, HK4.out, HB4.out⟩
            case measure => simp [intOf]; omega
      · have q0 : (xk == 1) = false := by simp [h1]
        have hbn := ban_any T v T M xa xt W1 HT1.out (Nat.le_of_lt HT1.out.G.lt) HM.out
        clear h1
        go_wp2_with fail
        refine hbn.mono ?_
        rintro e w3 ht
        obtain ⟨rfl, v3, hT3, hB3, hBt, _⟩ := ht.go HT1.out (B := T) (Nat.le_refl _) (Nat.le_refl _) (Nat.le_of_lt HT1.out.G.lt)
        have HT3 := Lib.hid hT3
        have HB3 := Lib.hid (HB1.out.trans (hB3.mono HT.out))
        have HR3 := Lib.hid (HR1.out.turnedP HT1.out hBt)
        have HK3 := Lib.hid (HKg1.out.below hB3 hz3)
        have K5 := hBt.keep HK1.out HAP.out
        have HK5 := Lib.hid K5
        have HM4 := Lib.hid (banF_len M xa xt HM.out)
        have HD4 := Lib.hid (banF_nodup xa xt HD.out)
        clear hbn ht hT3 hB3 hBt HT1 HB1 HR1 HKg1 K5 HW1 HK1 HAP c0 c1 c2 z5
        obtain ⟨s6, c6, e6⟩ := HR3.out.slice
        subst e6
        obtain ⟨m, hm⟩ : ∃ m, m = M.length := ⟨_, rfl⟩
        have HMm := Lib.hid hm
        have hm32 : m ≤ 32 := by rw [hm]; exact HM.out
        have hr3 := HR3.out
        rw [← hm] at hr3 ⊢
        have HR3 := Lib.hid hr3
        clear hr3 hm
        go_wp2_with fail
        have jx1 := j1
        clear j1
        generalize hwo : w3 = wo at *
        clear hwo
        have HNS : Hid (∀ g t cs, Bk wo g t cs → t ≠ pairR.e → ¬ slb (.slice s6 m c6) g) := by show ∀ _, _; exact fun g t cs K h => HR3.out.apart K h
        go_loopw [12, 66] (fun s12 i wr => ∃ (j : Nat), j ≤ m ∧ i = .int .i64 j ∧ s12 = .bool ((M.take j).any (isA xa)) ∧ Hid (MineR pairR wr T (.slice s6 m c6) ((M.take j).map (upA xa xt) ++ M.drop j)) ∧ Hid (But (slb (.slice s6 m c6)) wo wr)) (fun _ i _ => m - (intOf i).toNat)
        case atStart => exact ⟨0, Nat.zero_le _, rfl, rfl, HR3.out, But.refl _ _⟩
        case round =>
          obtain ⟨j, hj, rfl, rfl, HRj, HBj⟩ := hrel
          by_cases hjm : j < m
          · have j1 : decide ((j : Int) < (m : Int)) = true := decide_eq_true (by omega)
            have hjM : j < M.length := by rw [← HMm.out]; exact hjm
            obtain ⟨x, hx⟩ : ∃ x, M[j]? = some x := ⟨_, List.getElem?_eq_getElem hjM⟩
            have hxD : ((M.take j).map (upA xa xt) ++ M.drop j)[j]? = some x := by
              rw [List.getElem?_append_right (by rw [List.length_map, List.length_take]; omega), List.length_map, List.length_take, List.getElem?_drop, show j + (j - min j M.length) = j by omega]
              exact hx
            obtain ⟨b6, c6', e6, hlo, hb6, r0, r1, f1⟩ := HRj.out.getP hxD
            have hDl : ((M.take j).map (upA xa xt) ++ M.drop j).length = m := by
              rw [List.length_append, List.length_map, List.length_take, List.length_drop]
              have := HMm.out
              omega
            rw [hDl] at e6
            cases e6
            have K5 := HBj.out.keep HK5.out (HNS.out _ _ _ HK5.out (by decide))
            have d1 := K5.cell 1
            have d2 := K5.cell 2
            change wr.cell? _ = some (.int .i64 xa) at d1
            change wr.cell? _ = some (.int .i64 xt) at d2
            have z6 := K5.lt
            have hany : (M.take (j + 1)).any (isA xa) = ((M.take j).any (isA xa) || isA xa x) := by
              rw [List.take_add_one, hx, List.any_append]
              simp
            have hmap : (M.take (j + 1)).map (upA xa xt) ++ M.drop (j + 1) = ((M.take j).map (upA xa xt) ++ M.drop j).set j (upA xa xt x) := by
              have hdj : M.drop j = x :: M.drop (j + 1) := by
                obtain ⟨hk', hxe⟩ := List.getElem?_eq_some_iff.1 hx
                rw [List.drop_eq_getElem_cons hk', hxe]
              have hlj : ((M.take j).map (upA xa xt)).length = j := by rw [List.length_map, List.length_take]; omega
              rw [List.set_append_right _ _ (by omega), hlj, Nat.sub_self, hdj, List.take_add_one, hx, List.map_append]
              simp
            have HXD := Lib.hid hxD
            obtain ⟨ya, yt⟩ := x
            change wr.cell? _ = some (.int .i64 ya) at r0
            change wr.cell? _ = some (.int .i64 yt) at r1
            generalize (M.take j).any (isA xa) = fnd at *
            have HMAP := Lib.hid hmap
            have HANY := Lib.hid hany
            clear hany hmap hDl hx hjM K5
            by_cases hq : ya = xa
            · have q1 : (ya == xa) = true := by simp [hq]
              have hup : upA xa xt ⟨ya, yt⟩ = ⟨ya, max yt xt⟩ := by unfold upA; rw [if_pos (by simpa [isA] using hq)]
              have HANY2 : Hid ((M.take (j + 1)).any (isA xa) = true) := by show _ = _; rw [HANY.out]; simp [isA, hq]
              have hM2 := HMAP.out
              rw [hup] at hM2
              have HM2 := Lib.hid hM2
              clear hq hup HANY HMAP hM2 hxD
              go_upto_region 25 with fail
              go_still_tail 7, (by kernel_rfl)
              change wpList _ _ _ _ _ wr.drew
              go_upto_region 26 with fail
              refine wp_any (fun W => W.cell? ⟨b6, j * 2 + 1, none⟩ = some (.int .i64 yt) ∧ W.frozen? ⟨b6, j * 2 + 1, none⟩ = false ∧ W.cell? ⟨p5, 2, none⟩ = some (.int .i64 xt) ∧ b6 < W.heap.size ∧ p5 < W.heap.size ∧ MineR pairR W T (.slice (some ⟨b6, 0, none⟩) m c6) ((M.take j).map (upA xa xt) ++ M.drop j) ∧ But (slb (.slice (some ⟨b6, 0, none⟩) m c6)) wo W)
                ⟨r1, f1, d2, hb6, z6, HRj.out.keep (Below.refl _ _).drew, HBj.out.drew⟩ ?_
              clear r0 r1 f1 d1 d2 hb6 z6 HRj HBj
              rintro W ⟨r1, f1, d2, hb6, z6, hRj, hBj⟩
              have HRj := Lib.hid hRj
              have HBj := Lib.hid hBj
              clear hRj hBj
              go_still_tail 12, (by kernel_rfl)
              change wpList _ _ _ _ _ W.drew
              go_wp2_with fail
              have e : max yt xt = if yt < xt then xt else yt := by split <;> omega
              generalize (if yt < xt then xt else yt) = u2 at *
              go_roundw
              case rel => exact ⟨j + 1, by omega, by simp, by rw [HANY2.out], by rw [HM2.out, e]; exact (HRj.out.setP HXD.out u2).keep (Below.refl _ _).drew, (HBj.out.set_ (.inl (slb_mk _ _ _ _)) _ none _).drew⟩
              case measure => simp [intOf]; omega
            · have q1 : (ya == xa) = false := by simp [hq]
              have hup : upA xa xt ⟨ya, yt⟩ = ⟨ya, yt⟩ := by unfold upA; rw [if_neg (by simpa [isA] using hq)]
              have HANY2 : Hid ((M.take (j + 1)).any (isA xa) = fnd) := by show _ = _; rw [HANY.out]; simp [isA, hq]
              have hM2 := HMAP.out
              rw [hup, list_set_same hxD] at hM2
              have HM2 := Lib.hid hM2
              clear hq hup HANY HMAP hM2 hxD
              go_upto_region 25 with fail
              go_still_tail 7, (by kernel_rfl)
              change wpList _ _ _ _ _ wr.drew
              go_wp2_with fail
              go_roundw
              case rel => exact ⟨j + 1, by omega, by simp, by rw [HANY2.out], by rw [HM2.out]; exact HRj.out.keep (Below.refl _ _).drew, HBj.out.drew⟩
              case measure => simp [intOf]; omega
          · have j1 : decide ((j : Int) < (m : Int)) = false := decide_eq_false (by omega)
            have ejm : j = M.length := by have := HMm.out; omega
            have hRj := HRj.out
            rw [ejm, List.take_length, List.drop_eq_nil_of_le (Nat.le_refl _), List.append_nil] at hRj
            have HRe := Lib.hid hRj
            have hK5 := HBj.out.keep HK5.out (HNS.out _ _ _ HK5.out (by decide))
            have HK5r := Lib.hid hK5
            have HT4 := Lib.hid (HT3.out.appP HR3.out HBj.out)
            have hbT : Below T wo wr := HBj.out.below (Nat.le_of_lt HT3.out.G.lt) (fun q hq => (HR3.out.slb_lo hq).1)
            have HB4 := Lib.hid (HB3.out.trans (hbT.mono HT.out))
            have HK4 := Lib.hid (HK3.out.below hbT hz3)
            rw [show (M.take j).any (isA xa) = (M.find? (isA xa)).isSome from by rw [ejm, List.take_length]; exact any_find]
            clear hRj hK5 hbT HT3 HB3 HK3 HK5 HRj HBj ejm
            cases hf : M.find? (isA xa) with
            | some x =>
              have hbF : banF M xa xt = M.map (upA xa xt) := by rw [banF_hit xt hf, raise_map HD.out]
              have HRe2 := Lib.hid (show MineR pairR wr T (.slice s6 m c6) (banF M xa xt) by rw [hbF]; exact HRe.out)
              have hlm : (banF M xa xt).length = m := by rw [hbF, List.length_map]; exact HMm.out.symm
              have hl := len_any T v3 T _ wr HT4.out
              rw [hlm] at hl
              have d32 : decide ((32 : Int) < (m : Int)) = false := decide_eq_false (by omega)
              have qn : ((m : Int) != (m : Int)) = false := by simp
              generalize banF M xa xt = M2 at *
              clear hbF hlm hf HRe
              go_wp2_with fail
              refine hl.mono ?_
              rintro e w6 ⟨rfl, rfl⟩
              go_wp2_with fail
              go_roundw
              case rel => exact ⟨k + 1, v3, M2, _, rfl, by omega, by simp, HT4.out, HM4.out, HD4.out, HRe2.out, HK4.out, HB4.out⟩
              case measure => simp [intOf]; omega
            | none =>
              have hRM := HRe.out
              rw [map_none hf] at hRM
              have K5 := HK5r.out
              have d1 := K5.cell 1
              have d2 := K5.cell 2
              change wr.cell? _ = some (.int .i64 xa) at d1
              change wr.cell? _ = some (.int .i64 xt) at d2
              have z5 := K5.lt
              have hBb : Below wr.heap.size wr (wr.alloc (.cells #[.int .i64 xa, .int .i64 xt] 23)) := (Below.refl _ _).alloc (Nat.le_refl _) _
              have Kb : Bk (wr.alloc (.cells #[.int .i64 xa, .int .i64 xt] 23)) wr.heap.size 23 (pairR.c ⟨xa, xt⟩).toArray := Bk.new _ _ _
              have hTw : T ≤ wr.heap.size := Nat.le_of_lt HT4.out.G.lt
              obtain ⟨v', W, hrun, hM9, hBut, _⟩ := appR pairR_ok M [⟨xa, xt⟩] _ (.slice (some ⟨wr.heap.size, 0, none⟩) 1 1) T _ (hRM.keep hBb) (Nat.le_trans hTw hBb.size) (one_rowR pairR_ok Kb) (by have := HMm.out; simp only [List.length_cons, List.length_nil]; omega)
              have hbT : Below T (wr.alloc (.cells #[.int .i64 xa, .int .i64 xt] 23)) W := hBut.below (Nat.le_trans hTw hBb.size) (fun q hq => ((hRM.keep hBb).slb_lo hq).1)
              have HT5 := Lib.hid ((HT4.out.keep hBb).appP (hRM.keep hBb) hBut)
              have HB5 := Lib.hid ((below_le HB4.out (Nat.le_refl _) hBb).trans (hbT.mono HT.out))
              have HK5 := Lib.hid ((HK4.out.keep hBb).below hbT hz3)
              have HR5 := Lib.hid hM9
              have hl2 : (M ++ [(⟨xa, xt⟩ : BanM)]).length = m + 1 := by rw [List.length_append]; have := HMm.out; simp only [List.length_cons, List.length_nil]; omega
              obtain ⟨s9, c9, e9⟩ := hM9.slice
              rw [hl2] at e9
              subst e9
              change (Builtin.append_ #[28, 28] 28 _).run _ _ = _ at hrun
              have HL2 := Lib.hid hl2
              have HF := Lib.hid hf
              have HNone := Lib.hid ((find_none_iff xa M).1 hf)
              clear hRM K5 hBb Kb hTw hM9 hBut hbT hl2 HRe HT4 HB4 HK4 HK5r hf
              have qn : ((((m : Int) + 1)) != ((m : Int) + 1)) = false := by simp
              by_cases h32 : m < 32
              · have d32 : decide ((32 : Int) < (m : Int) + 1) = false := decide_eq_false (by omega)
                have hbF : banF M xa xt = M ++ [⟨xa, xt⟩] := banF_room xt HF.out (by rw [← HMm.out]; exact h32)
                have hl := len_any T v3 T _ W HT5.out
                have HR6 := HR5.out
                rw [← hbF] at HR6
                have HR6 := Lib.hid HR6
                rw [show (banF M xa xt).length = m + 1 from by rw [hbF]; exact HL2.out] at hl
                generalize banF M xa xt = M2 at *
                clear h32 hbF HR5
                go_wp2_with (at_builtin; refine wpList_appG 28 rfl _ _ rfl rfl rfl rfl hrun ?_)
                refine hl.mono ?_
                rintro e w6 ⟨rfl, rfl⟩
                go_wp2_with fail
                go_roundw
                case rel => exact ⟨k + 1, v3, M2, _, rfl, by omega, by simp, HT5.out, HM4.out, HD4.out, HR6.out, HK5.out, HB5.out⟩
                case measure => simp [intOf]; omega
              · have em : m = 32 := by omega
                subst em
                obtain ⟨y, r, hyr⟩ : ∃ y r, M ++ [(⟨xa, xt⟩ : BanM)] = y :: r := by
                  cases M with
                  | nil => exact ⟨_, _, rfl⟩
                  | cons y r => exact ⟨_, _, rfl⟩
                have hbF : banF M xa xt = (y :: r).filter (fun x => !isA (minL y r).addr x) := by
                  rw [banF_full xt HF.out (by rw [← HMm.out]; omega), hyr]
                  rfl
                have hDn : (ads (y :: r)).Nodup := by
                  rw [← hyr, ads_app]
                  exact List.nodup_append.2 ⟨HD.out, by simp [ads], fun x hx z hz e => by
                    simp [ads] at hz
                    subst hz
                    subst e
                    exact HNone.out hx⟩
                have HDn := Lib.hid hDn
                have HBF := Lib.hid hbF
                have hR5 := HR5.out
                rw [hyr] at hR5
                have HR5 := Lib.hid hR5
                have hlD : (y :: r).length = 33 := by rw [← hyr]; exact HL2.out
                have HLD := Lib.hid hlD
                obtain ⟨b9, eb9, hb9⟩ : ∃ b9, s9 = some ⟨b9, 0, none⟩ ∧ b9 < W.heap.size := by
                  obtain ⟨b9, c', e, _, hb, _⟩ := hR5.getP (k := 0) (x := y) rfl
                  exact ⟨b9, (slice_inj e).1, hb⟩
                subst eb9
                have hc9 : 33 ≤ c9 := by
                  obtain ⟨_, _, e, q1, _⟩ := hR5.rows pairR_ok
                  obtain ⟨_, _, e3⟩ := slice_inj e
                  rw [hlD] at q1
                  omega
                clear h32 hyr hbF hDn hR5 hlD HF HNone HL2
                go_wp2_with (at_builtin; refine wpList_appG 28 rfl _ _ rfl rfl rfl rfl hrun ?_)
                clear hrun d1 d2 z5
                obtain ⟨Z, hZ⟩ : ∃ Z, Z = W.heap.size := ⟨_, rfl⟩
                have HZ := Lib.hid hZ
                clear hZ
                generalize hwo2 : W = wo2 at *
                clear hwo2
                go_loopw [14, 105] (fun s14 i wr => ∃ (j f : Nat), j ≤ 33 ∧ i = .int .i64 j ∧ s14 = .int .i64 f ∧ f < 33 ∧ Hid ((y :: r)[f]? = some (minL y (r.take (j - 1)))) ∧ Hid (Below wo2.heap.size wo2 wr)) (fun _ i _ => 33 - (intOf i).toNat)
                case atStart => exact ⟨0, 0, by omega, rfl, rfl, by omega, rfl, Below.refl _ _⟩
                case round =>
                  obtain ⟨j, f, hj, rfl, rfl, hf33, HMn, HBz⟩ := hrel
                  have hfx := HMn.out
                  have HRr := HR5.out.keep HBz.out
                  obtain ⟨b9', c', e', _, hb9r, cf0, cf1, _⟩ := HRr.getP hfx
                  obtain ⟨e1, e2', e3'⟩ := slice_inj e'
                  clear e2' e3' e'
                  cases e1
                  have hf33i : (f : Int) < 33 := by omega
                  obtain ⟨cu, hcu⟩ : ∃ cu, cu = minL y (r.take (j - 1)) := ⟨_, rfl⟩
                  rw [← hcu] at cf0 cf1 hfx
                  have HCU := Lib.hid hcu
                  have HFX := Lib.hid hfx
                  by_cases hjm : j < 33
                  · have j1 : decide ((j : Int) < 33) = true := decide_eq_true (by omega)
                    have hjD : j < (y :: r).length := by rw [HLD.out]; exact hjm
                    obtain ⟨x, hx⟩ : ∃ x, (y :: r)[j]? = some x := ⟨_, List.getElem?_eq_getElem hjD⟩
                    obtain ⟨b9', c', e', _, _, cx0, cx1, _⟩ := HRr.getP hx
                    obtain ⟨e1, e2', e3'⟩ := slice_inj e'
                    clear e2' e3' e'
                    cases e1
                    have hms := min_step hx
                    rw [← hcu] at hms
                    have HMS := Lib.hid hms
                    have HX := Lib.hid hx
                    obtain ⟨ya, yt⟩ := x
                    obtain ⟨ca, ct⟩ := cu
                    change wr.cell? _ = some (.int .i64 ya) at cx0
                    change wr.cell? _ = some (.int .i64 yt) at cx1
                    change wr.cell? _ = some (.int .i64 ct) at cf1
                    clear hms hx hcu hfx HRr hjD cf0
                    go_upto_region 36 with fail
                    refine wp_any (fun W => Below wr.heap.size wr W ∧ Bk W wr.heap.size 23 #[.int .i64 ya, .int .i64 yt]) ⟨(Below.refl _ _).alloc (Nat.le_refl _) _, Bk.new _ _ _⟩ ?_
                    have HF1 : Hid (∀ W, Below wr.heap.size wr W → W.cell? ⟨b9, f * 2 + 1, none⟩ = some (.int .i64 ct) ∧ b9 < W.heap.size ∧ Below wo2.heap.size wo2 W) := by
                      show ∀ _, _
                      exact fun W hb => ⟨((bcell hb).1 _ _ hb9r).trans cf1, Nat.lt_of_lt_of_le hb9r hb.size, below_step HBz.out HBz.out.size hb⟩
                    clear cx0 cx1 cf1
                    rintro W2 ⟨hb2, K2⟩
                    obtain ⟨cf1, hb9w, hbz⟩ := HF1.out W2 hb2
                    have d0 := K2.cell 0
                    have d1 := K2.cell 1
                    change W2.cell? _ = some (.int .i64 ya) at d0
                    change W2.cell? _ = some (.int .i64 yt) at d1
                    have z2 := K2.lt
                    have HBz2 := Lib.hid hbz
                    generalize wr.heap.size = p16 at *
                    clear hb2 K2 hbz
                    by_cases hlt : yt < ct
                    · have e1 : decide (yt < ct) = true := decide_eq_true hlt
                      have hm2 := HMS.out
                      rw [if_pos hlt] at hm2
                      have HM2 := Lib.hid hm2
                      clear hlt hm2 HMS
                      go_still_tail 7, (by kernel_rfl)
                      change wpList _ _ _ _ _ W2.drew
                      go_wp2_with fail
                      go_roundw
                      case rel => exact ⟨j + 1, j, by omega, by simp, rfl, by omega, by rw [HM2.out]; exact HX.out, HBz2.out.drew⟩
                      case measure => simp [intOf]; omega
                    · have e1 : decide (yt < ct) = false := decide_eq_false hlt
                      have hm2 := HMS.out
                      rw [if_neg hlt] at hm2
                      have HM2 := Lib.hid hm2
                      clear hlt hm2 HMS
                      go_still_tail 7, (by kernel_rfl)
                      change wpList _ _ _ _ _ W2.drew
                      go_wp2_with fail
                      go_roundw
                      case rel => exact ⟨j + 1, f, by omega, by simp, rfl, by omega, by rw [HM2.out]; exact HFX.out, HBz2.out.drew⟩
                      case measure => simp [intOf]; omega
                  · have j1 : decide ((j : Int) < 33) = false := decide_eq_false (by omega)
                    have hcm : cu = minL y r := by
                      rw [HCU.out, List.take_of_length_le (by have := HLD.out; rw [List.length_cons] at this; omega)]
                    have hfe := filter_erase HDn.out HFX.out
                    rw [hcm] at hfe
                    have hbF := HBF.out
                    rw [hfe] at hbF
                    have HBF2 := Lib.hid hbF
                    have hs1 := fun W => slice_to (b := b9) (m := 33) (c := c9) (f := f) (by omega) W
                    clear hcm hfe hbF hfx hcu cf0 cf1 HRr
                    have hfc : f ≤ c9 := by omega
                    have hf1 : f + 1 ≤ 33 := by omega
                    have hwr1 : IntKind.i64.wrap ((f : Int) + 1) = (f : Int) + 1 := IntWalk.i64_in _ (by omega)
                    have hB4 : Below wr.heap.size wr (wr.alloc (.cells #[] 23)).drew := ((Below.refl _ _).alloc (Nat.le_refl _) _).drew
                    have hTwr : T ≤ wr.heap.size := Nat.le_trans (Nat.le_of_lt HT5.out.G.lt) HBz.out.size
                    have HM0 : Hid (MineR pairR (wr.alloc (.cells #[] 23)).drew T (.slice (some ⟨wr.heap.size, 0, none⟩) 0 0) []) := .inr ⟨wr.heap.size, 0, 0, rfl, rfl, by decide, hTwr, Bk.new _ _ _⟩
                    have HRW : Hid (∀ W, Below wr.heap.size wr W → MineR pairR W T (.slice (some ⟨b9, 0, none⟩) 33 c9) (y :: r)) := by
                      show ∀ _, _
                      exact fun W hb => (HR5.out.keep HBz.out).keep hb
                    obtain ⟨a2, n2, c2, hs2, hr2⟩ : ∃ a2 n2 c2, (∀ W, (Instr.slice 28 (.slice (some ⟨b9, 0, none⟩) 33 c9) (some (.int .i64 ((f : Int) + 1))) none none).run Try.prog W = .ok (.slice a2 n2 c2) W) ∧ ∀ W, Below wr.heap.size wr W → RowV pairR W W.heap.size (.slice a2 n2 c2) ((y :: r).drop (f + 1)) := by
                      have hs2 := fun W => slice_from (b := b9) (m := 33) (c := c9) (f := f + 1) (by omega) hc9 W
                      have hs3 : ((f + 1 : Nat) : Int) = (f : Int) + 1 := by simp
                      rw [hs3] at hs2
                      exact ⟨_, _, _, hs2, fun W hb => row_from (HRW.out _ hb) (f := f + 1) (by rw [HLD.out]; omega)⟩
                    have HRr2 : Hid (∀ W, Below wr.heap.size wr W → RowV pairR W W.heap.size (.slice a2 n2 c2) ((y :: r).drop (f + 1))) := hr2
                    clear hr2
                    have HR1 := Lib.hid (row_to (HRW.out _ hB4) (f := f) (by rw [HLD.out]; omega))
                    have HB4' := Lib.hid hB4
                    have hlt4 : ((y :: r).take f).length = f := by rw [List.length_take, HLD.out]; omega
                    have hlt5 : ((y :: r).drop (f + 1)).length = 33 - (f + 1) := by rw [List.length_drop, HLD.out]
                    have HL4 := Lib.hid hlt4
                    have HL5 := Lib.hid hlt5
                    have HTW := Lib.hid hTwr
                    clear hB4 hlt4 hlt5 hTwr hb9r
                    go_upto_region 39 with fail
                    go_region_law (first
                      | (refine step_app pairR_ok [] ((y :: r).take f) T rfl (.tmp 120) (.tmp 123) rfl rfl rfl rfl HM0.out (Nat.le_trans HTW.out HB4'.out.size) HR1.out (by rw [HL4.out]; simp; omega) ?_
                         rintro v5 W5 hM5 hB5 hS5
                         rw [List.nil_append] at hM5
                         have hb5 : Below wr.heap.size wr W5 := HB4'.out.trans (hB5.below HB4'.out.size (fun q hq => by rw [slb_some hq]; exact Nat.le_refl _))
                         have HS5 : Hid (∀ q, slb v5 q → wr.heap.size ≤ q) := by
                           show ∀ _, _
                           intro q hq
                           rcases hS5 q hq with h | h
                           · rw [slb_some h]; exact Nat.le_refl _
                           · exact Nat.le_trans HB4'.out.size h
                         have HR2 := Lib.hid (HRr2.out _ hb5)
                         have HB5' := Lib.hid hb5
                         have HM5 := Lib.hid hM5
                         clear hM5 hB5 hS5 hb5)
                      | (refine step_app pairR_ok ((y :: r).take f) ((y :: r).drop (f + 1)) T rfl (.tmp 124) (.tmp 128) rfl rfl rfl rfl HM5.out (Nat.le_trans HTW.out HB5'.out.size) HR2.out (by rw [HL4.out, HL5.out]; omega) ?_
                         rintro v6 W6 hM6 hB6 hS6
                         have hb6 : Below wr.heap.size wr W6 := HB5'.out.trans (hB6.below HB5'.out.size HS5.out)
                         rw [← HBF2.out] at hM6
                         have HM6 := Lib.hid hM6
                         have HB6' := Lib.hid hb6
                         obtain ⟨s6, c6, e6⟩ := hM6.slice
                         subst e6
                         clear hM6 hB6 hS6 hb6))
                    have hbz6 : Below wo2.heap.size wo2 W6 := below_step HBz.out HBz.out.size HB6'.out
                    have HT6 := Lib.hid (HT5.out.keep hbz6)
                    have HBn6 := Lib.hid (HB5.out.trans (hbz6.mono HB5.out.size))
                    have HK6 := Lib.hid (HK5.out.keep hbz6)
                    have hl := len_any T v3 T _ W6 HT6.out
                    have qn2 : (((banF M xa xt).length : Int) != ((banF M xa xt).length : Int)) = false := by simp
                    clear HBF2 HBF hbz6
                    generalize banF M xa xt = M2 at *
                    go_wp2_with fail
                    refine hl.mono ?_
                    rintro e w6 ⟨rfl, rfl⟩
                    go_wp2_with fail
                    go_roundw
                    case rel => exact ⟨k + 1, v3, M2, _, rfl, by omega, by simp, HT6.out, HM4.out, HD4.out, HM6.out, HK6.out, HBn6.out⟩
                    case measure => simp [intOf]; omega
    · have j1 : decide ((k : Int) < (n : Int)) = false := decide_eq_false (by omega)
      have c0 := HK.out.cell 0
      change wr.cell? _ = some (.int .i64 a0) at c0
      have z3 := HK.out.lt
      have hBb : Below wr.heap.size wr (wr.alloc (.cells #[.int .i64 a0, .int .i64 0] 23)) := (Below.refl _ _).alloc (Nat.le_refl _) _
      have Kb : Bk (wr.alloc (.cells #[.int .i64 a0, .int .i64 0] 23)) wr.heap.size 23 (pairR.c ⟨a0, 0⟩).toArray := Bk.new _ _ _
      have hTw : T ≤ wr.heap.size := Nat.le_of_lt HTb.out.G.lt
      obtain ⟨v', W2, hrun, hM9, hBut, _, hOld⟩ := appR5 pairR_ok M [⟨a0, 0⟩] v6 (.slice (some ⟨wr.heap.size, 0, none⟩) 1 1) T _ (HR.out.keep hBb) (Nat.le_trans hTw hBb.size) (one_rowR pairR_ok Kb) (by have := HM.out; simp only [List.length_cons, List.length_nil]; omega)
      have hbT : Below T (wr.alloc (.cells #[.int .i64 a0, .int .i64 0] 23)) W2 := hBut.below (Nat.le_trans hTw hBb.size) (fun q hq => ((HR.out.keep hBb).slb_lo hq).1)
      have HT5 := Lib.hid ((HTb.out.keep hBb).appP (HR.out.keep hBb) hBut)
      have HB5 := Lib.hid ((below_le HB.out (Nat.le_refl _) hBb).trans (hbT.mono HT.out))
      have HK5 := Lib.hid ((HK.out.keep hBb).below hbT hz3)
      have hRow2 := hM9.rows pairR_ok
      obtain ⟨m, hm⟩ : ∃ m, m = M.length := ⟨_, rfl⟩
      have HMm := Lib.hid hm
      have hl2 : (M ++ [(⟨a0, 0⟩ : BanM)]).length = m + 1 := by rw [List.length_append, hm]; rfl
      obtain ⟨s6, c6, e6⟩ := HR.out.slice
      obtain ⟨s9, c9, e9⟩ := hM9.slice
      subst e6
      subst e9
      have hrA := row_at hRow2
      have hrB := row_at hOld
      rw [hl2] at hrA hrun
      rw [← hm] at hrB hrun ⊢
      have hm32 : m ≤ 32 := by rw [hm]; exact HM.out
      change (Builtin.append_ #[28, 28] 28 _).run _ _ = _ at hrun
      obtain ⟨D2, hD2⟩ : ∃ D2, D2 = M ++ [(⟨a0, 0⟩ : BanM)] := ⟨_, rfl⟩
      rw [← hD2] at hrA
      have HRA := Lib.hid hrA
      have HRB := Lib.hid hrB
      clear hBb Kb hTw hM9 hBut hOld hbT hRow2 hl2 hrA hrB hm HTb HB HK HR hD2
      go_wp2_with (at_builtin; refine wpList_appG 28 rfl _ _ rfl rfl rfl rfl hrun ?_)
      clear hrun c0 z3 j1 hlt hk
      generalize W2 = wo at *
      go_loopw [142] (fun i wr => ∃ (k : Nat), k ≤ m + 1 ∧ i = .int .i64 k ∧ Hid (Below wo.heap.size wo wr)) (fun i _ => (m + 1) - (intOf i).toNat)
      case atStart => exact ⟨0, Nat.zero_le _, rfl, Below.refl _ _⟩
      case round =>
        obtain ⟨k, hk, rfl, HBo⟩ := hrel
        by_cases hlt : k < m + 1
        · obtain ⟨⟨ya, yt⟩, b', o', hkx, hse, hbw', hrg⟩ := HRA.out k hlt
          subst hse
          have j1 : decide ((k : Int) < (m : Int) + 1) = true := decide_eq_true (by omega)
          have hrg := rowr_below hrg HBo.out hbw'
          have r0 := hrg 0 _ rfl
          have r1 := hrg 1 _ rfl
          change wr.cell? ⟨b', o' + k * 2 + 0, none⟩ = some (.int .i64 ya) at r0
          change wr.cell? ⟨b', o' + k * 2 + 1, none⟩ = some (.int .i64 yt) at r1
          rw [Nat.add_zero] at r0
          clear hrg hkx
          go_upto_region 46 with fail
          refine wp_any (fun W => Below wr.heap.size wr W ∧ Bk W wr.heap.size 23 #[.int .i64 ya, .int .i64 yt]) ⟨(Below.refl _ _).alloc (Nat.le_refl _) _, Bk.new _ _ _⟩ ?_
          clear r0 r1
          rintro W1 ⟨hb1, K1⟩
          have hbo1 : Below wo.heap.size wo W1 := below_step HBo.out HBo.out.size hb1
          have d0 := K1.cell 0
          change W1.cell? _ = some (.int .i64 ya) at d0
          have z1 := K1.lt
          have HK1 := Lib.hid K1
          have HBo1 := Lib.hid hbo1
          have hub := until_any T v T M ya W1 (HT5.out.keep hbo1)
          generalize wr.heap.size = p18 at *
          clear hb1 K1 hbo1
          go_wp2_with fail
          refine hub.mono ?_
          rintro e w3 ⟨rfl, hb3⟩
          have HBo3 := Lib.hid (below_step HBo1.out HBo1.out.size hb3)
          have HK3 := Lib.hid (HK1.out.keep hb3)
          clear hub hb3 d0 z1
          obtain ⟨⟨ut, ok⟩, htl⟩ : ∃ rr, rr = til M ya := ⟨_, rfl⟩
          rw [← htl]
          have HTL := Lib.hid htl
          clear htl
          go_wp2_with fail
          clear j1
          have z3 := HK3.out.lt
          generalize hw3 : w3 = wq at *
          clear hw3
          go_loopw [21, 22, 154] (fun s21 s22 i wr => ∃ (j : Nat) (lt : Int × Bool), j ≤ m ∧ i = .int .i64 j ∧ s21 = .int .i64 lt.1 ∧ s22 = .bool lt.2 ∧ Hid (lt = lastT (M.take j) ya) ∧ Hid (Below wq.heap.size wq wr)) (fun _ _ i _ => m - (intOf i).toNat)
          case atStart => exact ⟨0, (0, false), Nat.zero_le _, rfl, rfl, rfl, rfl, Below.refl _ _⟩
          case round =>
            obtain ⟨j, ⟨wt, th⟩, hj, rfl, rfl, rfl, HLT, HBq⟩ := hrel
            by_cases hjm : j < m
            · obtain ⟨⟨xa, xt⟩, b', o', hjx, hse, hbw', hrg⟩ := HRB.out j hjm
              subst hse
              have j1 : decide ((j : Int) < (m : Int)) = true := decide_eq_true (by omega)
              have hrg := rowr_below (rowr_below hrg HBo3.out hbw') HBq.out (Nat.lt_of_lt_of_le hbw' HBo3.out.size)
              have r0 := hrg 0 _ rfl
              have r1 := hrg 1 _ rfl
              change wr.cell? ⟨b', o' + j * 2 + 0, none⟩ = some (.int .i64 xa) at r0
              change wr.cell? ⟨b', o' + j * 2 + 1, none⟩ = some (.int .i64 xt) at r1
              rw [Nat.add_zero] at r0
              have hls : lastT (M.take (j + 1)) ya = if isA ya ⟨xa, xt⟩ = true then (xt, true) else lastT (M.take j) ya := by
                rw [List.take_add_one, hjx]
                exact lastT_snoc _ _ _
              rw [← HLT.out] at hls
              have HLS := Lib.hid hls
              have K18 := HK3.out.keep HBq.out
              have d0 := K18.cell 0
              change wr.cell? _ = some (.int .i64 ya) at d0
              have z18 := K18.lt
              have HD0 : Hid (∀ W, Below wr.heap.size wr W → W.cell? ⟨p18, 0, none⟩ = some (.int .i64 ya) ∧ p18 < W.heap.size ∧ Below wq.heap.size wq W) := by
                show ∀ _, _
                exact fun W hb => ⟨((bcell hb).1 _ _ z18).trans d0, Nat.lt_of_lt_of_le z18 hb.size, below_step HBq.out HBq.out.size hb⟩
              clear hrg hjx hls K18 d0 z18
              go_upto_region 51 with fail
              refine wp_any (fun W => Below wr.heap.size wr W ∧ Bk W wr.heap.size 23 #[.int .i64 xa, .int .i64 xt]) ⟨(Below.refl _ _).alloc (Nat.le_refl _) _, Bk.new _ _ _⟩ ?_
              clear r0 r1
              rintro W5 ⟨hb5, K5⟩
              obtain ⟨d0, z18, hbq⟩ := HD0.out W5 hb5
              have d1 := K5.cell 0
              have d2 := K5.cell 1
              change W5.cell? _ = some (.int .i64 xa) at d1
              change W5.cell? _ = some (.int .i64 xt) at d2
              have z5 := K5.lt
              have HBq5 := Lib.hid hbq
              generalize wr.heap.size = p24 at *
              clear hb5 K5 hbq HD0
              by_cases hq : xa = ya
              · have q1 : (xa == ya) = true := by simp [hq]
                have hl5 := HLS.out
                rw [if_pos (by simpa [isA] using hq)] at hl5
                have HL5 := Lib.hid hl5
                clear hq hl5 HLS
                go_wp2_with fail
                go_roundw
                case rel => exact ⟨j + 1, (xt, true), by omega, by simp, rfl, rfl, HL5.out.symm, HBq5.out⟩
                case measure => simp [intOf]; omega
              · have q1 : (xa == ya) = false := by simp [hq]
                have hl5 := HLS.out
                rw [if_neg (by simpa [isA] using hq)] at hl5
                have HL5 := Lib.hid hl5
                clear hq hl5 HLS
                go_wp2_with fail
                go_roundw
                case rel => exact ⟨j + 1, (wt, th), by omega, by simp, rfl, rfl, HL5.out.symm, HBq5.out⟩
                case measure => simp [intOf]; omega
            · have j1 : decide ((j : Int) < (m : Int)) = false := decide_eq_false (by omega)
              have hle : (wt, th) = (ut, ok) := by
                rw [HLT.out, HTL.out, List.take_of_length_le (by have := HMm.out; omega), lastT_til HD.out]
              obtain ⟨rfl, rfl⟩ : wt = ut ∧ th = ok := by
                injection hle with h1 h2
                exact ⟨h1, h2⟩
              have hbo := below_step HBo3.out HBo3.out.size HBq.out
              have K18 := HK3.out.keep HBq.out
              have d0 := K18.cell 0
              change wr.cell? _ = some (.int .i64 ya) at d0
              have z18 := K18.lt
              have K3 := HK5.out.keep hbo
              have d1 := K3.cell 1
              change wr.cell? _ = some (.int .i64 a1) at d1
              have z3' := K3.lt
              have HK3b := Lib.hid K3
              have hbd := banned_any T v T M ya a1 wr (HT5.out.keep hbo)
              rw [← HTL.out] at hbd
              have HBo6 := Lib.hid hbo
              clear hle hbo K18 K3 HLT HTL
              cases th
              · go_wp2_with fail
                refine hbd.mono ?_
                rintro e w6 ⟨rfl, hb6⟩
                have HBo7 := Lib.hid (below_step HBo6.out HBo6.out.size hb6)
                clear hbd hb6 d0 d1 z18 z3'
                go_wp2_with fail
                go_roundw
                case rel => exact ⟨k + 1, by omega, by simp, HBo7.out⟩
                case measure => simp [intOf]; omega
              · have qw : (wt != wt) = false := by simp
                go_wp2_with fail
                refine hbd.mono ?_
                rintro e w6 ⟨rfl, hb6⟩
                have HBo7 := Lib.hid (below_step HBo6.out HBo6.out.size hb6)
                have K7 := HK3b.out.keep hb6
                have d1 := K7.cell 1
                change w6.cell? _ = some (.int .i64 a1) at d1
                have z7 := K7.lt
                clear hbd hb6 d0 z18 z3' K7
                by_cases hn : a1 < wt
                · have e1 : decide (a1 < wt) = true := decide_eq_true hn
                  go_wp2_with fail
                  go_roundw
                  case rel => exact ⟨k + 1, by omega, by simp, HBo7.out⟩
                  case measure => simp [intOf]; omega
                · have e1 : decide (a1 < wt) = false := decide_eq_false hn
                  go_wp2_with fail
                  go_roundw
                  case rel => exact ⟨k + 1, by omega, by simp, HBo7.out⟩
                  case measure => simp [intOf]; omega
        · have j1 : decide ((k : Int) < (m : Int) + 1) = false := decide_eq_false (by omega)
          go_wp2_with fail
          go_ret
          exact ⟨rfl, HB5.out.trans (HBo.out.mono HB5.out.size)⟩

set_option maxRecDepth 100000 in
set_option maxHeartbeats 2000000 in
theorem lifted (os : Os) (started : os.Started) (H : Type) (enc : TypeId × Value → H) :
    ReturnsInHanded {} Try.checked os 3 .any (Rows.banPlaysSpec.pre6 enc Try.prog Try.f3 Rows.banPlaysRow.domain false) (Rows.banPlaysSpec.post enc Try.prog Try.f3 false true false false) := by
  refine returnsInHanded_of_change (C := Try.checked) own started (by kernel_rfl) Try.func3
    (ChangeSpec.witness6 (enc := enc) (C := Try.checked) false ⟨#[], #[.slice none 0 0, .agg #[.int .i64 0, .int .i64 0]], []⟩ 8 (by kernel_rfl) (by kernel_rfl) (by kernel_rfl) (by kernel_rfl)) ?_
  intro W base args ds gs before hval0 hW hcnd _
  have hval : ∀ (j : Nat) t v, Try.f3.params[j]? = some t → args[j]? = some v → Value.okWide Try.prog W .any base t v := hval0
  have hW' := hW
  obtain ⟨p, q, hA0, hV, rfl, hfz, hnd⟩ := hW
  have hA : DataW.TrodAll enc Try.prog W 0 (fun _ => true) true Try.f3.params.toList args.toList ds p := hA0
  rw [Try.params3] at hA hval
  obtain ⟨v0, vs0, d0, ds0, p0, q0, hargs, rfl, rfl, h0, r0⟩ := trodAll_cons hA
  obtain ⟨v1, vs1, d1, ds1, p1, q1, rfl, rfl, rfl, h1, r1⟩ := trodAll_cons r0
  obtain ⟨rfl, rfl, rfl⟩ := trodAll_nil r1
  obtain rfl : args = #[v0, v1] := by cases args; simp_all
  obtain ⟨rfl, rfl⟩ := trodVars_none hV
  have lt0 : ∀ x ∈ p0, x.block < W.heap.size := by obtain ⟨m, hm⟩ := h0; exact DataW.trod_lt m _ _ _ hm
  have lt1 : ∀ x ∈ p1, x.block < W.heap.size := by obtain ⟨m, hm⟩ := h1; exact DataW.trod_lt m _ _ _ hm
  obtain ⟨x0, hb0⟩ := ops_arg (hval 0 22 v0 rfl rfl) h0
  obtain ⟨x1, rfl⟩ := pair_arg (hval 1 23 v1 rfl rfl) h1
  clear hA0 hval0
  have hwalk := walk x0 x1 v0 W hb0
  refine hwalk.mono fun e W' ⟨he, bel⟩ => ?_
  subst he
  exact ⟨_, rfl, _, _, _, [], _, [], hW', trodAll_mk1 (shut_bool Try.underlying4 _), (trodAll_cons_mk (Below.trod laidOut (by kernel_rfl) (of_decide_eq_true (by kernel_rfl)) h0 bel lt0) (trodAll_cons_mk (Below.trod laidOut (by kernel_rfl) (of_decide_eq_true (by kernel_rfl)) h1 bel lt1) trodAll_mk0)), rfl, bel.frame _, fun h => by cases h⟩

theorem over : Rows.banPlaysRow.holds Try.pinned (OpenSpec.ofChange Rows.banPlaysSpec) :=
  OpenClaim.holds_of_wide 3 Try.f3 rfl rfl rfl rfl rfl rfl rfl ⟨rfl, rfl, rfl, rfl, rfl⟩ rfl rfl rfl rfl rfl (by kernel_rfl) Try.func3 (by kernel_rfl)
    (of_decide_eq_true (by kernel_rfl)) (by unfold Func.isWrapper; first | (rw [if_pos (by decide +kernel)]; kernel_rfl) | (rw [if_neg (by decide +kernel)]; exact ⟨rfl, rfl⟩))
    (fun os started H enc _ => lifted os started H enc)

theorem proved : Rows.BanPlaysSaid := over
#print axioms proved
end Go.Proofs.Ytckmkbnmbleegaa.banPlays
