/-
  The contract of the tree's Fits, by rules of which the bits never change.
-/
import Derived.Test.YtljfhabhenaapaaDoorFtR
namespace Go.Proofs.YtljfhabhenaapaaDoor
open Go.RowKit
set_option linter.unusedVariables false
set_option linter.unusedSimpArgs false
set_option maxRecDepth 100000
set_option maxHeartbeats 16000000 in
theorem fits_any {w : World} {p lo : Nat} {F : Nat → Prop} {r : Ru} {L : List Nd} (h : Tre w p lo F r L) (he : r.ev = 0) (x : Hd) (hx : IsHd x) (pI now : Int) (hnow : -9223372036854775808 ≤ now ∧ now ≤ 9223372036854775807) (hLd : Laid w) :
    Calls Tryd.prog 33 #[pv p, hdv x, .int .i64 pI, .int .i64 now] w fun e w' => e = .returned (.int .i64 ((fitsV L r.lim x pI now : Nat) : Int)) ∧ Below w.heap.size w w' := by
  show Calls Tryd.prog _ #[pv p, .agg (hdA x), .int .i64 pI, .int .i64 now] w _
  obtain ⟨w1, hw1⟩ : ∃ w1, w1 = w.alloc (.cells (hdA x) 32) := ⟨_, rfl⟩
  have hb1 : Below w.heap.size w w1 := by rw [hw1]; exact (Below.refl _ _).alloc (Nat.le_refl _) _
  have K1 : Bk w1 w.heap.size 32 (hdA x) := by rw [hw1]; exact Bk.new _ _ _
  have h1 := h.keep hb1
  have HH := Lib.hid (has_any h1 pI)
  have HT := Lib.hid h1
  have HLD := Lib.hid (hLd.keep hb1)
  have HB1 := Lib.hid hb1
  have HX := Lib.hid hx
  have HE := Lib.hid he
  have HK := Lib.hid K1
  unfold pv at HH ⊢
  obtain ⟨k0, hk0⟩ : ∃ k0, k0 = w.heap.size := ⟨_, rfl⟩
  rw [← hk0] at HK
  have HK0 := Lib.hid hk0
  by_cases hi : hasB L pI = true
  · rw [hi] at HH
    have hi2 := of_decide_eq_true hi
    obtain ⟨j, rfl⟩ : ∃ j : Nat, pI = (j : Int) := ⟨pI.toNat, by omega⟩
    have hj : j < L.length := by omega
    have HJ := Lib.hid hj
    have hnI : ¬ ¬ ((0 : Int) ≤ (j : Int) ∧ (j : Int) < (L.length : Int)) := Classical.not_not.2 ⟨by omega, by omega⟩
    have HNI := Lib.hid hnI
    obtain ⟨cd, hcd⟩ : ∃ cd, cd = provV x r.lim := ⟨_, rfl⟩
    have HCD := Lib.hid hcd
    obtain ⟨b, c, kk⟩ := h1.look
    obtain ⟨v, m, hV, _⟩ := h1
    have zp1 := kk.p1
    have HC0 := Lib.hid hV.c0
    have hlim := hV.hr.lim
    have hrg : w1.rangeAt k0 0 (hdL x) := by
      have := HK.out.range0
      unfold hdA at this
      simpa using this
    have zh1 := HK.out.lt
    have HPR : Hid (∀ W, Below w1.heap.size w1 W → Calls Tryd.prog 31 #[.agg (hdA x), .int .u32 (r.lim : Int)] W fun e w' => e = .returned (.int .i64 (cd : Int)) ∧ Below W.heap.size W w') := fun W hW => by
      rw [hcd]
      exact proved_any x r.lim W hx hlim (HLD.out.keep hW)
    have HBC : Hid (b = b) := rfl
    obtain ⟨fl, hfl⟩ : ∃ fl, fl = (ndA L j).fl := ⟨_, rfl⟩
    have HFL := Lib.hid hfl
    have HFA : Hid (∀ W, Below w1.heap.size w1 W → W.cell? ⟨p, 74, none⟩ = some (.slice (some ⟨b, 0, none⟩) L.length c) ∧ p < W.heap.size ∧ b < W.heap.size ∧ W.cell? ⟨b, j * 108 + 107, none⟩ = some (.bool fl)) := fun W hW =>
      ⟨(hW.cell (p := ⟨p, 74, none⟩) kk.p1).trans kk.c1, Nat.lt_of_lt_of_le kk.p1 hW.size, Nat.lt_of_lt_of_le kk.b1 hW.size, (hW.cell (p := ⟨b, j * 108 + 107, none⟩) kk.b1).trans (by rw [hfl]; exact (kk.at_ j hj).fl)⟩
    have HKW : Hid (∀ W, Below w1.heap.size w1 W → Bk W k0 32 (hdA x)) := fun W hW => HK.out.keep hW
    obtain ⟨n, hn⟩ : ∃ n, n = L.length := ⟨_, rfl⟩
    rw [← hn] at HFA hj
    clear kk hV hi2 hi hcd hfl hx he h hLd K1 hnI hn
    go_enter Tryd.func33, Tryd.ntmps33
    go_upto_region 1 with fail
    rw [← hw1, ← hk0]
    clear hw1 hk0 hb1
    go_wp2_with fail
    refine HH.out.mono ?_
    rintro e w9 ⟨rfl, rfl⟩
    go_upto_region 3 with fail
    refine fits3 p k0 r.lim cd x w9 _ _ _ _ _ _ _ _ _ _ _ _ _ _ _ _ _ _ _ _ _ _ _ _ _ _ _ _ _ _ _ _ _ _ _ _ _ _ _ _ _ _ _ _ _ _ _ _ _ _ _ _ _ zp1 zh1 HC0 HX.out hrg HPR (Lib.hid (fun x14 x15 x16 x17 x18 x19 x20 w2 hb2 => ?_))
    have HB2 := Lib.hid hb2
    clear hb2 hrg zp1 zh1
    by_cases hc0 : cd = 0
    · subst hc0
      have hpv : ¬ (provV x r.lim ≠ 0) := by rw [← HCD.out]; simp
      have HPV := Lib.hid hpv
      obtain ⟨c74, zp2, zb2, cfl⟩ := HFA.out w2 HB2.out
      cases hfl : fl with
      | true =>
        rw [hfl] at cfl
        have HR : Hid (fitsV L r.lim x (j : Int) now = 101) := by
          show _ = _
          unfold fitsV
          rw [if_neg HNI.out, if_neg hpv, Int.toNat_natCast, if_pos (by rw [← HFL.out]; exact hfl)]
        have HE2 := Lib.hid (HB1.out.trans (HB2.out.mono HB1.out.size))
        clear hpv hfl
        go_wp2_with fail
        go_ret
        exact ⟨by rw [HR.out]; rfl, HE2.out⟩
      | false =>
        rw [hfl] at cfl
        have hff : ¬ ((ndA L j).fl = true) := by rw [← HFL.out, hfl]; simp
        have HFF := Lib.hid hff
        have K2 := HKW.out w2 HB2.out
        have zh2 := K2.lt
        have HKK2 := Lib.hid K2
        obtain ⟨nb, hnb⟩ : ∃ nb, nb = (ndA L j).h.b := ⟨_, rfl⟩
        have HNB := Lib.hid hnb
        have HCY : Hid (w2.cell? ⟨k0, 66, none⟩ = some (.int .u32 (x.b : Int))) := (K2.cell 66).trans (hdA_b HX.out)
        have HCA : Hid (∀ W, Below w2.heap.size w2 W → Calls Tryd.prog 25 #[.pointer (some ⟨p, 0, none⟩), .int .i64 (j : Int)] W fun e w' => e = .returned (.int .u32 (nb : Int)) ∧ Below W.heap.size W w') := fun W hW => by
          rw [hnb]
          exact next_any ((HT.out.keep HB2.out).keep hW) HE.out j HJ.out
        have hbv : ((x.b : Int) != (nb : Int)) = decide (x.b ≠ nb) := by
          by_cases e : x.b = nb
          · rw [e]; simp
          · have : ¬ ((x.b : Int) = (nb : Int)) := by omega
            simp [this, e]
        obtain ⟨bv, hbve⟩ : ∃ bv, bv = decide (x.b ≠ nb) := ⟨_, rfl⟩
        rw [← hbve] at hbv
        have HBV := Lib.hid hbve
        clear hff hfl K2 hnb hbve hpv
        go_upto_region 8 with fail
        refine fits8 p k0 j nb x.b bv w2 _ _ _ _ _ _ _ _ _ _ _ _ _ _ _ _ _ _ _ _ _ _ _ _ _ _ _ _ _ _ _ _ _ _ _ _ _ _ _ _ _ _ _ _ _ _ _ _ _ _ _ _ zh2 HCY hbv HCA (Lib.hid (fun x34 x35 x36 x37 x38 x39 w3 hb3 => ?_))
        have HB3 := Lib.hid (HB2.out.trans (hb3.mono HB2.out.size))
        clear hb3 hbv HCY zh2 c74 zp2 zb2 cfl HKK2
        cases hbq : bv with
        | true =>
          have hne : x.b ≠ (ndA L j).h.b := by rw [← HNB.out]; exact of_decide_eq_true (HBV.out.symm.trans hbq)
          have HR : Hid (fitsV L r.lim x (j : Int) now = 30) := by
            show _ = _
            unfold fitsV
            rw [if_neg HNI.out, if_neg HPV.out, Int.toNat_natCast, if_neg HFF.out, if_pos hne]
          have HE2 := Lib.hid (HB1.out.trans (HB3.out.mono HB1.out.size))
          clear hne hbq
          go_wp2_with fail
          go_ret
          exact ⟨by rw [HR.out]; rfl, HE2.out⟩
        | false =>
          have hne : ¬ (x.b ≠ (ndA L j).h.b) := by rw [← HNB.out]; exact of_decide_eq_false (HBV.out.symm.trans hbq)
          have HNE := Lib.hid hne
          have K3 := HKW.out w3 HB3.out
          have zh3 := K3.lt
          have ct3 := Lib.hid ((K3.cell 65).trans (hdA_t HX.out))
          obtain ⟨md, hmd⟩ : ∃ md, md = medN L j := ⟨_, rfl⟩
          have HMD := Lib.hid hmd
          have HCA : Hid (∀ W, Below w3.heap.size w3 W → Calls Tryd.prog 24 #[.pointer (some ⟨p, 0, none⟩), .int .i64 (j : Int)] W fun e w' => e = .returned (.int .u32 (md : Int)) ∧ Below W.heap.size W w') := fun W hW => by
            rw [hmd]
            exact med_any ((HT.out.keep HB3.out).keep hW) j HJ.out
          obtain ⟨bw, hbw⟩ : ∃ bw, bw = decide (x.t ≤ md) := ⟨_, rfl⟩
          have hbw2 : decide (x.t ≤ md) = bw ∧ decide ((x.t : Int) ≤ (md : Int)) = bw := ⟨hbw.symm, by rw [hbw]; exact decide_eq_decide.2 ⟨fun h => by omega, fun h => by omega⟩⟩
          have HBW := Lib.hid hbw
          clear hne hbq K3 hmd hbw HNB HBV
          go_upto_region 10 with fail
          refine fits10 p k0 j md x.t bw w3 _ _ _ _ _ _ _ _ _ _ _ _ _ _ _ _ _ _ _ _ _ _ _ _ _ _ _ _ _ _ _ _ _ _ _ _ _ _ _ _ _ _ _ _ _ _ _ _ _ _ _ _ zh3 ct3 hbw2 HCA (Lib.hid (fun x41 x42 x43 x44 x45 x46 w4 hb4 => ?_))
          have HB4 := Lib.hid (HB3.out.trans (hb4.mono HB3.out.size))
          clear hb4 hbw2 ct3 zh3
          cases hbq2 : bw with
          | true =>
            have hle : x.t ≤ medN L j := by rw [← HMD.out]; exact of_decide_eq_true (HBW.out.symm.trans hbq2)
            have HR : Hid (fitsV L r.lim x (j : Int) now = 102) := by
              show _ = _
              unfold fitsV
              rw [if_neg HNI.out, if_neg HPV.out, Int.toNat_natCast, if_neg HFF.out, if_neg HNE.out, if_pos hle]
            have HE2 := Lib.hid (HB1.out.trans (HB4.out.mono HB1.out.size))
            clear hle hbq2
            go_wp2_with fail
            go_ret
            exact ⟨by rw [HR.out]; rfl, HE2.out⟩
          | false =>
            have hle : ¬ (x.t ≤ medN L j) := by rw [← HMD.out]; exact of_decide_eq_false (HBW.out.symm.trans hbq2)
            have K4 := HKW.out w4 HB4.out
            have zh4 := K4.lt
            have ct4 := (K4.cell 65).trans (hdA_t HX.out)
            have hxt := HX.out.t
            have HE2 := Lib.hid (HB1.out.trans (HB4.out.mono HB1.out.size))
            have HRR : Hid (fitsV L r.lim x (j : Int) now = if now < (x.t : Int) - 7200 then 103 else 0) := by
              show _ = _
              unfold fitsV
              rw [if_neg HNI.out, if_neg HPV.out, Int.toNat_natCast, if_neg HFF.out, if_neg HNE.out, if_neg hle]
            obtain ⟨xt, hxte⟩ : ∃ xt, xt = x.t := ⟨_, rfl⟩
            rw [← hxte] at ct4 hxt HRR
            have w1w : IntKind.i64.wrap (xt : Int) = (xt : Int) := IntWalk.i64_in _ (by omega)
            have w2w : IntKind.i64.wrap ((xt : Int) - 7200) = (xt : Int) - 7200 := IntWalk.i64_in _ (by omega)
            clear hle hbq2 K4 hxte
            by_cases hnw : now < (xt : Int) - 7200
            · have d1 : decide (now < (xt : Int) - 7200) = true := decide_eq_true hnw
              have HR : Hid (fitsV L r.lim x (j : Int) now = 103) := by
                show _ = _
                rw [HRR.out, if_pos hnw]
              clear hnw HRR
              go_wp2_with fail
              go_ret
              exact ⟨by rw [HR.out]; rfl, HE2.out⟩
            · have d1 : decide (now < (xt : Int) - 7200) = false := decide_eq_false hnw
              have HR : Hid (fitsV L r.lim x (j : Int) now = 0) := by
                show _ = _
                rw [HRR.out, if_neg hnw]
              clear hnw HRR
              go_wp2_with fail
              go_ret
              exact ⟨by rw [HR.out]; rfl, HE2.out⟩
    · have d1 : ((cd : Int) != 0) = true := by simp; omega
      have HR : Hid (fitsV L r.lim x (j : Int) now = cd) := by
        show _ = _
        unfold fitsV
        rw [if_neg HNI.out, if_pos (by rw [← HCD.out]; exact hc0)]
        exact HCD.out.symm
      have HE2 := Lib.hid (HB1.out.trans (HB2.out.mono HB1.out.size))
      clear hc0
      go_wp2_with fail
      go_ret
      exact ⟨by rw [HR.out]; rfl, HE2.out⟩
  · have hi' : hasB L pI = false := by cases e : hasB L pI with
      | true => exact absurd e hi
      | false => rfl
    rw [hi'] at HH
    have HR : Hid (fitsV L r.lim x pI now = 100) := by
      show _ = _
      unfold fitsV
      rw [if_pos (of_decide_eq_false hi')]
    clear hi hi' h hx K1 h1
    go_enter Tryd.func33, Tryd.ntmps33
    go_upto_region 1 with fail
    rw [← hw1, ← hk0]
    clear hw1 hk0
    go_wp2_with fail
    refine HH.out.mono ?_
    rintro e w9 ⟨rfl, rfl⟩
    go_wp2_with fail
    go_ret
    exact ⟨by rw [HR.out]; rfl, HB1.out⟩
end Go.Proofs.YtljfhabhenaapaaDoor
