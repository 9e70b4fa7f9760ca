/-
  Contracts of package index: Ancestor, On, skip.
-/
import Derived.Test.YtljfhabhenaapaaDoorIxA
namespace Go.Proofs.YtljfhabhenaapaaDoor
open Go.RowKit
set_option linter.unusedVariables false
set_option linter.unusedSimpArgs false
set_option maxRecDepth 100000

/-- What a walk along the tree needs of it. -/
structure Look (w : World) (p : Nat) (b c : Nat) (L : List Nd) : Prop where
  ok : TreeOk L
  p1 : p < w.heap.size
  c1 : w.cell? ⟨p, 74, none⟩ = some (.slice (some ⟨b, 0, none⟩) L.length c)
  b1 : b < w.heap.size
  at_ : ∀ i, i < L.length → NdAt w b (i * 108) (ndA L i)
theorem Tre.look {w : World} {p lo : Nat} {F : Nat → Prop} {r : Ru} {L : List Nd} (h : Tre w p lo F r L) : ∃ b c, Look w p b c L := by
  obtain ⟨v, m, h, _⟩ := h
  obtain ⟨b, c, rfl, hb, _, ha, _⟩ := h.rows
  exact ⟨b, c, h.ok, h.blk.lt, h.c74, hb, ha⟩
theorem hasB_nat {L : List Nd} {i : Nat} : hasB L (i : Int) = decide (i < L.length) := by
  unfold hasB
  exact decide_eq_decide.2 ⟨fun h => by omega, fun h => ⟨by omega, by omega⟩⟩
theorem sk_anc {L : List Nd} (T : TreeOk L) {x : Nat} (h0 : 0 < x) (hx : x < L.length) : (ndA L x).sk < x ∧ (ndA L x).sk < L.length ∧ ∀ a, a ≤ (ndA L (ndA L x).sk).ht → anc L (ndA L x).sk a = anc L x a := by
  obtain ⟨k, h1, h2, h3⟩ := T.skp x h0 hx
  have hp := T.par_lt h0 hx
  obtain ⟨m, rfl⟩ : ∃ m, k = m + 1 := ⟨k - 1, by omega⟩
  have h4 : up L x (m + 1) = up L (parN L x) m := rfl
  have h5 := up_lt T m (i := parN L x) (Nat.lt_trans hp.1 hx)
  have h6 := up_ht T (m + 1) hx h2
  rw [h3]
  refine ⟨by rw [h4]; exact Nat.lt_of_le_of_lt h5.2 hp.1, by rw [h4]; exact h5.1, fun a ha => ?_⟩
  rw [h6] at ha
  exact anc_up T hx h2 ha
set_option maxHeartbeats 8000000 in
theorem anc_any {w : World} {p lo : Nat} {F : Nat → Prop} {r : Ru} {L : List Nd} (h : Tre w p lo F r L) (i ht : Int) (hL : L.length < 1000000) :
    Calls Tryd.prog 12 #[pv p, .int .i64 i, .int .i64 ht] w fun e w' => e = .returned (.int .i64 (ancI L i ht)) ∧ w' = w := by
  have HH := Lib.hid (has_any h i)
  unfold pv at HH ⊢
  obtain ⟨b, c, k⟩ := h.look
  have z := k.p1
  have c1 := k.c1
  have zb := k.b1
  have T := k.ok
  have HK := Lib.hid k
  by_cases hi : 0 ≤ i ∧ i < (L.length : Int)
  · obtain ⟨j, rfl⟩ : ∃ j : Nat, i = (j : Int) := ⟨i.toNat, by omega⟩
    have hj : j < L.length := by omega
    have e1 : hasB L (j : Int) = true := by rw [hasB_nat]; exact decide_eq_true hj
    rw [e1] at HH
    have hA := k.at_ j hj
    have ch := hA.ht
    by_cases h0 : ht < 0
    · have d0 : decide (ht < 0) = true := decide_eq_true h0
      have ev : ancI L (j : Int) ht = -1 := by unfold ancI; rw [if_neg (by omega)]
      rw [ev]
      clear k hA e1 hi ev h0 h
      generalize (ndA L j).ht = q at *
      generalize L.length = n at *
      go_enter Tryd.func12, Tryd.ntmps12
      go_wp2_with fail
      refine HH.out.mono ?_
      rintro e w1 ⟨rfl, rfl⟩
      go_wp2_with fail
      go_ret
      exact ⟨rfl, rfl⟩
    have d0 : decide (ht < 0) = false := decide_eq_false h0
    by_cases h1 : ((ndA L j).ht : Int) < ht
    · have d1 : decide (((ndA L j).ht : Int) < ht) = true := decide_eq_true h1
      have ev : ancI L (j : Int) ht = -1 := by unfold ancI; rw [if_neg (by rw [Int.toNat_natCast]; omega)]
      rw [ev]
      clear k hA e1 hi ev h0 h h1
      generalize (ndA L j).ht = q at *
      generalize L.length = n at *
      go_enter Tryd.func12, Tryd.ntmps12
      go_wp2_with fail
      refine HH.out.mono ?_
      rintro e w1 ⟨rfl, rfl⟩
      go_wp2_with fail
      go_ret
      exact ⟨rfl, rfl⟩
    have d1 : decide (((ndA L j).ht : Int) < ht) = false := decide_eq_false h1
    obtain ⟨a, rfl⟩ : ∃ a : Nat, ht = (a : Int) := ⟨ht.toNat, by omega⟩
    have haj : a ≤ (ndA L j).ht := by omega
    have ev : ancI L (j : Int) (a : Int) = (anc L j a : Int) := by
      unfold ancI
      rw [Int.toNat_natCast, Int.toNat_natCast, if_pos ⟨by omega, by omega, by omega, by omega⟩]
    rw [ev]
    have hnL : Hid (∀ i, i < L.length → NdAt w b (i * 108) (ndA L i)) := k.at_
    have HA0 : Hid (j < L.length ∧ a ≤ (ndA L j).ht) := ⟨hj, haj⟩
    have HT := Lib.hid T
    have HLN := Lib.hid hL
    clear k hA e1 hi ev h0 h1 h T hL
    obtain ⟨q, hq⟩ : ∃ q, q = (ndA L j).ht := ⟨_, rfl⟩
    rw [← hq] at d1 ch haj
    have d2 : decide (q < a) = false := decide_eq_false (by omega)
    clear hq haj
    obtain ⟨n, hn⟩ : ∃ n, n = L.length := ⟨_, rfl⟩
    have HN := Lib.hid hn
    rw [← hn] at hj c1
    clear hn
    obtain ⟨goal, hg⟩ : ∃ g, g = anc L j a := ⟨_, rfl⟩
    rw [← hg]
    have HG := Lib.hid hg
    clear hg
    go_enter Tryd.func12, Tryd.ntmps12
    go_wp2_with fail
    refine HH.out.mono ?_
    rintro e w1 ⟨rfl, rfl⟩
    go_wp2_with fail
    go_loopw [1] (fun iv wr => ∃ x : Nat, iv = .int .i64 (x : Int) ∧ Hid (x < L.length ∧ a ≤ (ndA L x).ht ∧ goal = anc L x a) ∧ wr = w1) (fun iv _ => (intOf iv).toNat)
    case atStart => exact ⟨j, rfl, ⟨HA0.out.1, HA0.out.2, HG.out⟩, rfl⟩
    case round =>
      obtain ⟨x, rfl, HX, rfl⟩ := hrel
      obtain ⟨hxl, hxa, hxg⟩ := HX.out
      have cx := (hnL.out x hxl).ht
      have T := HT.out
      have HXG := Lib.hid hxg
      clear HX hxg HA0 HG
      obtain ⟨hv, hhv⟩ : ∃ v, v = (ndA L x).ht := ⟨_, rfl⟩
      rw [← hhv] at cx hxa
      by_cases hgt : a < hv
      · have d4 : decide (a < hv) = true := decide_eq_true hgt
        have d5 : decide ((a : Int) < (hv : Int)) = true := decide_eq_true (by omega)
        have hx0 : 0 < x := (T.ht_pos hxl).1 (by omega)
        have hS := sk_anc T hx0 hxl
        have hP := T.par_lt hx0 hxl
        have cs := (hnL.out x hxl).sk
        have cp := (hnL.out x hxl).pr
        rw [hP.2.2.1] at cp
        have ct := (hnL.out _ hS.2.1).ht
        have HS1 := Lib.hid hS
        have HP1 := Lib.hid hP
        have hanc : anc L (parN L x) a = anc L x a := anc_par T hx0 hxl (by omega)
        have HPA := Lib.hid hanc
        have HXL := Lib.hid hxl
        have HHV := Lib.hid hhv
        have hsl : (ndA L x).sk < n := by rw [HN.out]; exact hS.2.1
        have hxn : x < n := by rw [HN.out]; exact hxl
        have hsx := hS.1
        have hpx := hP.1
        clear hS hP hanc T hx0 hxl hgt hhv
        obtain ⟨sv, hsv⟩ : ∃ v, v = (ndA L x).sk := ⟨_, rfl⟩
        have HSV := Lib.hid hsv
        rw [← hsv] at cs ct hsl hsx
        clear hsv
        obtain ⟨sh, hsh⟩ : ∃ v, v = (ndA L sv).ht := ⟨_, rfl⟩
        have HSH := Lib.hid hsh
        rw [← hsh] at ct
        clear hsh
        obtain ⟨px, hpx2⟩ : ∃ v, v = parN L x := ⟨_, rfl⟩
        have HPX := Lib.hid hpx2
        rw [← hpx2] at cp hpx
        clear hpx2
        by_cases hlt : sh < a
        · have d6 : decide (sh < a) = true := decide_eq_true hlt
          have d7 : decide ((sh : Int) < (a : Int)) = true := decide_eq_true (by omega)
          have HNEW : Hid (px < L.length ∧ a ≤ (ndA L px).ht ∧ goal = anc L px a) := by
            have h1 := HP1.out
            rw [← HPX.out] at h1
            refine ⟨by have := HXL.out; omega, by have := HHV.out; have := of_decide_eq_true d4; omega, ?_⟩
            rw [HXG.out, HPX.out]
            exact HPA.out.symm
          clear hlt
          go_wp2_with fail
          go_roundw
          case rel => exact ⟨px, rfl, HNEW, trivial⟩
          case measure => simp [intOf]; omega
        · have d6 : decide (sh < a) = false := decide_eq_false hlt
          have d7 : decide ((sh : Int) < (a : Int)) = false := decide_eq_false (by omega)
          have HNEW : Hid (sv < L.length ∧ a ≤ (ndA L sv).ht ∧ goal = anc L sv a) := by
            have h1 := HS1.out
            rw [← HSV.out] at h1
            refine ⟨h1.2.1, by rw [← HSH.out]; omega, ?_⟩
            rw [HXG.out, h1.2.2 a (by rw [← HSH.out]; omega)]
          clear hlt
          go_wp2_with fail
          go_roundw
          case rel => exact ⟨sv, rfl, HNEW, trivial⟩
          case measure => simp [intOf]; omega
      · obtain rfl : hv = a := by omega
        have d4 : decide (hv < hv) = false := decide_eq_false (by omega)
        have d5 : decide ((hv : Int) < (hv : Int)) = false := decide_eq_false (by omega)
        have hxn : x < n := by rw [HN.out]; exact hxl
        have hgx : goal = x := by rw [HXG.out, hhv]; exact anc_self
        have HGX := Lib.hid hgx
        clear hgx hgt hxa hhv hxl T
        go_wp2_with fail
        go_ret
        exact ⟨by rw [HGX.out]; rfl, rfl⟩
  · have e1 : hasB L i = false := decide_eq_false hi
    rw [e1] at HH
    have ev : ancI L i ht = -1 := by unfold ancI; rw [if_neg (fun hc => hi ⟨hc.1, hc.2.1⟩)]
    rw [ev]
    clear k e1 hi ev h T HK zb c1 z hL
    go_enter Tryd.func12, Tryd.ntmps12
    go_wp2_with fail
    refine HH.out.mono ?_
    rintro e w1 ⟨rfl, rfl⟩
    go_wp2_with fail
    go_ret
    exact ⟨rfl, rfl⟩
set_option maxHeartbeats 4000000 in
theorem on_any {w : World} {p lo : Nat} {F : Nat → Prop} {r : Ru} {L : List Nd} (h : Tre w p lo F r L) (i tip : Int) (hL : L.length < 1000000) :
    Calls Tryd.prog 13 #[pv p, .int .i64 i, .int .i64 tip] w fun e w' => e = .returned (.bool (onB L i tip)) ∧ w' = w := by
  have HH := Lib.hid (has_any h i)
  have HA := Lib.hid (fun a => anc_any h tip a hL)
  unfold pv at HH HA ⊢
  obtain ⟨b, c, k⟩ := h.look
  have z := k.p1
  have c1 := k.c1
  have zb := k.b1
  clear hL
  by_cases hi : 0 ≤ i ∧ i < (L.length : Int)
  · obtain ⟨j, rfl⟩ : ∃ j : Nat, i = (j : Int) := ⟨i.toNat, by omega⟩
    have hj : j < L.length := by omega
    have e1 : hasB L (j : Int) = true := by rw [hasB_nat]; exact decide_eq_true hj
    rw [e1] at HH
    have hA := k.at_ j hj
    have ch := hA.ht
    have ev : onB L (j : Int) tip = decide (ancI L tip ((ndA L j).ht : Int) = (j : Int)) := by
      unfold onB
      rw [Int.toNat_natCast, decide_eq_true hi, Bool.true_and]
    rw [ev]
    clear k hA e1 hi ev h
    generalize (ndA L j).ht = q at *
    have HA := Lib.hid (HA.out (q : Int))
    obtain ⟨n, hn⟩ : ∃ n, n = L.length := ⟨_, rfl⟩
    rw [← hn] at hj c1
    clear hn
    generalize ancI L tip (q : Int) = A at *
    by_cases e : A = (j : Int)
    · have d1 : (A == (j : Int)) = true := by simp [e]
      rw [decide_eq_true e]
      clear e
      go_enter Tryd.func13, Tryd.ntmps13
      go_wp2_with fail
      refine HH.out.mono ?_
      rintro e w1 ⟨rfl, rfl⟩
      go_wp2_with fail
      refine HA.out.mono ?_
      rintro e w1 ⟨rfl, rfl⟩
      go_wp2_with fail
      go_ret
      exact ⟨rfl, rfl⟩
    · have d1 : (A == (j : Int)) = false := by simp [e]
      rw [decide_eq_false e]
      clear e
      go_enter Tryd.func13, Tryd.ntmps13
      go_wp2_with fail
      refine HH.out.mono ?_
      rintro e w1 ⟨rfl, rfl⟩
      go_wp2_with fail
      refine HA.out.mono ?_
      rintro e w1 ⟨rfl, rfl⟩
      go_wp2_with fail
      go_ret
      exact ⟨rfl, rfl⟩
  · have e1 : hasB L i = false := decide_eq_false hi
    rw [e1] at HH
    have ev : onB L i tip = false := by unfold onB; rw [decide_eq_false hi, Bool.false_and]
    rw [ev]
    clear k e1 hi ev h zb c1 z HA
    go_enter Tryd.func13, Tryd.ntmps13
    go_wp2_with fail
    refine HH.out.mono ?_
    rintro e w1 ⟨rfl, rfl⟩
    go_wp2_with fail
    go_ret
    exact ⟨rfl, rfl⟩
set_option maxHeartbeats 8000000 in
theorem skip_any {w : World} {p lo : Nat} {F : Nat → Prop} {r : Ru} {L : List Nd} (h : Tre w p lo F r L) (j : Nat) (hj : j < L.length) (hL : L.length < 1000000) :
    Calls Tryd.prog 35 #[pv p, .int .i64 (j : Int)] w fun e w' => e = .returned (.int .i64 (skipN L j : Int)) ∧ Below w.heap.size w w' := by
  unfold pv
  obtain ⟨b, c, k⟩ := h.look
  have z := k.p1
  have c1 := k.c1
  have zb := k.b1
  have T := k.ok
  have s1 := T.sk_lt hj
  have s2 := T.sk_lt s1.1
  have a1 := (k.at_ j hj).sk
  have b1 := (k.at_ j hj).ht
  have a2 := (k.at_ _ s1.1).sk
  have b2 := (k.at_ _ s1.1).ht
  have b3 := (k.at_ _ s2.1).ht
  have m1 := T.ht_le hj
  have m2 := T.ht_le s1.1
  have m3 := T.ht_le s2.1
  have hs1 := s1.1
  have hs2 := s2.1
  have HV : Hid (skipN L j = if ((ndA L j).ht : Int) - ((ndA L (ndA L j).sk).ht : Int) = ((ndA L (ndA L j).sk).ht : Int) - ((ndA L (ndA L (ndA L j).sk).sk).ht : Int) then (ndA L (ndA L j).sk).sk else j) := rfl
  clear k T s1 s2 h
  generalize skipN L j = R at *
  generalize (ndA L (ndA L (ndA L j).sk).sk).ht = h3 at *
  generalize (ndA L (ndA L j).sk).ht = h2 at *
  generalize (ndA L (ndA L j).sk).sk = sk2 at *
  generalize (ndA L j).ht = h1 at *
  generalize (ndA L j).sk = sk1 at *
  have i1 : (h1 : Int) - (h2 : Int) < 9223372036854775808 := by omega
  have i2 : -9223372036854775808 ≤ (h1 : Int) - (h2 : Int) := by omega
  have i3 : (h2 : Int) - (h3 : Int) < 9223372036854775808 := by omega
  have i4 : -9223372036854775808 ≤ (h2 : Int) - (h3 : Int) := by omega
  have w1 : IntKind.i64.wrap ((h1 : Int) - (h2 : Int)) = (h1 : Int) - (h2 : Int) := IntWalk.i64_in _ (by omega)
  have w2 : IntKind.i64.wrap ((h2 : Int) - (h3 : Int)) = (h2 : Int) - (h3 : Int) := IntWalk.i64_in _ (by omega)
  obtain ⟨n, hn⟩ : ∃ n, n = L.length := ⟨_, rfl⟩
  rw [← hn] at hj c1 hs1 hs2
  clear hn m1 m2 m3 hL
  by_cases e : (h1 : Int) - (h2 : Int) = (h2 : Int) - (h3 : Int)
  · have d1 : (((h1 : Int) - (h2 : Int)) == ((h2 : Int) - (h3 : Int))) = true := by simp [e]
    have eR : R = sk2 := by rw [HV.out, if_pos e]
    subst eR
    clear e HV
    go_enter Tryd.func35, Tryd.ntmps35
    go_upto_region 3 with fail
    go_still (by kernel_rfl)
    go_wp2_with fail
    go_ret
    exact ⟨rfl, (Below.refl _ _).drew⟩
  · have d1 : (((h1 : Int) - (h2 : Int)) == ((h2 : Int) - (h3 : Int))) = false := by simp [e]
    have eR : R = j := by rw [HV.out, if_neg e]
    subst eR
    clear e HV
    go_enter Tryd.func35, Tryd.ntmps35
    go_upto_region 3 with fail
    go_still (by kernel_rfl)
    go_wp2_with fail
    go_ret
    exact ⟨rfl, (Below.refl _ _).drew⟩
end Go.Proofs.YtljfhabhenaapaaDoor
