/-
  The contract of the law's own 'clash': of two unlike lists of as many sums with one root it finds two unlike pairs with one sum.
-/
import Derived.Test.YtecmgojecjenmaaDoorMonR
import Derived.Test.YtecmgojecjenmaaDoorMonS
import Derived.Deep.RegionHeld3
namespace Go.Proofs.YtecmgojecjenmaaDoor.merkleOne
open Go.ChangeShapes Go.WideShapes Go.ChangeAt Go.RowKit
open Go.Proofs.YtecmgojecjenmaaDoor.merkleOther
set_option linter.unusedVariables false
set_option linter.unusedSimpArgs false
set_option maxRecDepth 100000 in
set_option maxHeartbeats 8000000 in
theorem clash_any (A B : List (List Nat)) (v u : Value) (w : World) (hL : Laid w) (hv : IdsV w w.heap.size v A) (hu : IdsV w w.heap.size u B) (hl : A.length = B.length) (hne : A ≠ B) (hr : (rootW A false).1 = (rootW B false).1) (hn : A.length ≤ 100000) :
    Calls Tryd.prog 16 #[v, u] w fun e w' => e = .returned (.bool true) ∧ Below w.heap.size w w' := by
  have HL := Lib.hid hL
  have HV := Lib.hid hv
  have HU := Lib.hid hu
  have HLN := Lib.hid hl
  have HNE : Hid (A ≠ B) := hne
  have HRT := Lib.hid hr
  have HN := Lib.hid hn
  clear hL hv hu hl hne hr hn
  go_enter Tryd.func16, Tryd.ntmps16
  go_wp2_with fail
  go_loopw [0, 1] (fun av bv wr => ∃ (A' B' : List (List Nat)), Hid (IdsV wr wr.heap.size av A') ∧ Hid (IdsV wr wr.heap.size bv B') ∧ Hid (A'.length = B'.length) ∧ Hid (A' ≠ B') ∧ Hid ((rootW A' false).1 = (rootW B' false).1) ∧ Hid (A'.length ≤ 100000) ∧ Hid (Below w.heap.size w wr)) (fun av _ _ => lenS av)
  case atStart => exact ⟨A, B, HV.out, HU.out, HLN.out, HNE.out, HRT.out, HN.out, Below.refl _ _⟩
  case round =>
    clear HV HU HLN HNE HRT HN
    obtain ⟨A', B', HA, HB, HLN, HNE, HRT, HN, hWr⟩ := hrel
    generalize wr = wo at *
    have h1 := one_more A' B' HLN.out HNE.out HRT.out
    obtain ⟨sA, cA, e1⟩ := HA.out.slice
    obtain ⟨sB, cB, e2⟩ := HB.out.slice
    subst e1
    subst e2
    obtain ⟨bA, oA, rfl, hbA, _, hrA⟩ := HA.out.at_ (fun h => by rw [h] at h1; simp at h1)
    obtain ⟨bB, oB, rfl, hbB, _, hrB⟩ := HB.out.at_ (fun h => by have e := HLN.out; rw [h] at e; simp at e; rw [e] at h1; simp at h1)
    have HRA : Hid (∀ j, j < A'.length → wo.rangeAt bA (oA + j * 32) (idA (nthI A' j)).toList) := fun j h => hrA j _ (nthI_get h)
    have HRB : Hid (∀ j, j < A'.length → wo.rangeAt bB (oB + j * 32) (idA (nthI B' j)).toList) := fun j h => hrB j _ (nthI_get (by have := HLN.out; omega))
    have HIA := Lib.hid HA.out.ids
    have HIB := Lib.hid HB.out.ids
    have eB := HLN.out.symm
    obtain ⟨n, hnn⟩ : ∃ n, n = A'.length := ⟨_, rfl⟩
    have HNN := Lib.hid hnn
    rw [eB, ← hnn]
    obtain ⟨m, hm⟩ : ∃ m, m = (n + 1) / 2 := ⟨_, rfl⟩
    have HM := Lib.hid hm
    have hn2 : 1 < n := by omega
    have hnmax : n ≤ 100000 := by have := HN.out; omega
    have hd : decide ((1 : Int) < (n : Int)) = true := decide_eq_true (by omega)
    have hd' : decide (1 < n) = true := decide_eq_true hn2
    have HLr := Lib.hid (HL.out.below hWr.out HL.out.size)
    clear hrA hrB eB hnn h1 hm
    rw [← HNN.out] at HRA HRB
    go_wp2_with fail
    go_loopw [5, 6, 7] (fun xv yv iv wr => ∃ (t i : Nat) (xx yy : Value), xx = xv ∧ yy = yv ∧ t ≤ m ∧ Hid (i = 2 * t) ∧ iv = .int .i64 (i : Int) ∧ Hid (MineI wr wo.heap.size xv (aboveP A' t)) ∧ Hid (MineI wr wo.heap.size yv (aboveP B' t)) ∧ Hid (Apart xv yv) ∧ Hid (Below wo.heap.size wo wr) ∧ Hid (∀ t', t' < t → H2 (nthI A' (2 * t')) (nthI A' (besideN (2 * t') n)) = H2 (nthI B' (2 * t')) (nthI B' (besideN (2 * t') n)) → nthI A' (2 * t') = nthI B' (2 * t') ∧ nthI A' (besideN (2 * t') n) = nthI B' (besideN (2 * t') n))) (fun _ _ iv _ => 2 * m - (intOf iv).toNat)
    case atStart => exact ⟨0, 0, _, _, rfl, rfl, Nat.zero_le _, rfl, rfl, .inl ⟨rfl, rfl⟩, .inl ⟨rfl, rfl⟩, (fun b o n c e => by cases e), Below.refl _ _, fun t' h => absurd h (Nat.not_lt_zero _)⟩
    case round =>
      obtain ⟨t, i, xv, yv, e5, e6, ht, HI2, e7, MX, MY, HAP, hWi, HCL⟩ := hrel
      subst e5
      subst e6
      subst e7
      by_cases hlt : i < n
      · have hdi : decide ((i : Int) < (n : Int)) = true := decide_eq_true (by omega)
        have hdi' : decide (i < n) = true := decide_eq_true hlt
        obtain ⟨k, hk⟩ : ∃ k, k = besideN i n := ⟨_, rfl⟩
        have hkn : k < n := by rw [hk]; exact besideN_lt _ _ hlt
        have eK : Hid ((if (n : Int) - 1 < (i : Int) + 1 then (n : Int) - 1 else (i : Int) + 1) = (k : Int)) := by
          have := HI2.out
          have hb : besideN i n = min (i + 1) (n - 1) := by unfold besideN; rw [if_neg (by omega)]
          show _ = _
          rw [hk, hb]
          split <;> omega
        have HKE := Lib.hid hk
        clear hk
        obtain ⟨x, hx⟩ : ∃ x, x = nthI A' i := ⟨_, rfl⟩
        obtain ⟨y, hy⟩ : ∃ y, y = nthI A' k := ⟨_, rfl⟩
        obtain ⟨p, hp⟩ : ∃ p, p = nthI B' i := ⟨_, rfl⟩
        obtain ⟨q, hq⟩ : ∃ q, q = nthI B' k := ⟨_, rfl⟩
        have HXE : Hid (x = nthI A' i ∧ y = nthI A' k ∧ p = nthI B' i ∧ q = nthI B' k) := ⟨hx, hy, hp, hq⟩
        have HXI : Hid (IsId x ∧ IsId y ∧ IsId p ∧ IsId q ∧ IsId (H2 x y) ∧ IsId (H2 p q)) := by
          have e1 := HNN.out
          have e2 := HLN.out
          refine ⟨?_, ?_, ?_, ?_, H2_id _ _, H2_id _ _⟩
          · rw [hx]; exact nthI_id HIA.out (by omega)
          · rw [hy]; exact nthI_id HIA.out (by omega)
          · rw [hp]; exact nthI_id HIB.out (by omega)
          · rw [hq]; exact nthI_id HIB.out (by omega)
        have HR : Hid (bA < wr.heap.size ∧ bB < wr.heap.size ∧ wr.rangeAt bA (oA + i * 32) (idA x).toList ∧ wr.rangeAt bA (oA + k * 32) (idA y).toList ∧ wr.rangeAt bB (oB + i * 32) (idA p).toList ∧ wr.rangeAt bB (oB + k * 32) (idA q).toList) := by
          refine ⟨Nat.lt_of_lt_of_le hbA hWi.out.size, Nat.lt_of_lt_of_le hbB hWi.out.size, ?_, ?_, ?_, ?_⟩
          · rw [hx]; exact idr_below (HRA.out i hlt) hWi.out hbA
          · rw [hy]; exact idr_below (HRA.out k hkn) hWi.out hbA
          · rw [hp]; exact idr_below (HRB.out i hlt) hWi.out hbB
          · rw [hq]; exact idr_below (HRB.out k hkn) hWi.out hbB
        have HJ : Hid ((0 : Int) ≤ (i : Int) ∧ (i : Int) < (n : Int) ∧ (0 : Int) ≤ (k : Int) ∧ (k : Int) < (n : Int)) := ⟨by omega, by omega, by omega, by omega⟩
        have HTC : Hid (∀ a b, IsId a → IsId b → ∀ sp W, Laid W → PartsV W sp [a, b] → Calls Tryd.prog 19 #[.slice sp 2 2] W fun e w' => e = .returned (.agg (idA (H2 a b))) ∧ Below W.heap.size W w') := fun a b ha hb sp W h1 h2 => by
          have h := twicev [a, b] sp 2 W h1 (by simp [ha.1, hb.1]) (by simp) h2
          simpa [H2] using h
        have HCA := Lib.hid (HTC.out x y HXI.out.1 HXI.out.2.1)
        have HCB := Lib.hid (HTC.out p q HXI.out.2.2.1 HXI.out.2.2.2.1)
        have HLi := Lib.hid (HLr.out.below hWi.out HLr.out.size)
        clear hx hy hp hq HTC
        go_upto_region 7 with fail
        have eK2 := eK.out
        simp only [eK2]
        clear eK eK2
        refine region7 bA oA cA bB oB cB n i k wr x y p q (H2 x y) (H2 p q) _ _ _ _ _ _ _ _ _ _ _ _ _ _ _ _ _ _ _ _ _ _ _ _ _ _ _ _ _ _ _ _ _ _ _ _ _ _ _ _ _ _ _ _ _ _ _ _ _ _ _ _ _ _ _ _ _ _ _ _ _ _ _ _ _ _ _ _ _ _ _ _ _ _ _ _ _ _ HLi HXI HJ HR HCA HCB (fun x26 x27 x28 x29 x30 x31 x32 x33 x34 x35 x36 x37 x38 x39 x40 x41 x42 x43 x44 x45 gC gD wc hcd hgC hgD hbc KC KD => ?_)
        have HR2 : Hid (bA < wc.heap.size ∧ bB < wc.heap.size ∧ wc.rangeAt bA (oA + i * 32) (idA x).toList ∧ wc.rangeAt bA (oA + k * 32) (idA y).toList ∧ wc.rangeAt bB (oB + i * 32) (idA p).toList ∧ wc.rangeAt bB (oB + k * 32) (idA q).toList) :=
          ⟨Nat.lt_of_lt_of_le HR.out.1 hbc.size, Nat.lt_of_lt_of_le HR.out.2.1 hbc.size, idr_below HR.out.2.2.1 hbc HR.out.1, idr_below HR.out.2.2.2.1 hbc HR.out.1, idr_below HR.out.2.2.2.2.1 hbc HR.out.2.1, idr_below HR.out.2.2.2.2.2 hbc HR.out.2.1⟩
        have HFX : Hid (Far xv gC ∧ Far xv gD ∧ Far yv gC ∧ Far yv gD) := ⟨far_new MX.out hgC, far_new MX.out hgD, far_new MY.out hgC, far_new MY.out hgD⟩
        have MX := Lib.hid (MX.out.keep hbc)
        have MY := Lib.hid (MY.out.keep hbc)
        have hWc := Lib.hid (hWi.out.trans (hbc.mono hWi.out.size))
        clear HR HCA HCB HLi hbc hWi hcd hgC hgD
        obtain ⟨C, hC⟩ : ∃ C, C = H2 x y := ⟨_, rfl⟩
        obtain ⟨D, hD⟩ : ∃ D, D = H2 p q := ⟨_, rfl⟩
        rw [← hC] at KC HXI
        rw [← hD] at KD HXI
        have HCC := Lib.hid hC
        have HDD := Lib.hid hD
        have HE1 : ∀ W, (Op.equalIn 10000 27 (.agg (idA C)) (.agg (idA D))).run Tryd.prog W = .ok (decide (C = D)) W := fun W => id_eql C D HXI.out.2.2.2.2.1.1 HXI.out.2.2.2.2.2.1 W
        have HE2 : ∀ W, (Op.equalIn 10000 27 (.agg (idA x)) (.agg (idA p))).run Tryd.prog W = .ok (decide (x = p)) W := fun W => id_eql x p HXI.out.1.1 HXI.out.2.2.1.1 W
        have HE3 : ∀ W, (Op.equalIn 10000 27 (.agg (idA y)) (.agg (idA q))).run Tryd.prog W = .ok (decide (y = q)) W := fun W => id_eql y q HXI.out.2.1.1 HXI.out.2.2.2.1.1 W
        have hww := hWr.out.size
        go_upto_region 8 with fail
        clear hC hD
        have hcut : ∀ (G : Prop), ((C = D → x = p ∧ y = q) → G) → (C = D → x ≠ p → G) → (C = D → x = p → y ≠ q → G) → G := fun G g1 g2 g3 => by
          by_cases e1 : C = D
          · by_cases e2 : x = p
            · by_cases e3 : y = q
              · exact g1 (fun _ => ⟨e2, e3⟩)
              · exact g3 e1 e2 e3
            · exact g2 e1 e2
          · exact g1 (fun h => absurd h e1)
        refine hcut _ (fun hok => ?_) (fun e1 e2 => ?_) (fun e1 e2 e3 => ?_)
        rotate_left
        · rw [decide_eq_true e1] at HE1
          rw [decide_eq_false e2] at HE2
          clear hcut
          refine region8b bA oA cA bB oB cB n i k gC gD wc x y p q C D true _ _ _ _ _ _ _ _ _ _ _ _ _ _ _ _ _ _ _ _ _ _ _ _ _ _ _ _ _ _ _ _ _ _ _ _ _ _ _ _ _ _ _ _ _ _ _ _ _ _ _ _ _ _ _ _ _ _ _ _ _ _ _ _ _ _ _ _ _ _ _ _ _ _ _ _ HXI HJ HR2 KC KD rfl HE1 HE2 trivial (fun x46 x47 x48 x49 x50 x51 x52 x53 x54 x55 x56 x57 x58 x59 x60 x61 x62 x63 x64 x65 x66 x67 x68 x69 wd hbd => ?_)
          go_wp2_with fail
          go_ret
          exact ⟨rfl, hWr.out.trans ((hWc.out.trans (hbd.mono hWc.out.size)).mono hww)⟩
        · rw [decide_eq_true e1] at HE1
          rw [decide_eq_true e2] at HE2
          rw [decide_eq_false e3] at HE3
          clear hcut
          refine region8c bA oA cA bB oB cB n i k gC gD wc x y p q C D true _ _ _ _ _ _ _ _ _ _ _ _ _ _ _ _ _ _ _ _ _ _ _ _ _ _ _ _ _ _ _ _ _ _ _ _ _ _ _ _ _ _ _ _ _ _ _ _ _ _ _ _ _ _ _ _ _ _ _ _ _ _ _ _ _ _ _ _ _ _ _ _ _ _ _ _ HXI HJ HR2 KC KD rfl HE1 HE2 HE3 (fun x46 x47 x48 x49 x50 x51 x52 x53 x54 x55 x56 x57 x58 x59 x60 x61 x62 x63 x64 x65 x66 x67 x68 x69 wd hbd => ?_)
          go_wp2_with fail
          go_ret
          exact ⟨rfl, hWr.out.trans ((hWc.out.trans (hbd.mono hWc.out.size)).mono hww)⟩
        clear hcut
        have H8 : Hid (∀ (Q : Exit → Act → World → Prop), True) := fun _ => trivial
        have HOK := Lib.hid hok
        have htail : Hid (∀ t', t' < t + 1 → H2 (nthI A' (2 * t')) (nthI A' (besideN (2 * t') n)) = H2 (nthI B' (2 * t')) (nthI B' (besideN (2 * t') n)) → nthI A' (2 * t') = nthI B' (2 * t') ∧ nthI A' (besideN (2 * t') n) = nthI B' (besideN (2 * t') n)) := fun t' h' he => by
          by_cases e : t' < t
          · exact HCL.out t' e he
          · obtain rfl : t' = t := by omega
            obtain ⟨z1, z2, z3, z4⟩ := HXE.out
            have e2 := HI2.out
            have e3 := HKE.out
            subst e2
            subst e3
            rw [← z1, ← z2, ← z3, ← z4] at he ⊢
            exact HOK.out (HCC.out.trans (he.trans HDD.out.symm))
        have hsA : aboveP A' (t + 1) = aboveP A' t ++ [C] := by
          rw [aboveP_succ, HCC.out, HXE.out.1, HXE.out.2.1, HKE.out, HI2.out, HNN.out]
        have hsB : aboveP B' (t + 1) = aboveP B' t ++ [D] := by
          rw [aboveP_succ, HDD.out, HXE.out.2.2.1, HXE.out.2.2.2, HKE.out, HI2.out, HNN.out, HLN.out]
        have HSA := Lib.hid hsA
        have HSB := Lib.hid hsB
        have HAI : Hid (IsIds (aboveP A' t) ∧ IsIds (aboveP B' t) ∧ IsId C ∧ IsId D ∧ (aboveP A' t).length ≤ 100000 ∧ (aboveP B' t).length ≤ 100000) := ⟨aboveP_ids _ _, aboveP_ids _ _, HXI.out.2.2.2.2.1, HXI.out.2.2.2.2.2, by rw [aboveP_length]; have := HM.out; omega, by rw [aboveP_length]; have := HM.out; omega⟩
        clear hok hsA hsB
        have hfin : ∀ (K : Bool → Prop), K false → K (decide (C = D) && !(decide (x = p) && decide (y = q))) := fun K h => by
          have e : (decide (C = D) && !(decide (x = p) && decide (y = q))) = false := by
            by_cases e1 : C = D
            · obtain ⟨e2, e3⟩ := HOK.out e1
              rw [decide_eq_true e1, decide_eq_true e2, decide_eq_true e3]; rfl
            · rw [decide_eq_false e1]; rfl
          rw [e]; exact h
        clear hfin
        have h8 : Hid (C = D ∧ x = p ∧ y = q ∨ C ≠ D) := by
          by_cases e1 : C = D
          · exact .inl ⟨e1, HOK.out e1⟩
          · exact .inr e1
        rcases h8.out with ⟨e1, e2, e3⟩ | e1
        all_goals
          try rw [decide_eq_true e1] at HE1
          try rw [decide_eq_false e1] at HE1
          try rw [decide_eq_true e2] at HE2
          try rw [decide_eq_true e3] at HE3
          try clear e2 e3
          clear e1
          first
            | refine region8d bA oA cA bB oB cB n i k gC gD wc x y p q C D false _ _ _ _ _ _ _ _ _ _ _ _ _ _ _ _ _ _ _ _ _ _ _ _ _ _ _ _ _ _ _ _ _ _ _ _ _ _ _ _ _ _ _ _ _ _ _ _ _ _ _ _ _ _ _ _ _ _ _ _ _ _ _ _ _ _ _ _ _ _ _ _ _ _ _ _ HXI HJ HR2 KC KD rfl HE1 HE2 HE3 (fun x46 x47 x48 x49 x50 x51 x52 x53 x54 x55 x56 x57 x58 x59 x60 x61 x62 x63 x64 x65 x66 x67 x68 x69 wd hbd => ?_)
            | refine region8a bA oA cA bB oB cB n i k gC gD wc x y p q C D false _ _ _ _ _ _ _ _ _ _ _ _ _ _ _ _ _ _ _ _ _ _ _ _ _ _ _ _ _ _ _ _ _ _ _ _ _ _ _ _ _ _ _ _ _ _ _ _ _ _ _ _ _ _ _ _ _ _ _ _ _ _ _ _ _ _ _ _ _ _ _ _ _ _ _ _ HXI HJ HR2 KC KD rfl HE1 trivial trivial (fun x46 x47 x48 x49 x50 x51 x52 x53 x54 x55 x56 x57 x58 x59 x60 x61 x62 x63 x64 x65 x66 x67 x68 x69 wd hbd => ?_)
          have KC := KC.keep hbd
          have KD := KD.keep hbd
          have MX := Lib.hid (MX.out.keep hbd)
          have MY := Lib.hid (MY.out.keep hbd)
          have hWd := Lib.hid (hWc.out.trans (hbd.mono hWc.out.size))
          clear hWc hbd HE1 HE2 HE3
          go_upto_region 10 with fail
          refine region10 gC gD wo.heap.size xv yv wo wd (aboveP A' t) (aboveP B' t) C D _ _ _ _ _ _ _ _ _ _ _ _ _ _ _ _ _ _ _ _ _ _ _ _ _ _ _ _ _ _ _ _ _ _ _ _ _ _ _ _ _ _ _ _ _ _ _ _ _ _ _ _ _ _ _ _ _ _ _ _ _ _ _ _ _ _ _ _ _ _ _ _ _ _ _ _ _ _ HAI HFX ⟨hWd.out, Nat.le_refl _⟩ KC KD MX MY HAP (fun x71 x72 x73 x74 x75 x76 x77 x78 v5n v6n we hbe M5 M6 AP => ?_)
          rw [← HSA.out] at M5
          rw [← HSB.out] at M6
          have M5 := Lib.hid M5
          have M6 := Lib.hid M6
          have AP : Hid (Apart v5n v6n) := AP
          have hWe := Lib.hid hbe
          have htm : t + 1 ≤ m := by have := HM.out; have := HI2.out; omega
          have HI3 : Hid (i + 2 = 2 * (t + 1)) := by show _ = _; have := HI2.out; omega
          clear hbe hWd
          go_wp2_with fail
          go_roundw
          case rel =>
            have hi : Value.int .i64 ((i : Int) + 2) = .int .i64 ((i + 2 : Nat) : Int) := by go_num
            first | exact ⟨t + 1, i + 2, _, _, rfl, rfl, htm, HI3, hi, M5, M6, AP, hWe, htail⟩ | ((repeat apply Exists.intro); exact ⟨⟨t + 1, i + 2, _, _, rfl, rfl, htm, HI3, hi, M5, M6, AP, hWe, htail⟩, rfl⟩)
          case measure => simp [intOf] <;> (have := HM.out; have := HI2.out; omega)
      · have hdi : decide ((i : Int) < (n : Int)) = false := decide_eq_false (by omega)
        have hdi' : decide (i < n) = false := decide_eq_false hlt
        have htm : t = m := by have := HM.out; have := HI2.out; omega
        subst htm
        have eA : aboveP A' t = aboveV A' := by unfold aboveV; rw [← HNN.out, ← HM.out]
        have eB : aboveP B' t = aboveV B' := by unfold aboveV; rw [← HLN.out, ← HNN.out, ← HM.out]
        rw [eA] at MX
        rw [eB] at MY
        have hAI := aboveV_ids A'
        have hBI := aboveV_ids B'
        have MX := Lib.hid (MX.out.ids hAI)
        have MY := Lib.hid (MY.out.ids hBI)
        have HWW := Lib.hid (hWr.out.trans (hWi.out.mono hWr.out.size))
        have HLL : Hid ((aboveV A').length = (aboveV B').length ∧ (aboveV A').length ≤ 100000 ∧ (aboveV A').length < n) := by
          have := HNN.out
          have := HLN.out
          show _ ∧ _ ∧ _
          rw [aboveV_length, aboveV_length]
          omega
        have HNN2 : Hid (aboveV A' ≠ aboveV B') := one_ne A' B' HLN.out HNE.out (fun t' h' => by rw [← HNN.out, ← HM.out] at h'; rw [← HNN.out]; exact HCL.out t' h')
        have HRR := Lib.hid (one_root A' B' HLN.out (by rw [← HNN.out]; exact hn2) HRT.out)
        obtain ⟨s5, c5, e5⟩ := MX.out.slice
        obtain ⟨s6, c6, e6⟩ := MY.out.slice
        subst e5
        subst e6
        clear eA eB hAI hBI
        go_wp2_with fail
        go_roundw
        case rel =>
          first | exact ⟨aboveV A', aboveV B', MX, MY, HLL.out.1, HNN2, HRR, HLL.out.2.1, HWW⟩ | ((repeat apply Exists.intro); exact ⟨⟨aboveV A', aboveV B', MX, MY, HLL.out.1, HNN2, HRR, HLL.out.2.1, HWW⟩, rfl⟩)
        case measure => first | exact HLL.out.2.2 | (show _ < _; have := HLL.out.2.2; simp [lenS] <;> omega)
end Go.Proofs.YtecmgojecjenmaaDoor.merkleOne
