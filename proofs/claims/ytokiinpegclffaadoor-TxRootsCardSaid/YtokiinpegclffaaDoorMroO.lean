/-
  The contract of the document's answer for layer 4: the root of many.
-/
import Derived.Test.YtokiinpegclffaaDoorMroA
import Derived.Deep.RegionHeld3
namespace Go.Proofs.YtokiinpegclffaaDoor.merkleRoots
open Go.ChangeShapes Go.WideShapes Go.ChangeAt Go.RowKit
set_option maxRecDepth 100000
set_option linter.unusedVariables false
set_option linter.unusedSimpArgs false
theorem r_eql (x y : List Nat) (hx : x.length = 32) (hy : y.length = 32) (w : World) : (Op.equalIn 10000 28 (.agg (idA x)) (.agg (idA y))).run Tryd.prog w = .ok (decide (x = y)) w := by
  have h := run_equalIn_arr (P := Tryd.prog) w 9998 28 5 32 .u8 (idA x) (idA y) (fun i => ((x.getD i 0 : Nat) : Int)) (fun i => ((y.getD i 0 : Nat) : Int)) (by kernel_rfl) (by kernel_rfl) (by kernel_rfl)
    (fun i hi => ⟨idA_get x i (by omega), idA_get y i (by omega)⟩)
  rw [h]
  congr 1
  by_cases e : x = y
  · subst e
    simp
  · rw [decide_eq_false e, Bool.eq_false_iff]
    intro hq
    apply e
    apply List.ext_getElem (by omega)
    intro i h1 h2
    rw [List.all_eq_true] at hq
    have h3 := hq i (by simp; omega)
    have h4 : ((x.getD i 0 : Nat) : Int) = ((y.getD i 0 : Nat) : Int) := by simpa using h3
    have h5 : x.getD i 0 = y.getD i 0 := by omega
    rw [List.getD, List.getD, List.getElem?_eq_getElem h1, List.getElem?_eq_getElem h2] at h5
    exact h5
/-- Are two of a pair the same? -/

theorem cnt_top (n t : Nat) (h : ∀ l, l < t → 1 < cntN n l) : cntN n t + t ≤ n ∨ t = 0 := by
  induction t with
  | zero => exact .inr rfl
  | succ t ih =>
    left
    have h1 := h t (by omega)
    show (cntN n t + 1) / 2 + (t + 1) ≤ n
    rcases ih (fun l hl => h l (by omega)) with h2 | h2
    · omega
    · subst h2
      have : cntN n 0 = n := rfl
      omega
/-- Of the first so many pairs one has two that are the same. -/
def dubP (M : List (List Nat)) (j : Nat) : Bool := (List.range j).any fun t => decide (nthI M (2 * t) = nthI M (2 * t + 1))
theorem dubP_succ (M : List (List Nat)) (j : Nat) : dubP M (j + 1) = (dubP M j || decide (nthI M (2 * j) = nthI M (2 * j + 1))) := by
  unfold dubP
  rw [List.range_succ, List.any_append]
  simp
theorem dubP_all (M : List (List Nat)) : dubP M (M.length / 2) = doubV M := rfl
set_option maxRecDepth 100000 in
set_option maxHeartbeats 8000000 in
theorem rroot_any (v : Value) (L : List (List Nat)) (w : World) (hv : IdsV w w.heap.size v L) (hn : L.length ≤ 14) :
    Calls Tryd.prog 61 #[v] w fun e w' => e = .returned (.tuple #[.agg (idA (rootV L).1), .bool (rootV L).2]) ∧ Below w.heap.size w w' := by
  have HID := Lib.hid hv.ids
  obtain ⟨s, c, rfl⟩ := hv.slice
  by_cases h0 : L.length = 0
  · have e : rootV L = (zeros 32, false) := by unfold rootV; rw [if_pos h0]
    rw [e, h0]
    clear hv e HID
    go_enter Tryd.func61, Tryd.ntmps61
    have N0 := Bk.new w 28 (idA (zeros 32))
    go_wp2_with (refine wpList_store_mid rfl 28 (.tmp 2) (.tmp 12) rfl w.heap.size 0 (idA (zeros 32)) rfl rfl (N0.there 32 (by rw [idA_size]; decide)) r_info (id_ones _) ?_)
    exact r_ret2 (g := w.heap.size) rfl rfl rfl rfl rfl (N0.setAll rfl) (Below.setCells (Nat.le_refl _) _ _ _ ((Below.refl _ _).alloc (Nat.le_refl _) _))
  · have HFIN : Hid (∀ t, (∀ l, l < t → 1 < cntN L.length l) → ¬ 1 < cntN L.length t → (nthI (levV L t) 0, twV L t) = rootV L ∧ IsId (nthI (levV L t) 0) ∧ 0 < cntN L.length t) := fun t h1 h2 => by
      have h3 := (cntN_le L.length t (by omega)).2
      refine ⟨?_, nthI_id (levV_ids L HID.out t) (by rw [levV_length]; exact h3), h3⟩
      unfold rootV
      rw [if_neg h0, root_lev L t h1, rootW_one _ _ (by rw [levV_length]; exact h2)]
    have HCN := Lib.hid (fun j (hj : j ≤ 100) W => count_any L.length j W (by omega) hj)
    have HAT : Hid (∀ W, Below w.heap.size w W → ∀ l i, l ≤ 50 → i < cntN L.length l → Calls Tryd.prog 88 #[.slice s L.length c, .int .i64 (l : Int), .int .i64 (i : Int)] W fun e w' => e = .returned (.agg (idA (nthI (levV L l) i))) ∧ Below W.heap.size W w') := fun W hW l i hl hi => at_any L (by omega) l i _ W hl ((hv.keep hW (Nat.le_refl _)).mono hW.size) hi
    have HLI : Hid (∀ l i, i < cntN L.length l → IsId (nthI (levV L l) i)) := fun l i h => nthI_id (levV_ids L HID.out l) (by rw [levV_length]; exact h)
    have HDV : Hid (∀ l, dubP (levV L l) (cntN L.length l / 2) = doubV (levV L l)) := fun l => by rw [← dubP_all, levV_length]
    have HTW : Hid (∀ l, (twV L l || doubV (levV L l)) = twV L (l + 1)) := fun l => rfl
    obtain ⟨⟨q1, q2⟩, hq⟩ : ∃ q : List Nat × Bool, q = rootV L := ⟨_, rfl⟩
    rw [← hq] at HFIN ⊢
    show Calls Tryd.prog 61 _ w fun e w' => e = .returned (.tuple #[.agg (idA q1), .bool q2]) ∧ Below w.heap.size w w'
    have HTOP := Lib.hid (fun t h => cnt_top L.length t h)
    have HCL : Hid (∀ j, cntN L.length j ≤ L.length) := fun j => (cntN_le L.length j (by omega)).1
    obtain ⟨n, hnn⟩ : ∃ n, n = L.length := ⟨_, rfl⟩
    rw [← hnn] at HFIN HCN HAT HLI HDV HTOP HCL hn h0 ⊢
    have hd0 : decide ((n : Int) = 0) = false := decide_eq_false (by omega)
    have hbe : ((n : Int) == 0) = false := by simp; omega
    clear hv hq hnn
    go_enter Tryd.func61, Tryd.ntmps61
    have hA : Below w.heap.size w (w.alloc (.cells (idA (zeros 32)) 28)) := (Below.refl _ _).alloc (Nat.le_refl _) _
    have K2 : Bk (w.alloc (.cells (idA (zeros 32)) 28)) w.heap.size 28 (idA (zeros 32)) := Bk.new _ _ _
    go_upto_region 3 with fail
    refine wp_any (fun W => Below w.heap.size w W ∧ Bk W w.heap.size 28 (idA (zeros 32))) ⟨hA, K2⟩ ?_
    generalize hg2 : w.heap.size = g2 at *
    clear hA K2
    rintro W ⟨hW, K2⟩
    have HW := Lib.hid hW
    have hgW : g2 < W.heap.size := K2.lt
    clear hW
    go_wp2_with fail
    go_loopw [4] (fun tv wr => ∃ (t : Nat), t ≤ n ∧ .int .i64 (t : Int) = tv ∧ Hid (∀ l, l < t → 1 < cntN n l) ∧ W = wr) (fun tv _ => n - (intOf tv).toNat)
    case atStart => exact ⟨0, Nat.zero_le _, rfl, fun l h => absurd h (Nat.not_lt_zero _), rfl⟩
    case round =>
      obtain ⟨t, ht, e1, HT, e2⟩ := hrel
      subst e1
      subst e2
      have HC1 := Lib.hid (HCN.out t (by omega) W)
      have htop := HTOP.out t HT.out
      obtain ⟨ct, hct⟩ : ∃ ct, ct = cntN n t := ⟨_, rfl⟩
      rw [← hct] at HC1 htop
      have HCT := Lib.hid hct
      clear hct
      go_wp2_with fail
      refine HC1.out.mono ?_
      rintro e w1 ⟨rfl, e1⟩
      subst w1
      by_cases h1 : 1 < ct
      · have hd : decide ((1 : Int) < (ct : Int)) = true := decide_eq_true (by omega)
        have hd' : decide (1 < ct) = true := decide_eq_true h1
        have HT2 : Hid (∀ l, l < t + 1 → 1 < cntN n l) := fun l hl => by
          by_cases e : l < t
          · exact HT.out l e
          · obtain rfl : l = t := by omega
            rw [← HCT.out]; exact h1
        have ht1 : t + 1 ≤ n := by omega
        clear htop
        go_wp2_with fail
        go_roundw
        case rel =>
          have hi : Value.int .i64 ((t + 1 : Nat) : Int) = .int .i64 ((t : Int) + 1) := by go_num
          first | exact ⟨t + 1, ht1, hi, HT2, rfl⟩ | exact ⟨t + 1, ht1, hi, HT2, trivial⟩ | ((repeat apply Exists.intro); exact ⟨⟨t + 1, ht1, hi, HT2, rfl⟩, rfl⟩)
        case measure => simp [intOf] <;> omega
      · have hd : decide ((1 : Int) < (ct : Int)) = false := decide_eq_false (by omega)
        have hd' : decide (1 < ct) = false := decide_eq_false h1
        have HF := Lib.hid (HFIN.out t HT.out (by rw [← HCT.out]; exact h1))
        clear htop HFIN HTOP h1
        go_wp2_with fail
        go_loopw [5, 6] (fun bv lv wr => ∃ (l : Nat) (b : Bool), l ≤ t ∧ .bool b = bv ∧ .int .i64 (l : Int) = lv ∧ Hid (b = twV L l) ∧ Hid (Below W.heap.size W wr)) (fun _ lv _ => t - (intOf lv).toNat)
        case atStart => exact ⟨0, false, Nat.zero_le _, rfl, rfl, rfl, Below.refl _ _⟩
        case round =>
          obtain ⟨l, b, hl, e1, e2, HB, hWr⟩ := hrel
          subst e1
          subst e2
          generalize wr = wo at *
          by_cases hlt : l < t
          · have hd2 : decide ((l : Int) < (t : Int)) = true := decide_eq_true (by omega)
            have hd2' : decide (l < t) = true := decide_eq_true hlt
            have HC2 := Lib.hid (HCN.out l (by omega) wo)
            have HL2 := Lib.hid (HLI.out l)
            have HA2 : Hid (∀ W2, Below wo.heap.size wo W2 → ∀ i, i < cntN n l → Calls Tryd.prog 88 #[.slice s n c, .int .i64 (l : Int), .int .i64 (i : Int)] W2 fun e w' => e = .returned (.agg (idA (nthI (levV L l) i))) ∧ Below W2.heap.size W2 w') := fun W2 h2 i hi => HAT.out W2 (HW.out.trans ((hWr.out.trans (h2.mono hWr.out.size)).mono (Nat.le_of_lt hgW))) l i (by omega) hi
            have HD2 := Lib.hid (HDV.out l)
            have HTW2 := Lib.hid (HTW.out l)
            have hcl := HCL.out l
            rw [← HB.out] at HTW2
            obtain ⟨cn, hcn⟩ : ∃ cn, cn = cntN n l := ⟨_, rfl⟩
            rw [← hcn] at HC2 HL2 HA2 HD2 hcl
            generalize levV L l = M at *
            clear hcn HB
            go_wp2_with fail
            refine HC2.out.mono ?_
            rintro e w1 ⟨rfl, e1⟩
            subst w1
            clear HC2
            go_wp2_with fail
            go_loopw [5, 8] (fun bv iv wr => ∃ (j i : Nat) (b2 : Bool), j ≤ cn / 2 ∧ Hid (i = 2 * j) ∧ .bool b2 = bv ∧ .int .i64 (i : Int) = iv ∧ Hid (b2 = (b || dubP M j)) ∧ Hid (Below wo.heap.size wo wr)) (fun _ iv _ => cn - (intOf iv).toNat)
            case atStart => exact ⟨0, 0, b, Nat.zero_le _, rfl, rfl, rfl, by show b = (b || false); simp, Below.refl _ _⟩
            case round =>
              obtain ⟨j, i, b2, hj, HI2, e1, e2, HB2, hW2⟩ := hrel
              subst e1
              subst e2
              by_cases hlt2 : i + 1 < cn
              · have hd3 : decide ((i : Int) + 1 < (cn : Int)) = true := decide_eq_true (by omega)
                have HX := Lib.hid (HL2.out i (by omega))
                have HY := Lib.hid (HL2.out (i + 1) hlt2)
                have HCX := Lib.hid (HA2.out wr hW2.out i (by omega))
                have HCY : Hid (∀ W2, Below wo.heap.size wo W2 → Calls Tryd.prog 88 #[.slice s n c, .int .i64 (l : Int), .int .i64 ((i : Int) + 1)] W2 fun e w' => e = .returned (.agg (idA (nthI M (i + 1)))) ∧ Below W2.heap.size W2 w') := fun W2 h2 => by
                  have h := HA2.out W2 h2 (i + 1) hlt2
                  have e : ((i + 1 : Nat) : Int) = (i : Int) + 1 := by omega
                  rw [e] at h
                  exact h
                have HDS : Hid ((b2 || decide (nthI M i = nthI M (i + 1))) = (b || dubP M (j + 1))) := by
                  show _ = _
                  rw [dubP_succ, HB2.out, ← HI2.out, Bool.or_assoc]
                generalize nthI M i = x at *
                generalize nthI M (i + 1) = y at *
                have hxl := HX.out.1
                have hyl := HY.out.1
                have heq : ∀ W, (Op.equalIn 10000 28 (.agg (idA x)) (.agg (idA y))).run Tryd.prog W = .ok (decide (x = y)) W := fun W => r_eql x y hxl hyl W
                have hj1 : j + 1 ≤ cn / 2 := by have := HI2.out; omega
                have HI3 : Hid (i + 2 = 2 * (j + 1)) := by show _ = _; have := HI2.out; omega
                clear HB2 HI2
                go_wp2_with fail
                refine HCX.out.mono ?_
                rintro e w5 ⟨rfl, hb5⟩
                have hW5 := hW2.out.trans (hb5.mono hW2.out.size)
                have HCY2 := Lib.hid (HCY.out w5 hW5)
                clear hb5 HCX HCY
                go_wp2_with fail
                refine HCY2.out.mono ?_
                rintro e w6 ⟨rfl, hb6⟩
                have hW6 := Lib.hid (hW5.trans (hb6.mono hW5.size))
                clear hb6 hW5 HCY2
                by_cases exy : x = y
                · rw [decide_eq_true exy] at heq HDS
                  rw [Bool.or_true] at HDS
                  clear exy
                  go_wp2_with fail
                  go_roundw
                  case rel =>
                    have hi : Value.int .i64 ((i + 2 : Nat) : Int) = .int .i64 ((i : Int) + 2) := by go_num
                    first | exact ⟨j + 1, i + 2, true, hj1, HI3, rfl, hi, HDS, hW6⟩ | ((repeat apply Exists.intro); exact ⟨⟨j + 1, i + 2, true, hj1, HI3, rfl, hi, HDS, hW6⟩, rfl⟩)
                  case measure => simp [intOf] <;> omega
                · rw [decide_eq_false exy] at heq HDS
                  rw [Bool.or_false] at HDS
                  clear exy
                  go_wp2_with fail
                  go_roundw
                  case rel =>
                    have hi : Value.int .i64 ((i + 2 : Nat) : Int) = .int .i64 ((i : Int) + 2) := by go_num
                    first | exact ⟨j + 1, i + 2, b2, hj1, HI3, rfl, hi, HDS, hW6⟩ | ((repeat apply Exists.intro); exact ⟨⟨j + 1, i + 2, b2, hj1, HI3, rfl, hi, HDS, hW6⟩, rfl⟩)
                  case measure => simp [intOf] <;> omega
              · have hd3 : decide ((i : Int) + 1 < (cn : Int)) = false := decide_eq_false (by omega)
                have HB3 : Hid (b2 = twV L (l + 1)) := by
                  have e : j = cn / 2 := by have := HI2.out; omega
                  show _ = _
                  rw [HB2.out, e, HD2.out, HTW2.out]
                have hWo := Lib.hid (hWr.out.trans (hW2.out.mono hWr.out.size))
                have hl1 : l + 1 ≤ t := by omega
                have hi100 : i ≤ 100 := by have := HI2.out; omega
                clear HB2 HI2 HD2 HTW2
                go_wp2_with fail
                go_roundw
                case rel =>
                  have hi : Value.int .i64 ((l + 1 : Nat) : Int) = .int .i64 ((l : Int) + 1) := by go_num
                  first | exact ⟨l + 1, b2, hl1, rfl, hi, HB3, hWo⟩ | ((repeat apply Exists.intro); exact ⟨⟨l + 1, b2, hl1, rfl, hi, HB3, hWo⟩, rfl⟩)
                case measure => simp [intOf] <;> omega
          · have hd2 : decide ((l : Int) < (t : Int)) = false := decide_eq_false (by omega)
            have hd2' : decide (l < t) = false := decide_eq_false hlt
            obtain rfl : l = t := by omega
            have HF1 : Hid ((q1, q2) = (nthI (levV L l) 0, b)) := by show _ = _; rw [HB.out]; exact HF.out.1.symm
            have HX := Lib.hid HF.out.2.1
            have HCX := Lib.hid (HAT.out wo (HW.out.trans (hWr.out.mono (Nat.le_of_lt hgW))) l 0 (by omega) HF.out.2.2)
            generalize nthI (levV L l) 0 = x at *
            have e1 := congrArg Prod.fst HF1.out
            have e2 := congrArg Prod.snd HF1.out
            simp only at e1 e2
            subst e1
            subst e2
            have hxl := HX.out.1
            have K2o := K2.keep hWr.out
            have hWo := HW.out.trans (hWr.out.mono (Nat.le_of_lt hgW))
            clear HF HF1 HB
            go_wp2_with fail
            refine HCX.out.mono ?_
            rintro e w5 ⟨rfl, hb5⟩
            have K5 := K2o.keep hb5
            have hW5 := hWo.trans (hb5.mono (Nat.le_of_lt K2o.lt))
            clear hb5 HCX
            go_wp2_with (refine wpList_store_mid rfl 28 (.tmp 2) (.tmp 47) rfl g2 0 (idA q1) rfl rfl (by rw [idA_size, hxl]; exact K5.there 32 (by rw [idA_size]; decide)) (by rw [idA_size, hxl]; exact r_info) (id_ones _) ?_)
            exact r_ret2 hxl rfl rfl rfl rfl (K5.setAll (by rw [idA_size, idA_size, hxl]; rfl)) (by rw [hg2]; exact Below.setCells (Nat.le_refl _) _ _ _ hW5)
end Go.Proofs.YtokiinpegclffaaDoor.merkleRoots
