/-
  What is proved: for every transaction the law TxBytes returns true, and its argument reads behind the call as it read before it; the two listed tables of package hash are taken to hold what the program's text lays in them, and the card ties them to it.
-/
import Derived.Test.YtccgfjkahdbboaaDoorTxZ
import Derived.Test.YtccgfjkahdbboaaDoorTxS
import Derived.Test.YtccgfjkahdbboaaDoorTie
import Derived.Test.YtccgfjkahdbboaaDoorCards
import Derived.Stop.Joined
namespace Go.Proofs.YtccgfjkahdbboaaDoor.txBytes
open Go.ChangeShapes Go.WideShapes Go.ChangeAt Go.RowKit
set_option linter.unusedVariables false

theorem own : ownKnob Tryd.prog.godebug = none := by kernel_rfl
theorem laidOut : laidOutB Tryd.prog = true := by kernel_rfl
theorem wf_i64 {z : Int} (h : (Lit.int .i64 z).wf = true) : -9223372036854775808 ≤ z ∧ z ≤ 9223372036854775807 := by
  simp [Lit.wf, IntKind.min, IntKind.max, IntKind.signed, IntKind.bits] at h
  omega
set_option maxRecDepth 100000
theorem id_neq (xs : List Nat) (hl : xs.length = 32) (w : World) : (binOp .neq 29 (idv xs) (idv xs)).run Tryd.prog w = .ok (.bool false) w := by
  have h := id_same xs hl w
  show (Op.equal 29 (idv xs) (idv xs) >>= fun b => pure (Value.bool (!b))).run Tryd.prog w = _
  rw [Sem.run_bind]
  show ((Op.equalIn 10000 29 (idv xs) (idv xs)).run Tryd.prog w).andThen _ = _
  rw [h]
  rfl
theorem text_len (s : St) : (rdText s 100).1.length ≤ 100 := by
  rw [text_route]
  have h1 := take_len (rdCount s (max (100 : Int) 0).toNat).2 (rdCount s (max (100 : Int) 0).toNat).1
  have h2 := rdCount_le s (max (100 : Int) 0).toNat
  have h3 : (max (100 : Int) 0).toNat = 100 := by decide
  omega
theorem says_fit {s : St} {u : TxM} (h : NextSays s u) : TxFit u := by
  refine ⟨by rw [h.1]; have := nxN_le s; omega, by rw [h.2.2.1]; have := nxM_le s; omega, fun x hx => ?_⟩
  obtain ⟨k, hk, rfl⟩ := List.mem_iff_getElem.1 hx
  have hS := h.2.1 k _ (List.getElem?_eq_getElem hk)
  show _ ≤ 200
  rw [hS.2.2]
  have := text_len (inSt2 (inSts k (nxS1 s)))
  omega
theorem TxV.ok {w : World} {B : Nat} {t : TxM} (h : TxV w B t) : (∀ x ∈ t.ins, x.ix < 4294967296) ∧ ∀ x ∈ t.outs, OutOk x := ⟨fun x hx => (h.2.1 x hx).1, h.2.2.2⟩
theorem txB_pos (t : TxM) : 0 < (txB t).length := by
  have h : 0 < (countL t.ins.length).length := by
    rw [countL_len3]
    split
    · omega
    · split
      · omega
      · split <;> omega
  unfold txB
  rw [List.length_append]
  omega
set_option maxHeartbeats 8000000 in
theorem walk (t : TxM) (w : World) (hL : Laid w) (hT : TxV w w.heap.size t) :
    Calls Tryd.prog 4 #[txv t] w fun e w' => e = .returned (.bool true) ∧ Below w.heap.size w w' := by
  have HL := Lib.hid hL
  have HT := Lib.hid hT
  obtain ⟨a, ha⟩ : ∃ a, a = t.iv := ⟨_, rfl⟩
  obtain ⟨b, hb⟩ : ∃ b, b = t.ov := ⟨_, rfl⟩
  obtain ⟨B1, hB1⟩ : ∃ B1, B1 = fitB t := ⟨_, rfl⟩
  obtain ⟨B2, hB2⟩ : ∃ B2, B2 = goodB t := ⟨_, rfl⟩
  have HGI : Hid (B2 = true ↔ TxGood t) := by show _ ↔ _; rw [hB2]; exact goodB_iff t
  have HOV : Hid (TxFit t → ¬ TxGood t → rdEnd (nxSt (txB t, 0)) = 2) := fun hf hg => tx_over_end t hf hg (TxV.ok hT).1
  have HLW := Lib.hid hL
  have HF : Hid (B1 = true → TxFit t) := by show _ → _; rw [hB1]; exact (fitB_iff t).1
  have HGD : Hid (B2 = true → TxGood t) := by show _ → _; rw [hB2]; exact (goodB_iff t).1
  have HWR : Hid (∀ W, Below w.heap.size w W → Calls Tryd.prog 10 #[] W fun e w' => e = .returned (.bool true) ∧ Below W.heap.size W w') := fun W h => txwrites_any W (hL.below h hL.size)
  have HFI : Hid (∀ W, Below w.heap.size w W → Calls Tryd.prog 11 #[.agg #[t.iv, t.ov]] W fun e w' => e = .returned (.bool B1) ∧ Below W.heap.size W w') := fun W h => by rw [hB1]; exact fits_any t W ((hT.keep h (Nat.le_refl _)).mono h.size)
  have HGO : Hid (∀ W, Below w.heap.size w W → Calls Tryd.prog 17 #[.agg #[t.iv, t.ov]] W fun e w' => e = .returned (.bool B2) ∧ Below W.heap.size W w') := fun W h => by rw [hB2]; exact good_any t W ((hT.keep h (Nat.le_refl _)).mono h.size)
  have HBY : Hid (TxFit t → ∀ W, Below w.heap.size w W → Calls Tryd.prog 12 #[.agg #[t.iv, t.ov]] W fun e w' => ∃ v', e = .returned v' ∧ Mine w' W.heap.size v' (txB t) ∧ Below W.heap.size W w') := fun hf W h => tbytes_any t W ((hT.keep h (Nat.le_refl _)).mono h.size) hf
  have HR7 : Hid (TxFit t → ∀ W, Below w.heap.size w W → Calls Tryd.prog 14 #[.agg #[t.iv, t.ov]] W fun e w' => e = .returned (.string (strN (txB t))) ∧ Below W.heap.size W w') := fun hf W h => r7bytes_any t W ((hT.keep h (Nat.le_refl _)).mono h.size) hf
  have HID : Hid (TxFit t → ∀ W, Below w.heap.size w W → Calls Tryd.prog 13 #[.agg #[t.iv, t.ov]] W fun e w' => e = .returned (idv (tID t)) ∧ Below W.heap.size W w') := fun hf W h => tid_any t W ((hT.keep h (Nat.le_refl _)).mono h.size) hf (hL.below h hL.size)
  have HTW : Hid (TxFit t → ∀ sp W, Below w.heap.size w W → PartsV W sp [txB t] → Calls Tryd.prog 15 #[.slice sp 1 1] W fun e w' => e = .returned (idv (tID t)) ∧ Below W.heap.size W w') := fun hf sp W h1 h2 => twice1 (txB t) sp 1 W (hL.below h1 hL.size) (by have := txB_len t hf; omega) h2
  have HSA : Hid (TxFit t → ∀ u W, Below w.heap.size w W → TxV W W.heap.size u → TxFit u → txB u = txB t → Calls Tryd.prog 18 #[.agg #[t.iv, t.ov], .agg #[u.iv, u.ov]] W fun e w' => e = .returned (.bool true) ∧ Below W.heap.size W w') := fun hf u W h hu hfu he => same_any t u W ((hT.keep h (Nat.le_refl _)).mono h.size) hu hf hfu he
  have HLT := Lib.hid hT.lt
  have HBK : Hid (TxGood t → nxSt (txB t, 0) = ([], 0) ∧ ∀ u, NextSays (txB t, 0) u → txB u = txB t) := fun hg => by
    have h := tx_back t [] hg (TxV.ok hT).1 (TxV.ok hT).2
    rw [List.append_nil] at h
    exact h
  show Calls Tryd.prog _ #[.agg #[t.iv, t.ov]] w _
  rw [← ha, ← hb] at HFI HGO HBY HR7 HSA HID ⊢
  obtain ⟨sa, na, ca, ea⟩ : ∃ s n c, a = .slice s n c := ⟨_, _, _, ha⟩
  obtain ⟨sb, nb, cb, eb⟩ : ∃ s n c, b = .slice s n c := ⟨_, _, _, hb⟩
  subst ea
  subst eb
  clear hL hT ha hb hB1 hB2
  go_enter Tryd.func4, Tryd.ntmps4
  go_upto_region 1 with fail
  refine wp_any (fun W => Below w.heap.size w W ∧ Bk W w.heap.size 25 #[.slice sa na ca, .slice sb nb cb]) ⟨(Below.refl _ _).alloc (Nat.le_refl _) _, Bk.new _ _ _⟩ ?_
  obtain ⟨g1, hg1⟩ : ∃ g1, g1 = w.heap.size := ⟨_, rfl⟩
  have HG := Lib.hid hg1
  rw [← hg1]
  clear hg1
  rintro W ⟨hW, K1⟩
  have HW : Hid (Below w.heap.size w W) := by rw [← HG.out]; exact hW
  clear hW
  go_wp2_with fail
  refine (HWR.out W HW.out).mono ?_
  rintro e W1 ⟨rfl, hb1⟩
  have K1 := K1.keep hb1
  have HW1 := Lib.hid (below_step HW.out HW.out.size hb1)
  have c0 := K1.cell 0
  have c1 := K1.cell 1
  have z1 := K1.lt
  clear hb1 HW HWR
  go_wp2_with fail
  refine (HFI.out W1 HW1.out).mono ?_
  rintro e W2 ⟨rfl, hb2⟩
  have K1 := K1.keep hb2
  have HW2 := Lib.hid (below_step HW1.out HW1.out.size hb2)
  have c0 := K1.cell 0
  have c1 := K1.cell 1
  have z1 := K1.lt
  clear hb2 HW1 HFI
  cases B1
  · go_wp2_with fail
    go_ret
    exact ⟨rfl, HW2.out⟩
  have HFT := Lib.hid (HF.out rfl)
  clear HF
  go_upto_region 5 with fail
  go_wp2_with fail
  refine (HBY.out HFT.out W2 HW2.out).mono ?_
  rintro e W4 ⟨v3, rfl, M3, hb4⟩
  have K1 := K1.keep hb4
  have HW4 := Lib.hid (below_step HW2.out HW2.out.size hb4)
  have HB4 := Lib.hid (M3.bs HLT.out)
  have HPL := Lib.hid (show (txB t).length ≤ 1000000 by have := txB_len t HFT.out; omega)
  obtain ⟨s3, c3, rfl⟩ := M3.slice
  obtain ⟨n, hn⟩ : ∃ n, n = (txB t).length := ⟨_, rfl⟩
  have HN := Lib.hid hn
  obtain ⟨st, hst⟩ : ∃ st, st = strN (txB t) := ⟨_, rfl⟩
  have HST := Lib.hid hst
  obtain ⟨oid, hoid⟩ : ∃ o, o = idv (tID t) := ⟨_, rfl⟩
  have HOI := Lib.hid hoid
  rw [← hn] at HB4
  rw [← hn]
  have HRD : Hid (∀ W, Below W4.heap.size W4 W → Calls Tryd.prog 16 #[.slice s3 n c3] W fun r w' => ∃ u, r = .returned (.tuple #[.agg #[u.iv, u.ov], .int .i64 ((rdEnd (nxSt (txB t, 0)) : Nat) : Int)]) ∧ Below W.heap.size W w' ∧ (rdEnd (nxSt (txB t, 0)) = 0 → NextSays (txB t, 0) u ∧ MineT w' W.heap.size u) ∧ (rdEnd (nxSt (txB t, 0)) ≠ 0 → u = tx0)) := fun W h => tread_any _ (txB t) W ((HB4.out.keep h (Nat.le_refl _)).mono h.size) HPL.out HLT.out
  have HR6 : Hid (∀ W, Below W4.heap.size W4 W → Calls Tryd.prog 14 #[.agg #[.slice sa na ca, .slice sb nb cb]] W fun e w' => e = .returned (.string st) ∧ Below W.heap.size W w') := fun W hb => by
    rw [hst]
    exact HR7.out HFT.out W (below_step HW4.out HW4.out.size hb)
  have HI6 : Hid (∀ W, Below W4.heap.size W4 W → Calls Tryd.prog 13 #[.agg #[.slice sa na ca, .slice sb nb cb]] W fun e w' => e = .returned oid ∧ Below W.heap.size W w') := fun W hb => by
    rw [hoid]
    exact HID.out HFT.out W (below_step HW4.out HW4.out.size hb)
  have HT6 : Hid (∀ g W, Below W4.heap.size W4 W → Bk W g 33 #[.slice s3 n c3] → Calls Tryd.prog 15 #[.slice (some ⟨g, 0, none⟩) 1 1] W fun e w' => e = .returned oid ∧ Below W.heap.size W w') := fun g W hb hk => by
    rw [hoid]
    exact HTW.out HFT.out _ W (below_step HW4.out HW4.out.size hb) (parts_bs (HB4.out.keep hb (Nat.le_refl _)) hb.size hk)
  have hcv : ∀ w', Below W4.heap.size W4 w' → (convert 33 9 (.slice s3 n c3)).run Tryd.prog w' = .ok (.string st) w' := fun w' h => by
    rw [hst]
    exact conv_bs (HB4.out.keep h (Nat.le_refl _))
  have e0 : ∀ w', Below W4.heap.size W4 w' → w'.cell? ⟨g1, 0, none⟩ = some (.slice sa na ca) := fun w' hb => (K1.keep hb).cell 0
  have e1 : ∀ w', Below W4.heap.size W4 w' → w'.cell? ⟨g1, 1, none⟩ = some (.slice sb nb cb) := fun w' hb => (K1.keep hb).cell 1
  have heq : (st.toList == st.toList) = true := by simp
  have hgd : ∀ (a b : Operand) W, (eqGuard .neq 29 a b oid oid).run Tryd.prog W = .ok () W := fun a b W => by rw [hoid]; exact id_guard _ _ .neq a b W
  have hbn : ∀ W, (binOp .neq 29 oid oid).run Tryd.prog W = .ok (.bool false) W := fun W => by rw [hoid]; exact id_neq _ (tID_length t) W
  clear hb4 M3 HR7 HID HTW HBY hn hst hoid
  go_upto_region 6 with fail
  have HW4' := HW4
  go_region_held (fun w' => Below W4.heap.size W4 w')
    (first | with_reducible assumption | with_reducible exact Below.refl _ _ | with_reducible exact (Below.refl _ _).drew | (with_reducible refine Below.alloc ?_ ?_ _ <;> first | with_reducible assumption | omega | (simp; done) | (simp; omega)))
    (first
      | (go_at_call 14
         with_reducible refine (HR6.out _ (by first | with_reducible assumption | with_reducible exact (Below.refl _ _).drew | with_reducible exact Below.refl _ _)).mono ?_
         rintro e w5 ⟨rfl, hb5⟩
         have hE5 : Below W4.heap.size W4 w5 := by
           refine below_step ?_ ?_ hb5
           · repeat' (first | with_reducible exact Below.refl _ _ | with_reducible assumption | with_reducible exact From.out (by with_reducible assumption) | with_reducible refine Below.drew ?_ | with_reducible refine Below.setCell ?_ ?_ _ | with_reducible refine Below.alloc ?_ ?_ _ | with_reducible exact Nat.le_refl _ | omega | (simp; done) | (simp; omega) | (simp [World.drew]; done) | (simp [World.drew]; omega))
           · first | omega | (simp; done) | (simp; omega) | (simp [World.drew]; done) | (simp [World.drew]; omega)
         have z5 := hE5.size)
      | (go_at_call 13
         with_reducible refine (HI6.out _ (by first | with_reducible assumption | with_reducible exact (Below.refl _ _).drew | with_reducible exact Below.refl _ _)).mono ?_
         rintro e w6 ⟨rfl, hb6⟩
         have hE6 : Below W4.heap.size W4 w6 := by
           refine below_step ?_ ?_ hb6
           · repeat' (first | with_reducible exact Below.refl _ _ | with_reducible assumption | with_reducible exact From.out (by with_reducible assumption) | with_reducible refine Below.drew ?_ | with_reducible refine Below.setCell ?_ ?_ _ | with_reducible refine Below.alloc ?_ ?_ _ | with_reducible exact Nat.le_refl _ | omega | (simp; done) | (simp; omega) | (simp [World.drew]; done) | (simp [World.drew]; omega))
           · first | omega | (simp; done) | (simp; omega) | (simp [World.drew]; done) | (simp [World.drew]; omega)
         have z6 := hE6.size)
      | (go_at_call 15
         with_reducible refine (HT6.out _ _ ?_ ?_).mono ?_
         focus
           · repeat' (first | with_reducible exact Below.refl _ _ | with_reducible assumption | with_reducible exact From.out (by with_reducible assumption) | with_reducible refine Below.drew ?_ | with_reducible refine Below.setCell ?_ ?_ _ | with_reducible refine Below.alloc ?_ ?_ _ | with_reducible exact Nat.le_refl _ | omega | (simp; done) | (simp; omega) | (simp [World.drew]; done) | (simp [World.drew]; omega))
         focus
           · first | with_reducible exact Bk.new _ _ _ | with_reducible exact (Bk.new _ _ _).drew | with_reducible exact Bk.keep (Bk.new _ _ _) (by with_reducible assumption) | (trace_state; fail)
         rintro e w7 ⟨rfl, hb7⟩
         have hE7 : Below W4.heap.size W4 w7 := by
           refine below_step ?_ ?_ hb7
           · repeat' (first | with_reducible exact Below.refl _ _ | with_reducible assumption | with_reducible exact From.out (by with_reducible assumption) | with_reducible refine Below.drew ?_ | with_reducible refine Below.setCell ?_ ?_ _ | with_reducible refine Below.alloc ?_ ?_ _ | with_reducible exact Nat.le_refl _ | omega | (simp; done) | (simp; omega) | (simp [World.drew]; done) | (simp [World.drew]; omega))
           · first | omega | (simp; done) | (simp; omega) | (simp [World.drew]; done) | (simp [World.drew]; omega)
         have z7 := hE7.size))
  all_goals first
    | (change Exit.then _ _ _ _ w7
       have K8 := K1.keep hE7
       have c0 := K8.cell 0
       have c1 := K8.cell 1
       have z8 := K8.lt
       have HW8 := Lib.hid (below_step HW4.out HW4.out.size hE7)
       have HRX := Lib.hid (HRD.out w7 hE7)
       clear e0 e1 hcv hgd hbn heq HR6 HI6 HT6 K1 HRD
       go_wp2_with fail
       refine HRX.out.mono ?_
       rintro e V5 ⟨u, he, hv5, hsy, hno⟩
       have K9 := K8.keep hv5
       have HW9 := Lib.hid (below_step HW8.out HW8.out.size hv5)
       clear K8 HW8 c0 c1 z8 hv5 HRX
       cases B2
       · have hng : ¬ TxGood t := fun hg => by
           have h := HGI.out.2 hg
           cases h
         have hend := HOV.out HFT.out hng
         have hu : u = tx0 := hno (by rw [hend]; decide)
         rw [hend, hu] at he
         change e = .returned (.tuple #[.agg #[.slice none 0 0, .slice none 0 0], .int .i64 2]) at he
         subst he
         clear hsy hno hend hng hu HOV
         go_upto_region 9 with fail
         have hA : Below V5.heap.size V5 (V5.alloc (.cells #[.slice none 0 0, .slice none 0 0] 25)) := (Below.refl _ _).alloc (Nat.le_refl _) _
         refine wp_any (fun W => Below w.heap.size w W ∧ Bk W g1 25 #[.slice sa na ca, .slice sb nb cb] ∧ Bk W V5.heap.size 25 #[.slice none 0 0, .slice none 0 0]) ⟨below_step HW9.out HW9.out.size hA, K9.keep hA, Bk.new _ _ _⟩ ?_
         clear hA K9 HW9
         generalize V5.heap.size = g4 at *
         rintro W ⟨hW, Ka, Kb⟩
         have HWa := Lib.hid hW
         have c0 := Ka.cell 0
         have c1 := Ka.cell 1
         have za := Ka.lt
         clear hW
         go_wp2_with fail
         refine (HGO.out W HWa.out).mono ?_
         rintro e V6 ⟨rfl, hv6⟩
         have Kb := Kb.keep hv6
         have HWb := Lib.hid (below_step HWa.out HWa.out.size hv6)
         have c0 := Kb.cell 0
         have c1 := Kb.cell 1
         have zb := Kb.lt
         clear hv6 HWa HGO Ka za
         go_wp2_with fail
         go_ret
         exact ⟨rfl, HWb.out⟩
       · have HGT := Lib.hid (HGD.out rfl)
         have hend : rdEnd (nxSt (txB t, 0)) = 0 := by rw [(HBK.out HGT.out).1]; rfl
         obtain ⟨hsay, MU⟩ := hsy hend
         rw [hend] at he
         have HUB := Lib.hid ((HBK.out HGT.out).2 u hsay)
         have HUF := Lib.hid (says_fit hsay)
         have HUV := Lib.hid (MU.txv ⟨HPL.out, show (0 : Nat) < 1000 by omega, HLT.out, fun h => absurd rfl h⟩ hsay)
         have HSU := Lib.hid (fun W h1 h2 => HSA.out HFT.out u W h1 h2 HUF.out HUB.out)
         obtain ⟨c, hc⟩ : ∃ c, c = u.iv := ⟨_, rfl⟩
         obtain ⟨d, hd⟩ : ∃ d, d = u.ov := ⟨_, rfl⟩
         rw [← hc, ← hd] at HSU he
         obtain ⟨sc, nc, cc, ec⟩ : ∃ s n k, c = .slice s n k := ⟨_, _, _, hc⟩
         obtain ⟨sd, nd, cd, ed⟩ : ∃ s n c, d = .slice s n c := ⟨_, _, _, hd⟩
         subst ec
         subst ed
         subst he
         clear hsy hno hend hsay MU hc hd HSA
         go_upto_region 9 with fail
         have hA : Below V5.heap.size V5 (V5.alloc (.cells #[.slice sc nc cc, .slice sd nd cd] 25)) := (Below.refl _ _).alloc (Nat.le_refl _) _
         refine wp_any (fun W => Below w.heap.size w W ∧ Bk W g1 25 #[.slice sa na ca, .slice sb nb cb] ∧ Bk W V5.heap.size 25 #[.slice sc nc cc, .slice sd nd cd] ∧ TxV W W.heap.size u) ⟨below_step HW9.out HW9.out.size hA, K9.keep hA, Bk.new _ _ _, (HUV.out.keep hA (Nat.le_refl _)).mono hA.size⟩ ?_
         clear hA K9 HW9 HUV
         generalize V5.heap.size = g4 at *
         rintro W ⟨hW, Ka, Kb, hUV⟩
         have HWa := Lib.hid hW
         have HUV := Lib.hid hUV
         have c0 := Ka.cell 0
         have c1 := Ka.cell 1
         have za := Ka.lt
         clear hW hUV
         go_wp2_with fail
         refine (HGO.out W HWa.out).mono ?_
         rintro e V6 ⟨rfl, hv6⟩
         have Ka := Ka.keep hv6
         have Kb := Kb.keep hv6
         have HWb := Lib.hid (below_step HWa.out HWa.out.size hv6)
         have HUW := Lib.hid ((HUV.out.keep hv6 (Nat.le_refl _)).mono hv6.size)
         have c0 := Ka.cell 0
         have c1 := Ka.cell 1
         have d0 := Kb.cell 0
         have d1 := Kb.cell 1
         have za := Ka.lt
         have zb := Kb.lt
         clear hv6 HWa HGO HUV
         go_wp2_with fail
         refine (HSU.out V6 HWb.out HUW.out).mono ?_
         rintro e V7 ⟨rfl, hv7⟩
         have HWc := Lib.hid (below_step HWb.out HWb.out.size hv7)
         clear hv7 HWb c0 c1 d0 d1 Ka Kb HUW HSU
         go_wp2_with fail
         go_ret
         exact ⟨rfl, HWc.out⟩)
    | (change Exit.then _ _ _ _ w6
       have K8 := K1.keep hE6
       have c0 := K8.cell 0
       have c1 := K8.cell 1
       have z8 := K8.lt
       have HW8 := Lib.hid (below_step HW4.out HW4.out.size hE6)
       have HRX := Lib.hid (HRD.out w6 hE6)
       clear e0 e1 hcv hgd hbn heq HR6 HI6 HT6 K1 HRD
       go_wp2_with fail
       refine HRX.out.mono ?_
       rintro e V5 ⟨u, he, hv5, hsy, hno⟩
       have K9 := K8.keep hv5
       have HW9 := Lib.hid (below_step HW8.out HW8.out.size hv5)
       clear K8 HW8 c0 c1 z8 hv5 HRX
       cases B2
       · have hng : ¬ TxGood t := fun hg => by
           have h := HGI.out.2 hg
           cases h
         have hend := HOV.out HFT.out hng
         have hu : u = tx0 := hno (by rw [hend]; decide)
         rw [hend, hu] at he
         change e = .returned (.tuple #[.agg #[.slice none 0 0, .slice none 0 0], .int .i64 2]) at he
         subst he
         clear hsy hno hend hng hu HOV
         go_upto_region 9 with fail
         have hA : Below V5.heap.size V5 (V5.alloc (.cells #[.slice none 0 0, .slice none 0 0] 25)) := (Below.refl _ _).alloc (Nat.le_refl _) _
         refine wp_any (fun W => Below w.heap.size w W ∧ Bk W g1 25 #[.slice sa na ca, .slice sb nb cb] ∧ Bk W V5.heap.size 25 #[.slice none 0 0, .slice none 0 0]) ⟨below_step HW9.out HW9.out.size hA, K9.keep hA, Bk.new _ _ _⟩ ?_
         clear hA K9 HW9
         generalize V5.heap.size = g4 at *
         rintro W ⟨hW, Ka, Kb⟩
         have HWa := Lib.hid hW
         have c0 := Ka.cell 0
         have c1 := Ka.cell 1
         have za := Ka.lt
         clear hW
         go_wp2_with fail
         refine (HGO.out W HWa.out).mono ?_
         rintro e V6 ⟨rfl, hv6⟩
         have Kb := Kb.keep hv6
         have HWb := Lib.hid (below_step HWa.out HWa.out.size hv6)
         have c0 := Kb.cell 0
         have c1 := Kb.cell 1
         have zb := Kb.lt
         clear hv6 HWa HGO Ka za
         go_wp2_with fail
         go_ret
         exact ⟨rfl, HWb.out⟩
       · have HGT := Lib.hid (HGD.out rfl)
         have hend : rdEnd (nxSt (txB t, 0)) = 0 := by rw [(HBK.out HGT.out).1]; rfl
         obtain ⟨hsay, MU⟩ := hsy hend
         rw [hend] at he
         have HUB := Lib.hid ((HBK.out HGT.out).2 u hsay)
         have HUF := Lib.hid (says_fit hsay)
         have HUV := Lib.hid (MU.txv ⟨HPL.out, show (0 : Nat) < 1000 by omega, HLT.out, fun h => absurd rfl h⟩ hsay)
         have HSU := Lib.hid (fun W h1 h2 => HSA.out HFT.out u W h1 h2 HUF.out HUB.out)
         obtain ⟨c, hc⟩ : ∃ c, c = u.iv := ⟨_, rfl⟩
         obtain ⟨d, hd⟩ : ∃ d, d = u.ov := ⟨_, rfl⟩
         rw [← hc, ← hd] at HSU he
         obtain ⟨sc, nc, cc, ec⟩ : ∃ s n k, c = .slice s n k := ⟨_, _, _, hc⟩
         obtain ⟨sd, nd, cd, ed⟩ : ∃ s n c, d = .slice s n c := ⟨_, _, _, hd⟩
         subst ec
         subst ed
         subst he
         clear hsy hno hend hsay MU hc hd HSA
         go_upto_region 9 with fail
         have hA : Below V5.heap.size V5 (V5.alloc (.cells #[.slice sc nc cc, .slice sd nd cd] 25)) := (Below.refl _ _).alloc (Nat.le_refl _) _
         refine wp_any (fun W => Below w.heap.size w W ∧ Bk W g1 25 #[.slice sa na ca, .slice sb nb cb] ∧ Bk W V5.heap.size 25 #[.slice sc nc cc, .slice sd nd cd] ∧ TxV W W.heap.size u) ⟨below_step HW9.out HW9.out.size hA, K9.keep hA, Bk.new _ _ _, (HUV.out.keep hA (Nat.le_refl _)).mono hA.size⟩ ?_
         clear hA K9 HW9 HUV
         generalize V5.heap.size = g4 at *
         rintro W ⟨hW, Ka, Kb, hUV⟩
         have HWa := Lib.hid hW
         have HUV := Lib.hid hUV
         have c0 := Ka.cell 0
         have c1 := Ka.cell 1
         have za := Ka.lt
         clear hW hUV
         go_wp2_with fail
         refine (HGO.out W HWa.out).mono ?_
         rintro e V6 ⟨rfl, hv6⟩
         have Ka := Ka.keep hv6
         have Kb := Kb.keep hv6
         have HWb := Lib.hid (below_step HWa.out HWa.out.size hv6)
         have HUW := Lib.hid ((HUV.out.keep hv6 (Nat.le_refl _)).mono hv6.size)
         have c0 := Ka.cell 0
         have c1 := Ka.cell 1
         have d0 := Kb.cell 0
         have d1 := Kb.cell 1
         have za := Ka.lt
         have zb := Kb.lt
         clear hv6 HWa HGO HUV
         go_wp2_with fail
         refine (HSU.out V6 HWb.out HUW.out).mono ?_
         rintro e V7 ⟨rfl, hv7⟩
         have HWc := Lib.hid (below_step HWb.out HWb.out.size hv7)
         clear hv7 HWb c0 c1 d0 d1 Ka Kb HUW HSU
         go_wp2_with fail
         go_ret
         exact ⟨rfl, HWc.out⟩)

/-- The door's own heap meets the condition. -/
theorem door_met (os : Os) (args : Array Value) : laidMetH Tryd.prog laidL ((World.doorLaid Tryd.prog 19 os).forCall (fun _ _ => 0) ⟨#[], args, []⟩).memory :=
  laidMetH_of_parts3 (fuel := 8) (laidMet_of_run' 8 (by kernel_rfl) (by kernel_rfl)) (by kernel_rfl) (by kernel_rfl)

set_option maxRecDepth 100000 in
theorem lifted (os : Os) (started : os.Started) (H : Type) (enc : TypeId × Value → H) :
    ReturnsInHanded {} Tryd.checked os 4 .any (fun w args => (Rows.txBytesSpec.pre enc Tryd.prog Tryd.f4 [] false w args ∧ laidMetH Tryd.prog laidL w) ∧ sizedMet enc Tryd.prog Tryd.f4 (OpenSpec.ofChange Rows.txBytesSpec) false w args)
      (Rows.txBytesSpec.post enc Tryd.prog Tryd.f4 false true false false) := by
  refine returnsInHanded_of_change_and (C := Tryd.checked) (X := fun w _ => laidMetH Tryd.prog laidL w) (fun _ _ _ hh h => h.of_heap hh) own started (by kernel_rfl) Tryd.func4
    (ChangeSpec.witness_shaped (enc := enc) (C := Tryd.checked) (os := os) (X := fun w _ => laidMetH Tryd.prog laidL w) false (World.doorLaid Tryd.prog 19 os) #[.agg #[.slice none 0 0, .slice none 0 0]] 8 rfl (World.shaped_of_RefB (by kernel_rfl) (by kernel_rfl)) (by kernel_rfl) (by kernel_rfl) (by kernel_rfl) (door_met os _)) ?_
  intro W base args ds gs before hval0 hW _ _ hL _
  have hval : ∀ (j : Nat) t v, Tryd.f4.params[j]? = some t → args[j]? = some v → Value.okWide Tryd.prog W .any base t v := hval0
  have hW' := hW
  obtain ⟨p, q, hA0, hV, rfl, hfz, hnd⟩ := hW
  have hA : DataW.TrodAll enc Tryd.prog W 0 (fun _ => true) true Tryd.f4.params.toList args.toList ds p := hA0
  rw [Tryd.params4] at hA hval
  obtain ⟨v0, vs0, d0, ds0, p0, q0, hargs, rfl, rfl, h0, r0⟩ := trodAll_cons hA
  obtain ⟨rfl, rfl, rfl⟩ := trodAll_nil r0
  obtain rfl : args = #[v0] := by cases args; simp_all
  obtain ⟨rfl, rfl⟩ := trodVars_none hV
  have lt0 : ∀ x ∈ p0, x.block < W.heap.size := by obtain ⟨m, hm⟩ := h0; exact DataW.trod_lt m _ _ _ hm
  obtain ⟨x0, hb0, rfl⟩ := tx_arg (hval 0 25 v0 rfl rfl) h0
  have hwalk := walk x0 W (of_laid hL) hb0
  clear hA0 hval0
  refine hwalk.mono fun e W' ⟨he, bel⟩ => ?_
  subst he
  exact ⟨_, rfl, _, _, _, [], _, [], hW', trodAll_mk1 (shut_bool Tryd.underlying4 _), (trodAll_cons_mk (Below.trod laidOut (by kernel_rfl) (of_decide_eq_true (by kernel_rfl)) h0 bel lt0) trodAll_mk0), rfl, bel.frame _, fun h => by cases h⟩

theorem over : Rows.TxBytesSaid :=
  OpenClaim.holds_of_wide 4 Tryd.f4 rfl rfl rfl rfl rfl rfl rfl ⟨rfl, rfl, rfl, rfl, rfl⟩ rfl rfl rfl rfl rfl (by kernel_rfl) Tryd.func4 (by kernel_rfl)
    (of_decide_eq_true (by kernel_rfl)) (by unfold Func.isWrapper; first | (rw [if_pos (by decide +kernel)]; kernel_rfl) | (rw [if_neg (by decide +kernel)]; exact ⟨rfl, rfl⟩))
    (fun os started H enc _ => lifted os started H enc)

theorem proved : Rows.TxBytesCardSaid :=
  Claim7.holds_tied_plain_at .later [] [.data, .data] true Rows.txBytesCard.stood.harness false
    over (fun _ h => by cases h) (by kernel_rfl) (fun _ h => by cases h) txBytes_row_tie rfl ⟨rfl, rfl⟩ (by kernel_rfl) rfl
    (fun f fn hf hfn => by
      obtain rfl : f = 4 := Option.some.inj ((show Tryd.prog.funcNamed "tallystick/tallysticklaw07.TxBytes" = some 4 by kernel_rfl).symm.trans hf) |>.symm
      obtain rfl : fn = Tryd.f4 := (Option.some.inj (Tryd.func4.symm.trans hfn)).symm
      exact ⟨by kernel_rfl, fun j t ht => by
        rw [Tryd.params4] at ht
        have hm : t ∈ [25] := by simpa using Array.mem_of_getElem? ht
        have hall : ([25].all fun u => !Tryd.prog.wantsStandIn u) = true := by kernel_rfl
        exact (show Tryd.prog.wantsStandIn t = false by simpa using List.all_eq_true.1 hall t hm)⟩)
    (by kernel_rfl)
#print axioms proved
end Go.Proofs.YtccgfjkahdbboaaDoor.txBytes
