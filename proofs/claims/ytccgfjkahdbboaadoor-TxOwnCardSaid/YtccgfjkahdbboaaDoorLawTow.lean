/-
  What is proved: for every transaction the law TxOwn returns true, and its argument reads behind the call as it read before it; the two listed tables of package hash are taken to hold what the program's text lays in them, and the card ties them to it.
-/
import Derived.Test.YtccgfjkahdbboaaDoorTxZ
import Derived.Test.YtccgfjkahdbboaaDoorTie
import Derived.Test.YtccgfjkahdbboaaDoorCards
import Derived.Stop.Joined
namespace Go.Proofs.YtccgfjkahdbboaaDoor.txOwn
open Go.ChangeShapes Go.WideShapes Go.ChangeAt Go.RowKit
set_option linter.unusedVariables false

theorem own : ownKnob Tryd.prog.godebug = none := by kernel_rfl
theorem laidOut : laidOutB Tryd.prog = true := by kernel_rfl
theorem wf_i64 {z : Int} (h : (Lit.int .i64 z).wf = true) : -9223372036854775808 ≤ z ∧ z ≤ 9223372036854775807 := by
  simp [Lit.wf, IntKind.min, IntKind.max, IntKind.signed, IntKind.bits] at h
  omega
set_option maxRecDepth 100000
theorem byte_up (y : Nat) : IntKind.u8.wrap ((y : Int) + 1) = (((y + 1) % 256 : Nat) : Int) := by
  simp [IntKind.wrap, IntKind.signed, IntKind.bits]
theorem idA_put (ys : List Nat) (k y : Nat) : (idA ys).setIfInBounds k (.int .u8 (y : Int)) = idA (ys.set k y) := by
  unfold idA byteV
  simp [List.map_set]
theorem text_len (s : St) : (rdText s 100).1.length ≤ 100 := by
  rw [text_route]
  have h1 := take_len (rdCount s (max (100 : Int) 0).toNat).2 (rdCount s (max (100 : Int) 0).toNat).1
  have h2 := rdCount_le s (max (100 : Int) 0).toNat
  have h3 : (max (100 : Int) 0).toNat = 100 := by decide
  omega
theorem says_fit {s : St} {u : TxM} (h : NextSays s u) : TxFit u := by
  refine ⟨by rw [h.1]; have := nxN_le s; omega, by rw [h.2.2.1]; have := nxM_le s; omega, fun x hx => ?_⟩
  obtain ⟨k, hk, rfl⟩ := List.mem_iff_getElem.1 hx
  have hS := h.2.1 k _ (List.getElem?_eq_getElem hk)
  show _ ≤ 200
  rw [hS.2.2]
  have := text_len (inSt2 (inSts k (nxS1 s)))
  omega
theorem TxV.ok {w : World} {B : Nat} {t : TxM} (h : TxV w B t) : (∀ x ∈ t.ins, x.ix < 4294967296) ∧ ∀ x ∈ t.outs, OutOk x := ⟨fun x hx => (h.2.1 x hx).1, h.2.2.2⟩
theorem txB_pos (t : TxM) : 0 < (txB t).length := by
  have h : 0 < (countL t.ins.length).length := by
    rw [countL_len3]
    split
    · omega
    · split
      · omega
      · split <;> omega
  unfold txB
  rw [List.length_append]
  omega
set_option maxHeartbeats 8000000 in
theorem walk (t : TxM) (w : World) (hL : Laid w) (hT : TxV w w.heap.size t) :
    Calls Tryd.prog 5 #[txv t] w fun e w' => e = .returned (.bool true) ∧ Below w.heap.size w w' := by
  have HL := Lib.hid hL
  have HT := Lib.hid hT
  obtain ⟨a, ha⟩ : ∃ a, a = t.iv := ⟨_, rfl⟩
  obtain ⟨b, hb⟩ : ∃ b, b = t.ov := ⟨_, rfl⟩
  obtain ⟨B1, hB1⟩ : ∃ B1, B1 = fitB t := ⟨_, rfl⟩
  obtain ⟨B2, hB2⟩ : ∃ B2, B2 = goodB t := ⟨_, rfl⟩
  have HF : Hid (B1 = true → TxFit t) := by show _ → _; rw [hB1]; exact (fitB_iff t).1
  have HGD : Hid (B2 = true → TxGood t) := by show _ → _; rw [hB2]; exact (goodB_iff t).1
  have HWR : Hid (∀ W, Below w.heap.size w W → Calls Tryd.prog 10 #[] W fun e w' => e = .returned (.bool true) ∧ Below W.heap.size W w') := fun W h => txwrites_any W (hL.below h hL.size)
  have HFI : Hid (∀ W, Below w.heap.size w W → Calls Tryd.prog 11 #[.agg #[t.iv, t.ov]] W fun e w' => e = .returned (.bool B1) ∧ Below W.heap.size W w') := fun W h => by rw [hB1]; exact fits_any t W ((hT.keep h (Nat.le_refl _)).mono h.size)
  have HGO : Hid (∀ W, Below w.heap.size w W → Calls Tryd.prog 17 #[.agg #[t.iv, t.ov]] W fun e w' => e = .returned (.bool B2) ∧ Below W.heap.size W w') := fun W h => by rw [hB2]; exact good_any t W ((hT.keep h (Nat.le_refl _)).mono h.size)
  have HBY : Hid (TxFit t → ∀ W, Below w.heap.size w W → Calls Tryd.prog 12 #[.agg #[t.iv, t.ov]] W fun e w' => ∃ v', e = .returned v' ∧ Mine w' W.heap.size v' (txB t) ∧ Below W.heap.size W w') := fun hf W h => tbytes_any t W ((hT.keep h (Nat.le_refl _)).mono h.size) hf
  have HR7 : Hid (TxFit t → ∀ W, Below w.heap.size w W → Calls Tryd.prog 14 #[.agg #[t.iv, t.ov]] W fun e w' => e = .returned (.string (strN (txB t))) ∧ Below W.heap.size W w') := fun hf W h => r7bytes_any t W ((hT.keep h (Nat.le_refl _)).mono h.size) hf
  have HSA : Hid (TxFit t → ∀ u W, Below w.heap.size w W → TxV W W.heap.size u → TxFit u → txB u = txB t → Calls Tryd.prog 18 #[.agg #[t.iv, t.ov], .agg #[u.iv, u.ov]] W fun e w' => e = .returned (.bool true) ∧ Below W.heap.size W w') := fun hf u W h hu hfu he => same_any t u W ((hT.keep h (Nat.le_refl _)).mono h.size) hu hf hfu he
  have HLT := Lib.hid hT.lt
  have HBK : Hid (TxGood t → nxSt (txB t, 0) = ([], 0) ∧ ∀ u, NextSays (txB t, 0) u → txB u = txB t) := fun hg => by
    have h := tx_back t [] hg (TxV.ok hT).1 (TxV.ok hT).2
    rw [List.append_nil] at h
    exact h
  show Calls Tryd.prog _ #[.agg #[t.iv, t.ov]] w _
  rw [← ha, ← hb] at HFI HGO HBY HR7 HSA ⊢
  obtain ⟨sa, na, ca, ea⟩ : ∃ s n c, a = .slice s n c := ⟨_, _, _, ha⟩
  obtain ⟨sb, nb, cb, eb⟩ : ∃ s n c, b = .slice s n c := ⟨_, _, _, hb⟩
  subst ea
  subst eb
  clear hL hT ha hb hB1 hB2
  go_enter Tryd.func5, Tryd.ntmps5
  go_upto_region 1 with fail
  refine wp_any (fun W => Below w.heap.size w W ∧ Bk W w.heap.size 25 #[.slice sa na ca, .slice sb nb cb]) ⟨(Below.refl _ _).alloc (Nat.le_refl _) _, Bk.new _ _ _⟩ ?_
  obtain ⟨g1, hg1⟩ : ∃ g1, g1 = w.heap.size := ⟨_, rfl⟩
  have HG := Lib.hid hg1
  rw [← hg1]
  clear hg1
  rintro W ⟨hW, K1⟩
  have HW : Hid (Below w.heap.size w W) := by rw [← HG.out]; exact hW
  clear hW
  go_wp2_with fail
  refine (HWR.out W HW.out).mono ?_
  rintro e W1 ⟨rfl, hb1⟩
  have K1 := K1.keep hb1
  have HW1 := Lib.hid (below_step HW.out HW.out.size hb1)
  have c0 := K1.cell 0
  have c1 := K1.cell 1
  have z1 := K1.lt
  clear hb1 HW HWR
  go_wp2_with fail
  refine (HFI.out W1 HW1.out).mono ?_
  rintro e W2 ⟨rfl, hb2⟩
  have K1 := K1.keep hb2
  have HW2 := Lib.hid (below_step HW1.out HW1.out.size hb2)
  have c0 := K1.cell 0
  have c1 := K1.cell 1
  have z1 := K1.lt
  clear hb2 HW1 HFI
  cases B1
  · go_wp2_with fail
    go_ret
    exact ⟨rfl, HW2.out⟩
  have HFT := Lib.hid (HF.out rfl)
  clear HF
  go_wp2_with fail
  refine (HGO.out W2 HW2.out).mono ?_
  rintro e W3 ⟨rfl, hb3⟩
  have K1 := K1.keep hb3
  have HW3 := Lib.hid (below_step HW2.out HW2.out.size hb3)
  have c0 := K1.cell 0
  have c1 := K1.cell 1
  have z1 := K1.lt
  clear hb3 HW2 HGO
  cases B2
  · go_wp2_with fail
    go_ret
    exact ⟨rfl, HW3.out⟩
  have HGT := Lib.hid (HGD.out rfl)
  clear HGD
  go_wp2_with fail
  refine (HBY.out HFT.out W3 HW3.out).mono ?_
  rintro e W4 ⟨v3, rfl, M3, hb4⟩
  have K1 := K1.keep hb4
  have HW4 := Lib.hid (below_step HW3.out HW3.out.size hb4)
  have HB4 := Lib.hid (M3.bs HLT.out)
  have HPL := Lib.hid (show (txB t).length ≤ 1000000 by have := txB_len t HFT.out; omega)
  have hpos := txB_pos t
  rcases M3 with ⟨_, e0⟩ | ⟨T, cap, z, hv3, hcap, hcap2, hT3, KT⟩
  · rw [e0] at hpos
    simp at hpos
  have HCP := Lib.hid (show cap = (txB t).length + z ∧ cap < 9223372036854775808 from ⟨hcap, hcap2⟩)
  have HTL : Hid (w.heap.size ≤ T ∧ T < W4.heap.size) := ⟨Nat.le_trans HW3.out.size hT3, KT.lt⟩
  have HRD := Lib.hid (tread_any v3 (txB t) W4 HB4.out HPL.out HLT.out)
  obtain ⟨n, hn⟩ : ∃ n, n = (txB t).length := ⟨_, rfl⟩
  have HN := Lib.hid hn
  rw [← hn] at hv3
  subst hv3
  have HKT := Lib.hid KT
  clear hb4 HW3 hpos hcap hcap2 hT3 KT hn HB4
  go_wp2_with fail
  refine HRD.out.mono ?_
  rintro e W5 ⟨u, he, hb5, hsy, _⟩
  have hend : rdEnd (nxSt (txB t, 0)) = 0 := by rw [(HBK.out HGT.out).1]; rfl
  obtain ⟨hsay, MU⟩ := hsy hend
  rw [hend] at he
  have K1 := K1.keep hb5
  have HW5 := Lib.hid (below_step HW4.out HW4.out.size hb5)
  have HKT := Lib.hid (HKT.out.keep hb5)
  have HUB := Lib.hid ((HBK.out HGT.out).2 u hsay)
  have HUF := Lib.hid (says_fit hsay)
  have HUS := Lib.hid hsay
  have HMU := Lib.hid MU
  obtain ⟨c, hc⟩ : ∃ c, c = u.iv := ⟨_, rfl⟩
  obtain ⟨d, hd⟩ : ∃ d, d = u.ov := ⟨_, rfl⟩
  have HSU := Lib.hid (fun W h1 h2 => HSA.out HFT.out u W h1 h2 HUF.out HUB.out)
  rw [← hc, ← hd] at HSU he
  obtain ⟨sc, nc, cc, ec⟩ : ∃ s n k, c = .slice s n k := ⟨_, _, _, hc⟩
  obtain ⟨sd, nd, cd, ed⟩ : ∃ s n c, d = .slice s n c := ⟨_, _, _, hd⟩
  subst ec
  subst ed
  subst he
  clear hb5 HW4 hsy hend hsay MU HRD HSA hc hd
  go_upto_region 7 with fail
  have hA : Below W5.heap.size W5 (W5.alloc (.cells #[.slice sc nc cc, .slice sd nd cd] 25)) := (Below.refl _ _).alloc (Nat.le_refl _) _
  refine wp_any (fun W => Below w.heap.size w W ∧ Bk W g1 25 #[.slice sa na ca, .slice sb nb cb] ∧ Bk W W5.heap.size 25 #[.slice sc nc cc, .slice sd nd cd] ∧ Bk W T 5 (idA (txB t ++ zeros z)) ∧ MineT W W4.heap.size u) ⟨below_step HW5.out HW5.out.size hA, K1.keep hA, Bk.new _ _ _, HKT.out.keep hA, HMU.out.keep hA⟩ ?_
  clear hA K1 HKT HMU HW5
  generalize W5.heap.size = g4 at *
  rintro W ⟨hW, K1, K4, KT, MU⟩
  have HW := Lib.hid hW
  have HMU := Lib.hid MU
  have HYS : Hid (n ≤ (txB t ++ zeros z).length) := by show _ ≤ _; rw [HN.out, List.length_append]; omega
  have HYB : Hid (∀ y ∈ txB t ++ zeros z, y < 256) := by
    show ∀ y ∈ _, _
    intro y hy
    rcases List.mem_append.1 hy with h | h
    · exact HLT.out y h
    · exact zeros_lt _ y h
  have hn9 : n ≤ 1000000 := by rw [HN.out]; exact HPL.out
  generalize hys0 : txB t ++ zeros z = ys0 at *
  clear hW MU hys0
  go_wp2_with fail
  go_loopw [26] (fun i wr => ∃ (k : Nat) (ys : List Nat), k ≤ n ∧ i = .int .i64 k ∧ Hid (Below w.heap.size w wr) ∧ Bk wr g1 25 #[.slice sa na ca, .slice sb nb cb] ∧ Bk wr g4 25 #[.slice sc nc cc, .slice sd nd cd] ∧ Bk wr T 5 (idA ys) ∧ Hid (n ≤ ys.length ∧ ∀ y ∈ ys, y < 256) ∧ Hid (MineT wr W4.heap.size u)) (fun i _ => n - (intOf i).toNat)
  case atStart => exact ⟨0, ys0, Nat.zero_le _, rfl, HW.out, K1, K4, KT, ⟨HYS.out, HYB.out⟩, HMU.out⟩
  case round =>
    obtain ⟨k, ys, hk, rfl, HWr, J1, J4, JT, HY, HM⟩ := hrel
    clear HW K1 K4 KT HYS HYB HMU
    by_cases hlt : k < n
    · have j1 : (k : Int) < (n : Int) := by omega
      have hcell := (JT.cell k).trans (idA_get ys k (by have := HY.out.1; omega))
      have hfz := JT.frozen k
      have hzz := JT.lt
      generalize hy : ys.getD k 0 = y at hcell
      have HW8 := Lib.hid (byte_up y)
      clear hy
      go_wp2_with fail
      go_roundw
      case rel =>
        have hb : ∀ u, But (fun j => j = T) wr (wr.setCell ⟨T, k, none⟩ u) := fun u => But.set_ (S := fun j => j = T) (But.refl _ wr) (.inl rfl) k none _
        have hTne : ∀ {g cs}, Bk wr g 25 cs → g ≠ T := fun hg e => by
          subst e
          exact absurd (Bk.type_eq hg JT) (by decide)
        refine ⟨k + 1, ys.set k ((y + 1) % 256), by omega, by go_num, HWr.out.setCell HTL.out.1 _, (hb _).keep J1 (hTne J1), (hb _).keep J4 (hTne J4), ?_, ?_, ?_⟩
        · have e := JT.set_ k (.int .u8 (((y + 1) % 256 : Nat) : Int))
          rw [idA_put] at e
          first | exact e | (rw [← HW8.out] at e; exact e)
        · refine ⟨by rw [List.length_set]; exact HY.out.1, fun x hx => ?_⟩
          rcases List.mem_or_eq_of_mem_set hx with h | h
          · exact HY.out.2 x h
          · omega
        · have hfar : ∀ {v : Value} {xs : List Nat}, Mine wr W4.heap.size v xs → ∀ j, slb v j → ¬ j = T := fun hm j hj e => by
            have h1 := (hm.slb_lo hj).1
            have h2 := HTL.out.2
            omega
          exact ⟨HM.out.1.but' (hb _) JT (by decide), fun x hx => (HM.out.2.1 x hx).but (hb _) (hfar (HM.out.2.1 x hx)), HM.out.2.2.but' (hb _) JT (by decide)⟩
      case measure => simp [intOf]; omega
    · have hkm : k = n := by omega
      have hdk : decide (k < n) = false := decide_eq_false (by omega)
      have hdk2 : decide ((k : Int) < (n : Int)) = false := decide_eq_false (by omega)
      clear hlt hkm
      go_upto_region 12 with fail
      have HWV := HWr
      have HUV := Lib.hid (HM.out.txv ⟨HPL.out, show (0 : Nat) < 1000 by omega, HLT.out, fun h => absurd rfl h⟩ HUS.out)
      have e0 : ∀ w', Below wr.heap.size wr w' → w'.cell? ⟨g1, 0, none⟩ = some (.slice sa na ca) := fun w' hb => (J1.keep hb).cell 0
      have e1 : ∀ w', Below wr.heap.size wr w' → w'.cell? ⟨g1, 1, none⟩ = some (.slice sb nb cb) := fun w' hb => (J1.keep hb).cell 1
      have e2 : ∀ w', Below wr.heap.size wr w' → w'.cell? ⟨g4, 0, none⟩ = some (.slice sc nc cc) := fun w' hb => (J4.keep hb).cell 0
      have e3 : ∀ w', Below wr.heap.size wr w' → w'.cell? ⟨g4, 1, none⟩ = some (.slice sd nd cd) := fun w' hb => (J4.keep hb).cell 1
      have HS12 : Hid (∀ W, Below wr.heap.size wr W → Calls Tryd.prog 18 #[.agg #[.slice sa na ca, .slice sb nb cb], .agg #[.slice sc nc cc, .slice sd nd cd]] W fun e w' => e = .returned (.bool true) ∧ Below W.heap.size W w') := fun W hb => HSU.out W (below_step HWr.out HWr.out.size hb) ((HUV.out.keep hb (Nat.le_refl _)).mono hb.size)
      obtain ⟨st, hst⟩ : ∃ st, st = strN (txB t) := ⟨_, rfl⟩
      have HB12 : Hid (∀ W, Below wr.heap.size wr W → Calls Tryd.prog 12 #[.agg #[.slice sa na ca, .slice sb nb cb]] W fun e w' => ∃ s m c, e = .returned (.slice s m c) ∧ (∀ w2, Below w'.heap.size w' w2 → (convert 33 9 (.slice s m c)).run Tryd.prog w2 = .ok (.string st) w2) ∧ Below W.heap.size W w') := fun W hb => by
        refine (HBY.out HFT.out W (below_step HWr.out HWr.out.size hb)).mono ?_
        rintro e w' ⟨v', rfl, M, hb'⟩
        have hbs := M.bs HLT.out
        obtain ⟨s, c, rfl⟩ := M.slice
        refine ⟨s, _, c, rfl, fun w2 h2 => ?_, hb'⟩
        rw [hst]
        exact conv_bs (hbs.keep h2 (Nat.le_refl _))
      have HR12 : Hid (∀ W, Below wr.heap.size wr W → Calls Tryd.prog 14 #[.agg #[.slice sa na ca, .slice sb nb cb]] W fun e w' => e = .returned (.string st) ∧ Below W.heap.size W w') := fun W hb => by
        rw [hst]
        exact HR7.out HFT.out W (below_step HWr.out HWr.out.size hb)
      have heq : (st.toList == st.toList) = true := by simp
      clear J1 J4 JT HY HM HSU HBY HR7 hst HUV
      go_region_held (fun w' => Below wr.heap.size wr w')
        (first | with_reducible assumption | with_reducible exact Below.refl _ _ | with_reducible exact (Below.refl _ _).drew)
        (first
          | (go_at_call 18
             with_reducible refine (HS12.out _ (by first | with_reducible assumption | with_reducible exact (Below.refl _ _).drew | with_reducible exact Below.refl _ _)).mono ?_
             rintro e w6 ⟨rfl, hb6⟩
             have hE6 : Below wr.heap.size wr w6 := by
               refine below_step ?_ ?_ hb6
               · repeat' (first | with_reducible exact Below.refl _ _ | with_reducible assumption | with_reducible exact From.out (by with_reducible assumption) | with_reducible refine Below.drew ?_ | with_reducible refine Below.setCell ?_ ?_ _ | with_reducible refine Below.alloc ?_ ?_ _ | with_reducible exact Nat.le_refl _ | omega | (simp; done) | (simp; omega) | (simp [World.drew]; done) | (simp [World.drew]; omega))
               · first | omega | (simp; done) | (simp; omega) | (simp [World.drew]; done) | (simp [World.drew]; omega)
             have z6 := hE6.size)
          | (go_at_call 12
             with_reducible refine (HB12.out _ (by first | with_reducible assumption | with_reducible exact (Below.refl _ _).drew | with_reducible exact Below.refl _ _)).mono ?_
             rintro e w7 ⟨s7, m7, c7, rfl, hc7, hb7⟩
             have hE7 : Below wr.heap.size wr w7 := by
               refine below_step ?_ ?_ hb7
               · repeat' (first | with_reducible exact Below.refl _ _ | with_reducible assumption | with_reducible exact From.out (by with_reducible assumption) | with_reducible refine Below.drew ?_ | with_reducible refine Below.setCell ?_ ?_ _ | with_reducible refine Below.alloc ?_ ?_ _ | with_reducible exact Nat.le_refl _ | omega | (simp; done) | (simp; omega) | (simp [World.drew]; done) | (simp [World.drew]; omega))
               · first | omega | (simp; done) | (simp; omega) | (simp [World.drew]; done) | (simp [World.drew]; omega)
             have z7 := hE7.size
             have hc7s := hc7 w7 (Below.refl _ _))
          | (go_at_call 14
             with_reducible refine (HR12.out _ (by first | with_reducible assumption | with_reducible exact (Below.refl _ _).drew | with_reducible exact Below.refl _ _)).mono ?_
             rintro e w8 ⟨rfl, hb8⟩
             have hE8 : Below wr.heap.size wr w8 := by
               refine below_step ?_ ?_ hb8
               · repeat' (first | with_reducible exact Below.refl _ _ | with_reducible assumption | with_reducible exact From.out (by with_reducible assumption) | with_reducible refine Below.drew ?_ | with_reducible refine Below.setCell ?_ ?_ _ | with_reducible refine Below.alloc ?_ ?_ _ | with_reducible exact Nat.le_refl _ | omega | (simp; done) | (simp; omega) | (simp [World.drew]; done) | (simp [World.drew]; omega))
               · first | omega | (simp; done) | (simp; omega) | (simp [World.drew]; done) | (simp [World.drew]; omega)
             have z8 := hE8.size
             try have hc7t := hc7 w8 hb8))
      all_goals
        first
          | (have hWE := Lib.hid (HWV.out.trans (hE8.mono HWV.out.size))
             have hz8 := hE8
             go_wp2_with fail
             go_ret
             first
               | exact ⟨rfl, hWE.out⟩
               | exact ⟨rfl, HWV.out.trans (hE7.mono HWV.out.size)⟩)

/-- The door's own heap meets the condition. -/
theorem door_met (os : Os) (args : Array Value) : laidMetH Tryd.prog laidL ((World.doorLaid Tryd.prog 19 os).forCall (fun _ _ => 0) ⟨#[], args, []⟩).memory :=
  laidMetH_of_parts3 (fuel := 8) (laidMet_of_run' 8 (by kernel_rfl) (by kernel_rfl)) (by kernel_rfl) (by kernel_rfl)

set_option maxRecDepth 100000 in
theorem lifted (os : Os) (started : os.Started) (H : Type) (enc : TypeId × Value → H) :
    ReturnsInHanded {} Tryd.checked os 5 .any (fun w args => (Rows.txOwnSpec.pre enc Tryd.prog Tryd.f5 [] false w args ∧ laidMetH Tryd.prog laidL w) ∧ sizedMet enc Tryd.prog Tryd.f5 (OpenSpec.ofChange Rows.txOwnSpec) false w args)
      (Rows.txOwnSpec.post enc Tryd.prog Tryd.f5 false true false false) := by
  refine returnsInHanded_of_change_and (C := Tryd.checked) (X := fun w _ => laidMetH Tryd.prog laidL w) (fun _ _ _ hh h => h.of_heap hh) own started (by kernel_rfl) Tryd.func5
    (ChangeSpec.witness_shaped (enc := enc) (C := Tryd.checked) (os := os) (X := fun w _ => laidMetH Tryd.prog laidL w) false (World.doorLaid Tryd.prog 19 os) #[.agg #[.slice none 0 0, .slice none 0 0]] 8 rfl (World.shaped_of_RefB (by kernel_rfl) (by kernel_rfl)) (by kernel_rfl) (by kernel_rfl) (by kernel_rfl) (door_met os _)) ?_
  intro W base args ds gs before hval0 hW _ _ hL _
  have hval : ∀ (j : Nat) t v, Tryd.f5.params[j]? = some t → args[j]? = some v → Value.okWide Tryd.prog W .any base t v := hval0
  have hW' := hW
  obtain ⟨p, q, hA0, hV, rfl, hfz, hnd⟩ := hW
  have hA : DataW.TrodAll enc Tryd.prog W 0 (fun _ => true) true Tryd.f5.params.toList args.toList ds p := hA0
  rw [Tryd.params5] at hA hval
  obtain ⟨v0, vs0, d0, ds0, p0, q0, hargs, rfl, rfl, h0, r0⟩ := trodAll_cons hA
  obtain ⟨rfl, rfl, rfl⟩ := trodAll_nil r0
  obtain rfl : args = #[v0] := by cases args; simp_all
  obtain ⟨rfl, rfl⟩ := trodVars_none hV
  have lt0 : ∀ x ∈ p0, x.block < W.heap.size := by obtain ⟨m, hm⟩ := h0; exact DataW.trod_lt m _ _ _ hm
  obtain ⟨x0, hb0, rfl⟩ := tx_arg (hval 0 25 v0 rfl rfl) h0
  have hwalk := walk x0 W (of_laid hL) hb0
  clear hA0 hval0
  refine hwalk.mono fun e W' ⟨he, bel⟩ => ?_
  subst he
  exact ⟨_, rfl, _, _, _, [], _, [], hW', trodAll_mk1 (shut_bool Tryd.underlying4 _), (trodAll_cons_mk (Below.trod laidOut (by kernel_rfl) (of_decide_eq_true (by kernel_rfl)) h0 bel lt0) trodAll_mk0), rfl, bel.frame _, fun h => by cases h⟩

theorem over : Rows.TxOwnSaid :=
  OpenClaim.holds_of_wide 5 Tryd.f5 rfl rfl rfl rfl rfl rfl rfl ⟨rfl, rfl, rfl, rfl, rfl⟩ rfl rfl rfl rfl rfl (by kernel_rfl) Tryd.func5 (by kernel_rfl)
    (of_decide_eq_true (by kernel_rfl)) (by unfold Func.isWrapper; first | (rw [if_pos (by decide +kernel)]; kernel_rfl) | (rw [if_neg (by decide +kernel)]; exact ⟨rfl, rfl⟩))
    (fun os started H enc _ => lifted os started H enc)

theorem proved : Rows.TxOwnCardSaid :=
  Claim7.holds_tied_plain_at .later [] [.data, .data] true Rows.txOwnCard.stood.harness false
    over (fun _ h => by cases h) (by kernel_rfl) (fun _ h => by cases h) txOwn_row_tie rfl ⟨rfl, rfl⟩ (by kernel_rfl) rfl
    (fun f fn hf hfn => by
      obtain rfl : f = 5 := Option.some.inj ((show Tryd.prog.funcNamed "tallystick/tallysticklaw07.TxOwn" = some 5 by kernel_rfl).symm.trans hf) |>.symm
      obtain rfl : fn = Tryd.f5 := (Option.some.inj (Tryd.func5.symm.trans hfn)).symm
      exact ⟨by kernel_rfl, fun j t ht => by
        rw [Tryd.params5] at ht
        have hm : t ∈ [25] := by simpa using Array.mem_of_getElem? ht
        have hall : ([25].all fun u => !Tryd.prog.wantsStandIn u) = true := by kernel_rfl
        exact (show Tryd.prog.wantsStandIn t = false by simpa using List.all_eq_true.1 hall t hm)⟩)
    (by kernel_rfl)
#print axioms proved
end Go.Proofs.YtccgfjkahdbboaaDoor.txOwn
