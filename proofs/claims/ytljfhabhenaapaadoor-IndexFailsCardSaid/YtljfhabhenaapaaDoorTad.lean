/-
  The contract of the tree's Add, by rules of which the bits never change.
-/
import Derived.Test.YtljfhabhenaapaaDoorAdB
namespace Go.Proofs.YtljfhabhenaapaaDoor
open Go.RowKit
set_option linter.unusedVariables false
set_option linter.unusedSimpArgs false
set_option maxRecDepth 100000
/-- What an Add leaves. -/
def AddG (w : World) (p lo : Nat) (F : Nat → Prop) (r : Ru) (L' : List Nd) (w' : World) : Prop := ∃ F', Tre w' p lo F' r L' ∧ But F w w' ∧ ∀ k, F' k → F k ∨ w.heap.size ≤ k
theorem AddG.stay {w w' : World} {p lo : Nat} {F : Nat → Prop} {r : Ru} {L : List Nd} (h : Tre w p lo F r L) (hb : Below w.heap.size w w') : AddG w p lo F r L w' := ⟨F, h.keep hb, But.of hb, fun k hk => .inl hk⟩
def prevI (h : Hd) (k : IsHd h) : I32 := ⟨h.p, k.pl, k.px⟩
theorem prev_range {w : World} {b : Nat} {h : Hd} (k : IsHd h) (K : Bk w b 32 (hdA h)) : w.rangeAt b 1 (idL (prevI h k)) := fun j u hu => by
  rw [K.cell]
  have hj : j < 32 := by have := (List.getElem?_eq_some_iff.1 hu).1; rw [idL_len] at this; exact this
  rw [hdA_p k j hj]
  unfold idL prevI at hu
  rw [List.getElem?_map] at hu
  obtain ⟨z, hz, rfl⟩ := Option.map_eq_some_iff.1 hu
  have : nth h.p j = z := by unfold nth; rw [List.getD_eq_getElem?_getD]; exact congrArg (fun o : Option Nat => o.getD 0) hz
  rw [this]
  rfl
theorem hd_range {w : World} {b : Nat} {h : Hd} (K : Bk w b 32 (hdA h)) : w.rangeAt b 0 (hdL h) := by
  have := K.range0
  unfold hdA at this
  simpa using this
theorem id0_range {w : World} {b : Nat} {y : I32} (K : Bk w b 30 (idL y).toArray) : w.rangeAt b 0 (idL y) := by
  have := K.range0
  simpa using this
theorem num_range {w : World} {b o n : Nat} (h : w.rangeAt b o (numR.c n)) : w.rangeAt b o (numR.c n) := h
theorem nd_wk {w : World} {b : Nat} {x : Nd} (hx : IsHd x.h) (K : Bk w b 45 (ndL x).toArray) : w.rangeAt b 103 (numR.c x.wk) := fun j u hu => by
  rw [K.cell, List.getElem?_toArray]
  have hj : j < 4 := (List.getElem?_eq_some_iff.1 hu).1
  rw [ndL_wk hx j hj]
  exact hu
theorem num0_range {w : World} {b n : Nat} (K : Bk w b 43 (numR.c n).toArray) : w.rangeAt b 0 (numR.c n) := by
  have := K.range0
  simpa using this
theorem find_none {L : List Nd} {y : I32} (h : findI L y.1 = none) : (findI L y.1).elim (0 : Int) (fun i => (i : Int)) = 0 ∧ (findI L y.1).isSome = false := by rw [h]; exact ⟨rfl, rfl⟩
theorem find_some {L : List Nd} {y : I32} {i : Nat} (h : findI L y.1 = some i) : (findI L y.1).elim (0 : Int) (fun i => (i : Int)) = (i : Int) ∧ (findI L y.1).isSome = true := by rw [h]; exact ⟨rfl, rfl⟩
theorem id_sizeA (y : I32) : (Tryd.prog.info? 30).map (·.size) = some (idL y).toArray.size := by rw [List.size_toArray]; exact id_sizeX y
theorem id_onesA (y : I32) : (idL y).toArray.all (·.oneCell') = true := all_oneCell_toArray (fun v hv => by
  unfold idL at hv
  simp only [List.mem_map] at hv
  obtain ⟨z, _, rfl⟩ := hv
  rfl)
def idZ : Array Value := (idL ⟨zeros 32, rfl, fun b hb => by have := List.eq_of_mem_replicate hb; omega⟩).toArray
theorem idZ_zero (w : World) : (zeroValue 30).run Tryd.prog w = .ok (.agg idZ) w := by kernel_rfl
theorem idZ_size : idZ.size = 32 := by unfold idZ; rw [List.size_toArray, idL_len]
theorem idZ_ne : (idZ = #[]) = False := eq_false (by intro h; have := congrArg Array.size h; rw [idZ_size] at this; cases this)
set_option maxHeartbeats 16000000 in
theorem tadd_any {w : World} {p lo : Nat} {F : Nat → Prop} {r : Ru} {L : List Nd} (h : Tre w p lo F r L) (he : r.ev = 0) (x : Hd) (hx : IsHd x) (now : Int) (hnow : -9223372036854775808 ≤ now ∧ now ≤ 9223372036854775807) (hLd : Laid w) (hL : L.length ≤ 16384) :
    Calls Tryd.prog 11 #[pv p, hdv x, .int .i64 now] w fun e w' => e = .returned (.tuple #[.int .i64 (addF L r.lim x now).2.1, .int .i64 (((addF L r.lim x now).2.2 : Nat) : Int)]) ∧ AddG w p lo F r (addF L r.lim x now).1 w' := by
  show Calls Tryd.prog _ #[pv p, .agg (hdA x), .int .i64 now] w _
  obtain ⟨w1, hw1⟩ : ∃ w1, w1 = w.alloc (.cells (hdA x) 32) := ⟨_, rfl⟩
  have hb1 : Below w.heap.size w w1 := by rw [hw1]; exact (Below.refl _ _).alloc (Nat.le_refl _) _
  have K1 : Bk w1 w.heap.size 32 (hdA x) := by rw [hw1]; exact Bk.new _ _ _
  have HT := Lib.hid h
  have HX := Lib.hid hx
  have HLD := Lib.hid hLd
  have HE := Lib.hid he
  have HNOW := Lib.hid hnow
  have HLL := Lib.hid hL
  have HID : Hid (∀ W, Below w.heap.size w W → Calls Tryd.prog 29 #[.agg (hdA x)] W fun e w' => e = .returned (.agg (idL (nameI x)).toArray) ∧ Below W.heap.size W w') := fun W hW => hid_any x W hx (hLd.keep hW)
  have hAs := hdA_size hx
  have hAo := hdA_one x
  have zp0 : p < w.heap.size := by obtain ⟨b, c, k⟩ := h.look; exact k.p1
  unfold pv
  obtain ⟨k4, hk4⟩ : ∃ k4, k4 = w.heap.size := ⟨_, rfl⟩
  rw [← hk4] at K1
  have HK4 := Lib.hid hk4
  have HB1 := Lib.hid hb1
  have hz := idZ_zero
  have hne := idZ_ne
  have hzs := idZ_size
  obtain ⟨Z, hZ⟩ : ∃ Z, Z = idZ := ⟨_, rfl⟩
  rw [← hZ] at hz hne hzs
  have HIDC := Lib.hid HID.out
  obtain ⟨IA, hIA⟩ : ∃ IA, IA = (idL (nameI x)).toArray := ⟨_, rfl⟩
  have hIs : IA.size = 32 := by rw [hIA, List.size_toArray, idL_len]
  have hIi : (Tryd.prog.info? 30).map (·.size) = some IA.size := by rw [hIA]; exact id_sizeA _
  have hIo : IA.all (·.oneCell') = true := by rw [hIA]; exact id_onesA _
  have HIA := Lib.hid hIA
  have HKK : Hid (Bk w1 k4 32 (hdA x)) := K1
  obtain ⟨A, hA⟩ : ∃ A, A = hdA x := ⟨_, rfl⟩
  have HA := Lib.hid hA
  rw [← hA] at hw1 hAs hAo K1 ⊢
  have HCALL : Hid (∀ W, Below w.heap.size w W → Calls Tryd.prog 29 #[.agg A] W fun e w' => e = .returned (.agg IA) ∧ Below W.heap.size W w') := by rw [hA, hIA]; exact HID.out
  clear hZ hIA hA HID HIDC h hx hLd he hnow hL
  go_enter Tryd.func11, Tryd.ntmps11
  go_upto_region 1 with fail
  rw [← hw1, ← hk4]
  clear hw1 hk4
  go_wp2_with (first | (refine wpList_load_row rfl 32 (.tmp 4) rfl k4 rfl 32 A (0, 0) _ K1 Tryd.underlying32 rfl (by rw [hAs]; exact hd_info) ?_) | fail)
  refine (HCALL.out w1 HB1.out).mono ?_
  rintro e w2 ⟨rfl, hb2⟩
  have hB2 : Below w.heap.size w w2 := HB1.out.trans (hb2.mono HB1.out.size)
  have K2 := K1.keep hb2
  have N8 := Bk.new w2 30 Z
  have hth8 : (w2.alloc (.cells Z 30)).there w2.heap.size 0 IA.size := N8.there _ (by rw [hIs, hzs]; exact Nat.le_refl _)
  have hB3 : Below w2.heap.size w2 ((w2.alloc (.cells Z 30)).setCells w2.heap.size 0 IA.toList) := Below.setCells (Nat.le_refl _) _ _ _ ((Below.refl _ _).alloc (Nat.le_refl _) _)
  have K8 : Bk ((w2.alloc (.cells Z 30)).setCells w2.heap.size 0 IA.toList) w2.heap.size 30 IA := Bk.setAll N8 (by rw [hIs, hzs])
  clear N8 hb2 K1
  go_upto_region 2 with (refine wpList_store_mid rfl 30 (.tmp 8) (.tmp 18) rfl w2.heap.size 0 IA rfl rfl hth8 hIi hIo ?_)
  refine wp_any (fun W => Below w.heap.size w W ∧ Bk W k4 32 A ∧ Bk W w2.heap.size 30 IA) ⟨hB2.trans (hB3.mono hB2.size), K2.keep hB3, K8⟩ ?_
  have hk8 : w.heap.size ≤ w2.heap.size := hB2.size
  clear hB2 hB3 K2 K8 hth8 HKK HCALL
  generalize w2.heap.size = k8 at *
  clear w2
  rintro W3 ⟨hB3, K4, K8⟩
  have HB3 := Lib.hid hB3
  have HK4B := Lib.hid K4
  have HK8B := Lib.hid K8
  have HK8 := Lib.hid hk8
  have h3 := HT.out.keep hB3
  obtain ⟨m, hcm, hmp⟩ := h3.look2
  have HC75 := Lib.hid hcm
  have zp3 := Nat.lt_of_lt_of_le zp0 hB3.size
  have z83 := K8.lt
  obtain ⟨fi, hfi⟩ : ∃ fi, fi = (findI L (nameI x).1).elim (0 : Int) (fun i => (i : Int)) := ⟨_, rfl⟩
  obtain ⟨fb, hfb⟩ : ∃ fb, fb = (findI L (nameI x).1).isSome := ⟨_, rfl⟩
  have HFI := Lib.hid hfi
  have HFB := Lib.hid hfb
  have HLK : Hid (∀ W, Below W3.heap.size W3 W → (Instr.lookup 73 (.map (some m)) (.agg (idL (nameI x)).toArray) true).run Tryd.prog W = .ok (.tuple #[.int .i64 fi, .bool fb]) W) := fun W hW => by
    have := (hmp.keep hW).look akE_ok (x := nameI x) trivial
    rw [find_val] at this
    rw [hfi, hfb]
    exact this
  have hr8 : W3.rangeAt k8 0 (idL (nameI x)) := id0_range (by rw [← HIA.out]; exact K8)
  have HM := Lib.hid hmp
  clear hB3 K4 K8 h3 hcm hmp hfi hfb hk8 HB1 hb1
  refine tadd2 p k8 m (nameI x) fi fb W3 _ _ _ _ _ _ _ _ _ _ _ _ _ _ _ _ _ _ _ _ _ _ _ _ _ _ _ _ _ _ _ _ _ _ _ _ _ _ _ _ _ _ _ _ _ _ _ _ _ _ _ _ _ _ _ _ _ _ _ _ _ _ _ _ _ _ _ _ _ _ _ _ _ _ _ _ _ _ _ _ _ _ _ _ zp3 z83 HC75 hr8 HLK (Lib.hid (fun x19 x20 x21 x22 x23 x24 x25 x26 x27 w4 hb4 => ?_))
  have HB4 := Lib.hid hb4
  clear hb4 zp3 z83 hr8 HLK
  cases hf1 : findI L (hID x) with
  | some i =>
    obtain ⟨g1, g2⟩ := find_some (y := nameI x) hf1
    rw [← HFI.out] at g1
    rw [← HFB.out] at g2
    subst g1
    subst g2
    have HR : Hid (addF L r.lim x now = (L, (i : Int), 5)) := by
      show _ = _
      unfold addF
      rw [hf1]
    have HG : Hid (AddG w p lo F r L w4) := AddG.stay HT.out (HB3.out.trans (HB4.out.mono HB3.out.size))
    clear hf1 HFI HFB
    go_wp2_with fail
    go_ret2
    rw [HR.out]
    exact ⟨rfl, HG.out⟩
  | none =>
    obtain ⟨g1, g2⟩ := find_none (y := nameI x) hf1
    rw [← HFI.out] at g1
    rw [← HFB.out] at g2
    subst g1
    subst g2
    have HF1 := Lib.hid hf1
    have hB4 : Below w.heap.size w w4 := HB3.out.trans (HB4.out.mono HB3.out.size)
    have HB4w := Lib.hid hB4
    have K44 := HK4B.out.keep HB4.out
    have K84 := HK8B.out.keep HB4.out
    have HK44 := Lib.hid K44
    have HK84 := Lib.hid K84
    have zp4 := Nat.lt_of_lt_of_le zp0 hB4.size
    have z44 := K44.lt
    have HC754 : Hid (w4.cell? ⟨p, 75, none⟩ = some (.map (some m))) := (HB4.out.cell (p := ⟨p, 75, none⟩) (Nat.lt_of_lt_of_le zp0 HB3.out.size)).trans HC75.out
    obtain ⟨fi2, hfi⟩ : ∃ fi2, fi2 = (findI L (prevI x HX.out).1).elim (0 : Int) (fun i => (i : Int)) := ⟨_, rfl⟩
    obtain ⟨fb2, hfb⟩ : ∃ fb2, fb2 = (findI L (prevI x HX.out).1).isSome := ⟨_, rfl⟩
    have HFI2 := Lib.hid hfi
    have HFB2 := Lib.hid hfb
    have HLK : Hid (∀ W, Below w4.heap.size w4 W → (Instr.lookup 73 (.map (some m)) (.agg (idL (prevI x HX.out)).toArray) true).run Tryd.prog W = .ok (.tuple #[.int .i64 fi2, .bool fb2]) W) := fun W hW => by
      have := ((HM.out.keep HB4.out).keep hW).look akE_ok (x := prevI x HX.out) trivial
      rw [find_val] at this
      rw [hfi, hfb]
      exact this
    have hr4 : w4.rangeAt k4 1 (idL (prevI x HX.out)) := prev_range HX.out (by rw [← HA.out]; exact K44)
    clear hB4 K44 K84 hfi hfb hf1 HFI HFB
    go_upto_region 5 with fail
    refine tadd5 p k4 m (prevI x HX.out) fi2 fb2 w4 _ _ _ _ _ _ _ _ _ _ _ _ _ _ _ _ _ _ _ _ _ _ _ _ _ _ _ _ _ _ _ _ _ _ _ _ _ _ _ _ _ _ _ _ _ _ _ _ _ _ _ _ _ _ _ _ _ _ _ _ _ _ _ _ _ _ _ _ _ _ _ _ _ _ _ _ _ _ _ _ _ _ _ _ zp4 z44 HC754 hr4 HLK (Lib.hid (fun x30 x31 x32 x33 x34 x35 x36 x37 x38 x39 w5 hb5 => ?_))
    have HB5 := Lib.hid hb5
    have HB5w := Lib.hid (HB4w.out.trans (hb5.mono HB4w.out.size))
    clear hb5 zp4 z44 hr4 HLK
    cases hf2 : findI L x.p with
    | none =>
      obtain ⟨g1, g2⟩ := find_none (y := prevI x HX.out) hf2
      rw [← HFI2.out] at g1
      rw [← HFB2.out] at g2
      subst g1
      subst g2
      have HR : Hid (addF L r.lim x now = (L, -1, 100)) := by
        show _ = _
        unfold addF
        rw [HF1.out]
        show (match findI L x.p with | none => _ | some p => _) = _
        rw [hf2]
      have HG : Hid (AddG w p lo F r L w5) := AddG.stay HT.out HB5w.out
      clear hf2 HFI2 HFB2
      go_wp2_with fail
      go_ret2
      rw [HR.out]
      exact ⟨rfl, HG.out⟩
    | some q =>
      obtain ⟨g1, g2⟩ := find_some (y := prevI x HX.out) hf2
      rw [← HFI2.out] at g1
      rw [← HFB2.out] at g2
      subst g1
      subst g2
      have hqs := findI_some hf2
      have HQS := Lib.hid hqs
      obtain ⟨cd, hcd⟩ : ∃ cd, cd = fitsV L r.lim x (q : Int) now := ⟨_, rfl⟩
      have HCD := Lib.hid hcd
      have HADD : Hid (addF L r.lim x now = if fitsV L r.lim x (q : Int) now ≠ 0 then (L, -1, fitsV L r.lim x (q : Int) now) else if 16384 ≤ L.length then (L, -1, 3) else (L ++ [childN L x q (((ndA L q).wk + workN x) % M256)], (L.length : Int), 0)) := by
        show _ = _
        unfold addF
        rw [HF1.out]
        show (match findI L x.p with | none => _ | some p => _) = _
        rw [hf2]
      have K45 := HK44.out.keep HB5.out
      have K85 := HK84.out.keep HB5.out
      have HK45 := Lib.hid K45
      have HK85 := Lib.hid K85
      have HFT : Hid (Calls Tryd.prog 33 #[.pointer (some ⟨p, 0, none⟩), .agg A, .int .i64 (q : Int), .int .i64 now] w5 fun e w' => e = .returned (.int .i64 (cd : Int)) ∧ Below w5.heap.size w5 w') := by
        rw [hcd, HA.out]
        exact fits_any (HT.out.keep HB5w.out) HE.out x HX.out (q : Int) now HNOW.out (HLD.out.keep HB5w.out)
      clear hf2 HFI2 HFB2 hcd hqs K85
      go_wp2_with (first | (refine wpList_load_row rfl 32 (.tmp 4) rfl k4 rfl 32 A (0, 0) _ K45 Tryd.underlying32 rfl (by rw [hAs]; exact hd_info) ?_) | fail)
      refine HFT.out.mono ?_
      rintro e w6 ⟨rfl, hb6⟩
      have HB6w := Lib.hid (HB5w.out.trans (hb6.mono HB5w.out.size))
      have K46 := HK45.out.keep hb6
      have K86 := HK85.out.keep hb6
      have HK46 := Lib.hid K46
      have HK86 := Lib.hid K86
      clear hb6 K45 K46 K86
      by_cases hc0 : cd = 0
      · subst hc0
        have hfz : fitsV L r.lim x (q : Int) now = 0 := HCD.out.symm
        have HFZ := Lib.hid hfz
        obtain ⟨b, c, kk⟩ := (HT.out.keep HB6w.out).look
        have c74 := kk.c1
        have zp6 := kk.p1
        have zb6 := kk.b1
        have HATQ := Lib.hid (kk.at_ q HQS.out.1)
        have hT := kk.ok
        have hndx := hT.hd _ (ndA_mem HQS.out.1)
        have HNDX := Lib.hid hndx
        have HTK := Lib.hid hT
        obtain ⟨n, hn⟩ : ∃ n, n = L.length := ⟨_, rfl⟩
        have HN := Lib.hid hn
        rw [← hn] at c74
        have hn6 : n ≤ 16384 := by rw [hn]; exact HLL.out
        by_cases hful : 16384 ≤ n
        · have d1 : decide ((16384 : Int) ≤ (n : Int)) = true := decide_eq_true (by omega)
          have d2 : decide (16384 ≤ n) = true := decide_eq_true hful
          have HR : Hid (addF L r.lim x now = (L, -1, 3)) := by
            show _ = _
            rw [HADD.out, if_neg (by rw [hfz]; simp), if_pos (by rw [← hn]; exact hful)]
          have HG : Hid (AddG w p lo F r L w6) := AddG.stay HT.out HB6w.out
          clear kk hT hndx hfz hn hful
          go_wp2_with fail
          go_ret2
          rw [HR.out]
          exact ⟨rfl, HG.out⟩
        · have d1 : decide ((16384 : Int) ≤ (n : Int)) = false := decide_eq_false (by omega)
          have d2 : decide (16384 ≤ n) = false := decide_eq_false hful
          have hq : q < n := by rw [hn]; exact HQS.out.1
          have HQN := Lib.hid hq
          have HR : Hid (addF L r.lim x now = (L ++ [childN L x q (((ndA L q).wk + workN x) % M256)], (L.length : Int), 0)) := by
            show _ = _
            rw [HADD.out, if_neg (by rw [hfz]; simp), if_neg (by rw [← hn]; exact hful)]
          have hz := nz_zero
          have hne := nz_ne
          have hzs := nz_size
          obtain ⟨ZN, hZN⟩ : ∃ ZN, ZN = nz.toArray := ⟨_, rfl⟩
          rw [← hZN] at hz hne hzs
          obtain ⟨y, hy⟩ : ∃ y, y = ndA L q := ⟨_, rfl⟩
          have HY := Lib.hid hy
          rw [← hy] at hndx
          have hrq : w6.rangeAt b (q * 108) (ndL y) := by rw [hy]; exact HATQ.out.r
          have hsz := nd_sizeL hndx
          have N14 := Bk.new w6 45 ZN
          have hlen := ndL_len hndx
          have hth : (w6.alloc (.cells ZN 45)).there w6.heap.size 0 (ndL y).toArray.size := N14.there _ (by rw [List.size_toArray, hlen, hzs]; exact Nat.le_refl _)
          have hB7 : Below w6.heap.size w6 ((w6.alloc (.cells ZN 45)).setCells w6.heap.size 0 (ndL y)) := Below.setCells (Nat.le_refl _) _ _ _ ((Below.refl _ _).alloc (Nat.le_refl _) _)
          have K14 : Bk ((w6.alloc (.cells ZN 45)).setCells w6.heap.size 0 (ndL y)) w6.heap.size 45 (ndL y).toArray := Bk.setAll (xs := (ndL y).toArray) N14 (by rw [List.size_toArray, hlen, hzs])
          have hrA : (w6.alloc (.cells ZN 45)).rangeAt b (q * 108) (ndL y) := rowr_below hrq ((Below.refl _ _).alloc (Nat.le_refl _) _ : Below w6.heap.size w6 _) zb6
          clear kk hT hfz hn hful hZN hy N14 hn6
          go_upto_region 14 with (first | (refine wpList_load_mid rfl 45 (.tmp 61) rfl b (q * 108) rfl (ndL y) _ hrq Tryd.underlying45 rfl hsz ?_) | (refine wpList_load_mid rfl 45 (.tmp 61) rfl b (q * 108) rfl (ndL y) _ hrA Tryd.underlying45 rfl hsz ?_) | (refine wpList_store_mid rfl 45 (.tmp 14) (.tmp 62) rfl w6.heap.size 0 (ndL y).toArray rfl rfl hth (nd_sizeA hndx) (nd_onesA y) ?_))
          refine wp_any (fun W => Below w.heap.size w W ∧ Bk W k4 32 A ∧ Bk W k8 30 IA ∧ Bk W w6.heap.size 45 (ndL y).toArray) ⟨HB6w.out.trans (hB7.mono HB6w.out.size), HK46.out.keep hB7, HK86.out.keep hB7, K14⟩ ?_
          have hk14 : w.heap.size ≤ w6.heap.size := HB6w.out.size
          have HK14 := Lib.hid hk14
          clear hB7 K14 hrA hrq hth HATQ c74 zp6 zb6 hk14
          generalize w6.heap.size = k14 at *
          clear HK46 HK86 HB6w HFT HK45 HK85 HK44 HK84 HB5w HB5 HB4w HB4 HB3 HK4B HK8B HM HC75 HC754
          clear w6 w5 w4 W3
          rintro W7 ⟨hB7, K47, K87, K147⟩
          have HB7 := Lib.hid hB7
          have HK47 := Lib.hid K47
          have HK87 := Lib.hid K87
          have HK147 := Lib.hid K147
          have z47 := K47.lt
          have z147 := K147.lt
          have hyM : y.wk < M256 := by rw [HY.out]; exact HTK.out.wk _ (ndA_mem HQS.out.1)
          have hwM : workN x < M256 := by unfold workN workV; split
                                          · decide
                                          · exact Nat.mod_lt _ (by decide)
          have HWK : Hid (∀ W, Below W7.heap.size W7 W → Calls Tryd.prog 30 #[.agg (hdA x)] W fun e w' => e = .returned (nv (workN x)) ∧ Below W.heap.size W w') := fun W hW => wk_any x HX.out W
          have hr47 : W7.rangeAt k4 0 (hdL x) := hd_range (by rw [← HA.out]; exact K47)
          have hr147 : W7.rangeAt k14 103 (numR.c y.wk) := nd_wk hndx K147
          rw [HA.out]
          clear hB7 K47 K87 K147
          refine tadd14 k4 k14 y.wk (workN x) x W7 _ _ _ _ _ _ _ _ _ _ _ _ _ _ _ _ _ _ _ _ _ _ _ _ _ _ _ _ _ _ _ _ _ _ _ _ _ _ _ _ _ _ _ _ _ _ _ _ _ _ _ _ _ _ _ _ _ _ _ _ _ _ _ _ _ _ _ _ _ _ _ _ _ _ _ _ _ _ _ _ _ _ _ _ z47 z147 hyM hwM HX.out hr47 hr147 HWK (Lib.hid (fun x16 x63 x64 x65 x66 x67 x68 x69 x70 x71 k15 w8 hb8 h15 => ?_))
          have HB8w := Lib.hid (HB7.out.trans (hb8.mono HB7.out.size))
          have K48 := HK47.out.keep hb8
          have K88 := HK87.out.keep hb8
          have K148 := HK147.out.keep hb8
          have hk15 : w.heap.size ≤ k15 := Nat.le_trans HB7.out.size h15.1
          have K158 := h15.2
          have HK48 := Lib.hid K48
          obtain ⟨S, hS⟩ : ∃ S, S = [y.wk, workN x].sum % M256 := ⟨_, rfl⟩
          have hS2 : S = ((ndA L q).wk + workN x) % M256 := by rw [hS, HY.out]; simp
          rw [← hS] at K158
          have HS2 := Lib.hid hS2
          have hFlt : ∀ k, F k → k < w.heap.size := fun k hk => (HT.out.lt hk).2
          have n4 : ¬ F k4 := fun hc => by have := hFlt _ hc; have := HK4.out; omega
          have n8 : ¬ F k8 := fun hc => by have := hFlt _ hc; have := HK8.out; omega
          have n14 : ¬ F k14 := fun hc => by have := hFlt _ hc; have := HK14.out; omega
          have n15 : ¬ F k15 := fun hc => by have := hFlt _ hc; omega
          have z4 := K48.lt
          have z8 := K88.lt
          have z14 := K148.lt
          have z15 := K158.lt
          have hr4 : w8.rangeAt k4 0 (hdL x) := hd_range (by rw [← HA.out]; exact K48)
          have hr8 : w8.rangeAt k8 0 (idL (nameI x)) := id0_range (by rw [← HIA.out]; exact K88)
          have HC14 : Hid (w8.cell? ⟨k14, 102, none⟩ = some (.int .i64 (y.ht : Int))) := by
            show _ = _
            rw [K148.cell, List.getElem?_toArray]
            exact ndL_tail hndx 2
          have hr15 : w8.rangeAt k15 0 (numR.c S) := num0_range K158
          have hhl : y.ht ≤ 16384 := by
            have := HTK.out.ht_le HQS.out.1
            rw [← HY.out] at this
            have := HQS.out.1
            have := HLL.out
            omega
          have hwr : IntKind.i64.wrap ((y.ht : Int) + 1) = ((y.ht + 1 : Nat) : Int) := by rw [IntWalk.i64_in _ (by omega)]; omega
          have HSK : Hid (∀ W, Below w8.heap.size w8 W → Calls Tryd.prog 35 #[.pointer (some ⟨p, 0, none⟩), .int .i64 (q : Int)] W fun e w' => e = .returned (.int .i64 ((skipN L q : Nat) : Int)) ∧ Below W.heap.size W w') := fun W hW => skip_any ((HT.out.keep HB8w.out).keep hW) q HQS.out.1 (by have := HLL.out; omega)
          have hch : (⟨x, (q : Int), skipN L q, y.ht + 1, S, false⟩ : Nd) = childN L x q (((ndA L q).wk + workN x) % M256) := by
            rw [hS2, HY.out]; rfl
          have HPUT : Hid (∀ W, Below w8.heap.size w8 W → Calls Tryd.prog 28 #[.pointer (some ⟨p, 0, none⟩), .agg (ndL ⟨x, (q : Int), skipN L q, y.ht + 1, S, false⟩).toArray] W fun e w' => e = .returned (.int .i64 (L.length : Int)) ∧ But F w8 w' ∧ AddG w p lo F r (addF L r.lim x now).1 w') := fun W hW => by
            have hBW := HB8w.out.trans (hW.mono HB8w.out.size)
            obtain ⟨v', m', hV, hFe⟩ := (HT.out.keep HB8w.out).keep hW
            have hT2 := addF_ok HTK.out (lim := r.lim) HX.out now
            rw [HR.out] at hT2
            rw [hch]
            refine (put_raw hV.hr hV.blk hV.row hV.mp hV.lp (childN L x q (((ndA L q).wk + workN x) % M256)) HX.out HF1.out (by have := HLL.out; omega)).mono ?_
            rintro e w' ⟨rfl, v2, hP⟩
            have hbF : But F W w' := by rw [hFe]; exact hP.but
            refine ⟨rfl, (But.of (S := F) hW).trans hbF (fun _ _ h => h), ?_⟩
            rw [HR.out]
            refine ⟨F0 p v2 m', ⟨v2, m', ⟨hT2, hV.hr, hP.blk, hP.row, hP.mp, hV.lp, hV.lm⟩, rfl⟩, (But.of (S := F) hBW).trans hbF (fun _ _ h => h), fun k hk => ?_⟩
            rw [hFe]
            rcases hk with rfl | hk | rfl
            · exact .inl (.inl rfl)
            · rcases hP.new k hk with h1 | h1
              · exact .inl (.inr (.inl h1))
              · exact .inr (Nat.le_trans hBW.size h1)
            · exact .inl (.inr (.inr rfl))
          clear K48 K88 K148 K158 hb8 h15 hS hch hFlt HK47 HK87 HK147 hr47 hr147 z47 z147
          go_upto_region 15 with fail
          refine tadd15 p k4 k8 k14 k15 q (skipN L q) y.ht (y.ht + 1) S L.length x F (AddG w p lo F r (addF L r.lim x now).1) w8 _ _ _ _ _ _ _ _ _ _ _ _ _ _ _ _ _ _ _ _ _ _ _ _ _ _ _ _ _ _ _ _ _ _ _ _ _ _ _ _ _ _ _ _ _ _ _ _ _ _ _ _ _ _ _ _ _ _ _ _ _ _ _ _ _ _ _ _ _ _ _ _ _ _ _ _ _ _ _ _ HX.out z4 n4 hr4 z8 n8 hr8 z14 n14 HC14 hwr z15 n15 hr15 HSK HPUT (Lib.hid (fun x72 x73 x74 x75 x76 x77 x78 x79 x80 x81 x82 x83 x84 w9 hG => ?_))
          have HG := Lib.hid hG
          clear hG hr4 hr8 hr15 HSK HPUT
          go_wp2_with fail
          go_ret2
          exact ⟨by rw [HR.out]; rfl, HG.out⟩
      · have d1 : ((cd : Int) != 0) = true := by simp; omega
        have HR : Hid (addF L r.lim x now = (L, -1, cd)) := by
          show _ = _
          rw [HADD.out, if_pos (by rw [← HCD.out]; exact hc0), ← HCD.out]
        have HG : Hid (AddG w p lo F r L w6) := AddG.stay HT.out HB6w.out
        clear hc0
        go_wp2_with fail
        go_ret2
        rw [HR.out]
        exact ⟨rfl, HG.out⟩
end Go.Proofs.YtljfhabhenaapaaDoor
