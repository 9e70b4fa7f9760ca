/-
  What is proved: for every list of names, every place and every other name the law MerkleOther returns true, and its arguments read behind the call as they read before; the two listed tables of package hash are taken to hold what the program's text lays in them, and the card ties them to it.
-/
import Derived.Test.YtecmgojecjenmaaDoorMerJ
import Derived.Test.YtecmgojecjenmaaDoorMotC
import Derived.Test.YtecmgojecjenmaaDoorMotR
import Derived.Test.YtecmgojecjenmaaDoorIdArg
import Derived.Test.YtecmgojecjenmaaDoorTie
import Derived.Test.YtecmgojecjenmaaDoorCards
import Derived.Stop.Joined
namespace Go.Proofs.YtecmgojecjenmaaDoor.merkleOther
open Go.ChangeShapes Go.WideShapes Go.ChangeAt Go.RowKit
set_option linter.unusedVariables false

theorem own : ownKnob Tryd.prog.godebug = none := by kernel_rfl
theorem laidOut : laidOutB Tryd.prog = true := by kernel_rfl
theorem wf_i64 {z : Int} (h : (Lit.int .i64 z).wf = true) : -9223372036854775808 ≤ z ∧ z ≤ 9223372036854775807 := by
  simp [Lit.wf, IntKind.min, IntKind.max, IntKind.signed, IntKind.bits] at h
  omega

open Go.Proofs.YtecmgojecjenmaaDoor.merkleOther
set_option linter.unusedSimpArgs false
theorem leads_cut (a : List Nat) (p : Int) (x : List Nat) : leadsW a p [x] = if p % 2 = 0 then H2 a x else H2 x a := rfl
theorem there_drew' {w : World} {b n : Nat} (h : w.there b 0 n) : w.drew.there b 0 n := (World.there_drew w b 0 n).2 h
set_option maxRecDepth 100000 in
set_option maxHeartbeats 1000000 in
theorem walk_out (a : Int) (s : Option Addr) (n c : Nat) (y : List Nat) (w : World) (hL : Laid w) (h : 30 < n ∨ ¬ 30 < n ∧ a < 0 ∨ ¬ 30 < n ∧ ¬ a < 0 ∧ (n : Int) ≤ a) :
    Calls Tryd.prog 4 #[.slice s n c, .int .i64 a, idv y] w fun e w' => e = .returned (.bool true) ∧ Below w.heap.size w w' := by
  have hA : Below w.heap.size w (w.alloc (.cells (idA y) 27)) := (Below.refl _ _).alloc (Nat.le_refl _) _
  have HJ := Lib.hid (joins_any _ (hL.keep hA))
  clear hL
  rcases h with h | ⟨h0, h⟩ | ⟨h0, h1, h⟩
  all_goals
    try have hd : decide ((30 : Int) < (n : Int)) = true := decide_eq_true (by omega)
    try have hd : decide ((30 : Int) < (n : Int)) = false := decide_eq_false (by omega)
    try have hd2 : decide (a < 0) = true := decide_eq_true h
    try have hd2 : decide (a < 0) = false := decide_eq_false h1
    try have hd3 : decide ((n : Int) ≤ a) = true := decide_eq_true h
    go_enter Tryd.func4, Tryd.ntmps4
    go_wp2_with fail
    refine HJ.out.mono ?_
    rintro e w1 ⟨rfl, hb1⟩
    have hW := below_step hA (by simp) hb1
    clear hb1 HJ
    go_wp2_with fail
    go_ret
    exact ⟨rfl, hW⟩
set_option maxRecDepth 100000 in
set_option maxHeartbeats 8000000 in
theorem walk_inn (k : Nat) (L : List (List Nat)) (y : List Nat) (s : Option Addr) (c : Nat) (w : World) (hL : Laid w) (hy : IsId y) (hv : IdsV w w.heap.size (.slice s L.length c) L) (hn : ¬ 30 < L.length) (hk : k < L.length) :
    Calls Tryd.prog 4 #[.slice s L.length c, .int .i64 (k : Int), idv y] w fun e w' => e = .returned (.bool true) ∧ Below w.heap.size w w' := by
  have HL := Lib.hid hL
  have hA : Below w.heap.size w (w.alloc (.cells (idA y) 27)) := (Below.refl _ _).alloc (Nat.le_refl _) _
  have HJ := Lib.hid (joins_any _ (hL.keep hA))
  have hids := hv.ids
  obtain ⟨b, o, rfl, hbl, _, hr⟩ := hv.at_ (fun h => by rw [h] at hk; simp at hk)
  have HRX := Lib.hid (hr k _ (nthI_get hk))
  have HX := Lib.hid (nthI_id hids hk)
  have HY := Lib.hid hy
  have hbelow : ∀ W, Below w.heap.size w W → IdsV W W.heap.size (.slice (some ⟨b, o, none⟩) L.length c) L := fun W h => (hv.keep h (Nat.le_refl _)).mono h.size
  have HWY := Lib.hid (fun W (h : Below w.heap.size w W) => way_any k _ L W (hL.below h hL.size) (hbelow W h) hk (by omega))
  have HRT := Lib.hid (fun W (h : Below w.heap.size w W) => root_any _ L W (hL.below h hL.size) (hbelow W h) (by omega))
  have hlead := way_leads L k false hk
  have e : (rootV L).1 = (rootW L false).1 := by unfold rootV; rw [if_neg (by omega)]
  rw [← e] at hlead
  have HWI := Lib.hid (wayW_ids L k hids hk)
  have hwl : (wayW L k).length ≤ 30 := by rw [wayW_length]; have := levN_le L.length; omega
  have HWL := Lib.hid hwl
  have HLD : Hid (∀ v W, Laid W → IdsV W W.heap.size v (wayW L k) → Calls Tryd.prog 15 #[idv y, .int .i64 (k : Int), v] W fun e w' => e = .returned (idv (leadsW y (k : Int) (wayW L k))) ∧ Below W.heap.size W w') := fun v W h1 h2 => leads_any y (k : Int) v _ W h1 hy (by omega) h2 (by omega)
  have HLI := Lib.hid (leadsW_id y (k : Int) (wayW L k) hy)
  have HQ := Lib.hid (rootV_id L hids)
  have HLE := Lib.hid hlead
  have HLY : Hid (leadsW y (k : Int) (wayW L k) = leadsW y (k : Int) (wayW L k)) := rfl
  clear hlead e hbelow hr hwl
  generalize (rootV L).1 = q at *
  generalize (rootV L).2 = tw at *
  generalize nthI L k = x at *
  generalize wayW L k = wy at *
  obtain ⟨lo, hlo⟩ : ∃ lo, lo = leadsW y (k : Int) wy := ⟨_, rfl⟩
  rw [← hlo] at HLD HLI
  have HLO := Lib.hid hlo
  obtain ⟨n, hnl⟩ : ∃ n, n = L.length := ⟨_, rfl⟩
  rw [← hnl] at hk hn HWY HRT ⊢
  have hd : decide ((30 : Int) < (n : Int)) = false := decide_eq_false (by omega)
  have hd2 : decide ((k : Int) < 0) = false := decide_eq_false (by omega)
  have hd3 : decide ((n : Int) ≤ (k : Int)) = false := decide_eq_false (by omega)
  have hd3' : decide (n ≤ k) = false := decide_eq_false (by omega)
  have hql := HQ.out.1
  have hxl := HX.out.1
  have hyl := HY.out.1
  have hll := HLI.out.1
  have hkn : (k : Int) < (n : Int) := by omega
  clear hv hL hids hnl hlo HLY hy
  go_enter Tryd.func4, Tryd.ntmps4
  go_wp2_with fail
  refine HJ.out.mono ?_
  rintro e w1 ⟨rfl, hb1⟩
  have K5 : Bk w1 w.heap.size 27 (idA y) := Bk.keep (Bk.new _ _ _) hb1
  have hW1 := below_step hA (by simp) hb1
  have HWY1 := Lib.hid (HWY.out w1 hW1)
  have hW := Lib.hid hW1
  clear hb1 HJ HWY hA hW1
  go_wp2_with fail
  refine HWY1.out.mono ?_
  rintro e w2 ⟨v2, rfl, M, hb⟩
  have K5 := K5.keep hb
  have hW2 := hW.out.trans (hb.mono hW.out.size)
  have HRT1 := Lib.hid (HRT.out w2 hW2)
  have hW := Lib.hid hW2
  have hM := M.ids HWI.out
  obtain ⟨s2, c2, e2⟩ := M.slice
  subst e2
  have hM := Lib.hid hM
  clear hb HWY1 M hW2 HRT
  go_wp2_with fail
  refine HRT1.out.mono ?_
  rintro e w3 ⟨rfl, hb⟩
  have K5 := K5.keep hb
  have hM := Lib.hid ((hM.out.keep hb (Nat.le_refl _)).mono hb.size)
  have hW := Lib.hid (hW.out.trans (hb.mono hW.out.size))
  have N0 := Bk.new w3 27 (idA (zeros 32))
  clear hb HRT1
  go_upto_region 7 with (refine wpList_store_mid rfl 27 (.tmp 9) (.tmp 41) rfl w3.heap.size 0 (idA q) rfl rfl (by rw [idA_size, hql]; exact N0.there 32 (by rw [idA_size]; decide)) (by rw [idA_size, hql]; exact id_info') (id_ones _) ?_)
  have hA3 : Below w3.heap.size w3 ((w3.alloc (.cells (idA (zeros 32)) 27)).setCells w3.heap.size 0 (idA q).toList) := Below.setCells (Nat.le_refl _) _ _ _ ((Below.refl _ _).alloc (Nat.le_refl _) _)
  refine wp_any (fun V => Below w.heap.size w V ∧ Bk V w3.heap.size 27 (idA q) ∧ Laid V ∧ IdsV V V.heap.size (.slice s2 wy.length c2) wy ∧ V.rangeAt b (o + k * 32) (idA x).toList ∧ Bk V w.heap.size 27 (idA y)) ⟨hW.out.trans (hA3.mono hW.out.size), N0.setAll (by rw [idA_size, idA_size, hql]; rfl), HL.out.below (hW.out.trans (hA3.mono hW.out.size)) HL.out.size, (hM.out.keep hA3 (Nat.le_refl _)).mono hA3.size, idr_below HRX.out (hW.out.trans (hA3.mono hW.out.size)) hbl, K5.keep hA3⟩ ?_
  have hb3 := hW.out.size
  generalize w3.heap.size = g9 at *
  clear N0 hA3 hW hM K5
  rintro V ⟨hW, R, hLV, hM, hrx, K5⟩
  have HLR := Lib.hid hLV
  have HM := Lib.hid hM
  have hbV : b < V.heap.size := Nat.lt_of_lt_of_le hbl hW.size
  have HW := Lib.hid hW
  have hs5 : w.heap.size ≤ V.heap.size := hW.size
  generalize hg5 : w.heap.size = g5 at *
  clear hLV hM
  go_upto_region 9 with fail
  have z5 := K5.lt
  have z9 := R.lt
  have heq1 : ∀ W, (Op.equalIn 10000 27 (.agg (idA y)) (.agg (idA x))).run Tryd.prog W = .ok (decide (y = x)) W := fun W => id_eql y x hyl hxl W
  have heq2 : ∀ W, (Op.equalIn 10000 27 (.agg (idA lo)) (.agg (idA q))).run Tryd.prog W = .ok (decide (lo = q)) W := fun W => id_eql lo q hll hql W
  have hk0 : (0 : Int) ≤ (k : Int) := by omega
  by_cases e1 : y = x
  · rw [decide_eq_true e1] at heq1
    refine region9a g5 g9 b o k n c wy.length c2 s2 true V x y q lo _ _ _ _ _ _ _ _ _ _ _ _ _ _ _ _ _ _ _ _ _ _ _ _ _ _ _ _ _ _ _ _ _ _ _ _ _ _ _ _ _ _ _ _ _ _ _ _ _ _ _ _ _ _ _ _ _ _ _ _ _ _ _ _ _ _ _ _ _ _ _ _ _ _ _ _ _ _ _ _ _ _ _ _ _ _ _ _ _ _ _ _ HX HY HQ ⟨hk0, hkn⟩ K5 R ⟨hbV, hrx⟩ heq1 rfl (fun x45 x46 x47 x48 x49 x50 x51 x52 x53 x54 x55 x56 x57 w' hb => ?_)
    go_wp2_with fail
    go_ret
    exact ⟨rfl, by rw [hg5]; exact HW.out.trans (hb.mono hs5)⟩
  rw [decide_eq_false e1] at heq1
  have E1 := Lib.hid e1
  clear e1
  by_cases e2 : lo = q
  rotate_left
  · rw [decide_eq_false e2] at heq2
    refine region9b g5 g9 b o k n c wy.length c2 s2 true V x y q lo wy _ _ _ _ _ _ _ _ _ _ _ _ _ _ _ _ _ _ _ _ _ _ _ _ _ _ _ _ _ _ _ _ _ _ _ _ _ _ _ _ _ _ _ _ _ _ _ _ _ _ _ _ _ _ _ _ _ _ _ _ _ _ _ _ _ _ _ _ _ _ _ _ _ _ _ _ _ _ _ _ _ _ _ _ _ _ _ _ _ _ _ _ HX HY HQ ⟨hk0, hkn⟩ K5 R ⟨hbV, hrx⟩ heq1 heq2 HLR HM HLD (fun x45 x46 x47 x48 x49 x50 x51 x52 x53 x54 x55 x56 x57 w' hb => ?_)
    go_wp2_with fail
    go_ret
    exact ⟨rfl, by rw [hg5]; exact HW.out.trans (hb.mono hs5)⟩
  have E2 := Lib.hid e2
  rw [decide_eq_true e2] at heq2
  clear e2
  refine region9b g5 g9 b o k n c wy.length c2 s2 false V x y q lo wy _ _ _ _ _ _ _ _ _ _ _ _ _ _ _ _ _ _ _ _ _ _ _ _ _ _ _ _ _ _ _ _ _ _ _ _ _ _ _ _ _ _ _ _ _ _ _ _ _ _ _ _ _ _ _ _ _ _ _ _ _ _ _ _ _ _ _ _ _ _ _ _ _ _ _ _ _ _ _ _ _ _ _ _ _ _ _ _ _ _ _ _ HX HY HQ ⟨hk0, hkn⟩ K5 R ⟨hbV, hrx⟩ heq1 heq2 HLR HM HLD (fun x45 x46 x47 x48 x49 x50 x51 x52 x53 x54 x55 x56 x57 w7 hV7 => ?_)
  have K5b := K5.below hV7 z5
  have hrx7 := idr_below hrx hV7 hbV
  have HW7 : Hid (Below g5 w w7) := HW.out.trans (hV7.mono hs5)
  have HM7 := Lib.hid ((HM.out.keep hV7 (Nat.le_refl _)).mono hV7.size)
  have HL7 := Lib.hid (HLR.out.below hV7 HLR.out.size)
  have hb7s : b < w7.heap.size := Nat.lt_of_lt_of_le hbV hV7.size
  have hs57 : g5 ≤ w7.heap.size := Nat.le_trans hs5 hV7.size
  clear heq1 heq2 HLD HLR HM hW R K5 hrx HW hV7 z5 z9 hbV hbl HLI hs5
  go_upto_region 11 with fail
  refine region11 g5 b o k n c w7 x y HX.out HY.out K5b hrx7 hb7s hk (by omega) _ _ _ _ _ _ _ _ _ _ _ _ _ _ _ _ _ _ _ _ _ _ _ _ _ _ _ _ _ _ _ _ _ _ _ _ _ _ _ _ _ _ _ _ _ _ _ _ _ _ _ _ _ _ _ _ _ _ _ _ _ _ _ _ _ _ _ _ _ _ _ _ _ _ _ _ _ _ _ _ _ _ _ _ _ _ _ _ _ _ _ _ _ _ (fun x59 x60 x61 x62 x63 gA gB wc hne hgA hgB hbc KA KB => ?_)
  clear K5b hrx7 hb7s
  obtain ⟨m, hm⟩ : ∃ m, m = wy.length := ⟨_, rfl⟩
  have hm30 : m ≤ 30 := by rw [hm]; exact HWL.out
  have hat := HM7.out.at_
  have HAT : Hid (∀ j, j < m → ∃ b2 o2, s2 = some ⟨b2, o2, none⟩ ∧ b2 < w7.heap.size ∧ w7.rangeAt b2 (o2 + j * 32) (idA (nthI wy j)).toList) := fun j hj => by
    obtain ⟨b2, o2, e, hb, _, hr⟩ := hat (fun h0 => by rw [h0] at hm; simp at hm; omega)
    exact ⟨b2, o2, e, hb, hr j _ (nthI_get (by omega))⟩
  have HIDW := Lib.hid (fun j (h : j < m) => nthI_id HWI.out (i := j) (by omega))
  have HDR : Hid (∀ z p j, j < m → leadsW z p (wy.drop j) = leadsW (leadsW z p [nthI wy j]) (p / 2) (wy.drop (j + 1))) := fun z p j h => by
    rw [leads_drop z p wy j (by omega), leads_cut]
  have HEN : Hid (∀ z p, leadsW z p (wy.drop m) = z) := fun z p => by rw [List.drop_of_length_le (by omega)]; rfl
  have HSX : Hid (leadsW x ((k / 2 ^ 0 : Nat) : Int) (wy.drop 0) = q) := by show _ = _; rw [Nat.pow_zero, Nat.div_one]; exact HLE.out
  have HSY : Hid (leadsW y ((k / 2 ^ 0 : Nat) : Int) (wy.drop 0) = q) := by show _ = _; rw [Nat.pow_zero, Nat.div_one]; exact HLO.out.symm.trans E2.out
  have HONE : Hid (∀ z u p v W, IsId z → (0 ≤ p ∧ p ≤ 9223372036854775807) → Laid W → IdsV W W.heap.size v [u] → Calls Tryd.prog 15 #[.agg (idA z), .int .i64 p, v] W fun e w' => e = .returned (.agg (idA (leadsW z p [u]))) ∧ Below W.heap.size W w') := fun z u p v W h0 hp h1 h2 => leads_any z p v [u] W h1 h0 (by omega) h2 (by simp)
  rw [← hm]
  have HMM := Lib.hid hm
  have hbc0 := Lib.hid hbc
  clear hat hm hbc HM7
  go_wp2_with fail
  go_loopw [66] (fun i wr => ∃ (j : Nat) (a b' : List Nat), j ≤ m ∧ i = .int .i64 j ∧ Hid (IsId a) ∧ Hid (IsId b') ∧ Hid (a ≠ b') ∧ Hid (leadsW a ((k / 2 ^ j : Nat) : Int) (wy.drop j) = q) ∧ Hid (leadsW b' ((k / 2 ^ j : Nat) : Int) (wy.drop j) = q) ∧ Hid (Below w7.heap.size w7 wr) ∧ Bk wr gA 27 (idA a) ∧ Bk wr gB 27 (idA b')) (fun i _ => m - (intOf i).toNat)
  case atStart => exact ⟨0, x, y, Nat.zero_le _, rfl, HX.out, HY.out, fun e => E1.out e.symm, HSX.out, HSY.out, hbc0.out, KA, KB⟩
  case round =>
    obtain ⟨j, a, b', hj, rfl, HAI, HBI, HAB, HRA, HRB, hWr, KA, KB⟩ := hrel
    clear hbc0
    by_cases hlt : j < m
    · have hdk : decide ((j : Int) < (m : Int)) = true := decide_eq_true (by omega)
      have hdk' : decide (j < m) = true := decide_eq_true (by omega)
      obtain ⟨b2, o2, rfl, hbl2, hrange⟩ := HAT.out j hlt
      have hrx := idr_below hrange hWr.out hbl2
      have hjm : (j : Int) < (m : Int) := by omega
      have HXI := Lib.hid (HIDW.out j hlt)
      have hnA := HDR.out a ((k / 2 ^ j : Nat) : Int) j hlt
      have hnB := HDR.out b' ((k / 2 ^ j : Nat) : Int) j hlt
      rw [HRA.out] at hnA
      rw [HRB.out] at hnB
      generalize nthI wy j = u at *
      obtain ⟨p, hp⟩ : ∃ p, p = ((k / 2 ^ j : Nat) : Int) := ⟨_, rfl⟩
      have hp2 : 0 ≤ p ∧ p ≤ 9223372036854775807 := by
        rw [hp]
        have h2 := Nat.div_le_self k (2 ^ j)
        generalize k / 2 ^ j = Z at *
        omega
      have hnp : p / 2 = ((k / 2 ^ (j + 1) : Nat) : Int) := by rw [hp, Nat.pow_succ, ← Nat.div_div_eq_div_mul]; omega
      rw [← hp, hnp] at hnA hnB
      obtain ⟨cc, hcc⟩ : ∃ cc, cc = leadsW a p [u] := ⟨_, rfl⟩
      obtain ⟨dd, hdd⟩ : ∃ dd, dd = leadsW b' p [u] := ⟨_, rfl⟩
      have HCC : Hid (IsId cc) := hcc ▸ leadsW_id _ _ _ HAI.out
      have HDD : Hid (IsId dd) := hdd ▸ leadsW_id _ _ _ HBI.out
      have HCA : Hid (∀ v W, Laid W → IdsV W W.heap.size v [u] → Calls Tryd.prog 15 #[.agg (idA a), .int .i64 p, v] W fun e w' => e = .returned (.agg (idA cc)) ∧ Below W.heap.size W w') := fun v W h1 h2 => by rw [hcc]; exact HONE.out a u p v W HAI.out hp2 h1 h2
      have HCB : Hid (∀ v W, Laid W → IdsV W W.heap.size v [u] → Calls Tryd.prog 15 #[.agg (idA b'), .int .i64 p, v] W fun e w' => e = .returned (.agg (idA dd)) ∧ Below W.heap.size W w') := fun v W h1 h2 => by rw [hdd]; exact HONE.out b' u p v W HBI.out hp2 h1 h2
      rw [← hcc] at hnA
      rw [← hdd] at hnB
      have HNA := Lib.hid hnA.symm
      have HNB := Lib.hid hnB.symm
      have HSH : Hid (min j 64 = j ∧ (k : Int) >>> j = p ∧ (k : Int) / 2 ^ j = p) := ⟨by omega, by rw [hp, Int.shiftRight_eq_div_pow]; norm_cast, by rw [hp]; norm_cast⟩
      have hxl := HXI.out.1
      clear hcc hdd hnA hnB hp hnp
      have N0 := Bk.new wr 27 (idA (zeros 32))
      have zA := KA.lt
      have zB := KB.lt
      have hsr := hWr.out.size
      go_upto_region 15 with (first | (refine wpList_load_mid rfl 27 (.tmp 69) rfl b2 (o2 + j * 32) rfl (idA u).toList _ hrx Tryd.underlying27 rfl (by rw [Array.length_toList, idA_size, hxl]; exact id_info') ?_) | (refine wpList_store_mid rfl 27 (.tmp 14) (.tmp 70) rfl wr.heap.size 0 (idA u) rfl rfl (by rw [idA_size, hxl]; exact N0.there 32 (by rw [idA_size]; decide)) (by rw [idA_size, hxl]; exact id_info') (id_ones _) ?_))
      refine wp_any (fun V2 => Below w7.heap.size w7 V2 ∧ Bk V2 gA 27 (idA a) ∧ Bk V2 gB 27 (idA b') ∧ Bk V2 wr.heap.size 27 (idA u)) ⟨Below.setCells hsr _ _ _ (hWr.out.alloc hsr _), (KA.alloc _).farCells (by omega) _ _, (KB.alloc _).farCells (by omega) _ _, N0.setAll (by rw [idA_size, idA_size, hxl]; rfl)⟩ ?_
      generalize wr.heap.size = gX at *
      clear KA KB N0 hrx hrange hWr zA zB hsr
      rintro V2 ⟨hW2, KA, KB, KX⟩
      have HW2 := Lib.hid hW2
      have HLV := Lib.hid (HL7.out.below hW2 HL7.out.size)
      clear hW2
      have zA := KA.lt
      have zB := KB.lt
      refine region15 gA gB gX k j p V2 a b' u cc dd _ _ _ _ _ _ _ _ _ _ _ _ _ _ _ _ _ _ _ _ _ _ _ _ _ _ _ _ _ _ _ _ _ _ _ _ _ _ _ _ _ _ _ _ _ _ _ _ _ _ _ _ _ _ _ _ _ _ _ _ _ _ _ _ _ _ _ _ _ _ _ _ _ _ _ _ _ _ _ _ _ _ _ _ _ _ _ _ _ _ _ _ HLV HXI HCC HDD KA KB KX ⟨HAI.out, HBI.out⟩ HSH HCA HCB (fun x71 x72 x73 x74 x75 x76 x77 x78 x79 x80 x81 x82 x83 x84 gC gD wd hcd hgC hgD hbd KC KD => ?_)
      have KA := KA.keep hbd
      have KB := KB.keep hbd
      have hWd := HW2.out.trans (hbd.mono HW2.out.size)
      have HWd := Lib.hid hWd
      clear hbd KX HW2 HLV HSH HCA HCB hWd HXI
      obtain ⟨tl, htl⟩ : ∃ tl : TypeId, tl = 27 := ⟨_, rfl⟩
      obtain ⟨sz, hsz0⟩ : ∃ sz : Nat, sz = 32 := ⟨_, rfl⟩
      have hag : ∀ w, (isAgg tl).run Tryd.prog w = .ok true w := by rw [htl]; exact id_agg
      have hsz : ∀ w, (sizeOf tl).run Tryd.prog w = .ok sz w := by rw [htl, hsz0]; exact id_size
      have htl1 : ∀ z, Op.load 27 z = Op.load tl z := fun z => by rw [htl]
      have HBK := Lib.hid (show ∀ z, Op.load tl z = Op.load 27 z from fun z => by rw [htl])
      have HT1 := Lib.hid htl1
      clear htl1
      have hcl := HCC.out.1
      have hdl := HDD.out.1
      have hal := HAI.out.1
      have hbl3 := HBI.out.1
      have lC : (loadCellsFrom ⟨gC, 0, none⟩ 0 sz #[]).run Tryd.prog wd = .ok (idA cc) wd := by rw [hsz0]; exact id_load _ _ _ _ hcl KC.range0
      have lD : (loadCellsFrom ⟨gD, 0, none⟩ 0 sz #[]).run Tryd.prog wd = .ok (idA dd) wd := by rw [hsz0]; exact id_load _ _ _ _ hdl KD.range0
      have lA : (loadCellsFrom ⟨gA, 0, none⟩ 0 sz #[]).run Tryd.prog wd = .ok (idA a) wd := by rw [hsz0]; exact id_load _ _ _ _ hal KA.range0
      have lB : (loadCellsFrom ⟨gB, 0, none⟩ 0 sz #[]).run Tryd.prog wd = .ok (idA b') wd := by rw [hsz0]; exact id_load _ _ _ _ hbl3 KB.range0
      have heq1 : ∀ W, (Op.equalIn 10000 27 (.agg (idA cc)) (.agg (idA dd))).run Tryd.prog W = .ok (decide (cc = dd)) W := fun W => id_eql cc dd hcl hdl W
      have heq2 : ∀ W, (Op.equalIn 10000 27 (.agg (idA a)) (.agg (idA b'))).run Tryd.prog W = .ok false W := fun W => by have h := id_eql a b' hal hbl3 W; rwa [decide_eq_false HAB.out] at h
      clear hsz0 htl
      go_upto_region 16 with fail
      have htl1 := HT1.out
      simp only [htl1]
      clear htl1
      have hcut : ∀ (G : Prop), (cc = dd → G) → (cc ≠ dd → G) → G := fun G h1 h2 => by
        by_cases e1 : cc = dd
        · exact h1 e1
        · exact h2 e1
      refine hcut _ (fun e3 => ?_) (fun e3 => ?_)
      · rw [decide_eq_true e3] at heq1
        clear e3 hcut
        go_wp2_with fail
        go_ret
        exact ⟨rfl, by rw [hg5]; exact HW7.out.trans (HWd.out.mono hs57)⟩
      · rw [decide_eq_false e3] at heq1
        have E3 := Lib.hid e3
        clear e3 hcut
        go_upto_region 18 with fail
        clear heq1 heq2 lA lB lC lD hag hsz
        refine region18 gA gB gC gD w7.heap.size wd a b' cc dd _ _ _ _ _ _ _ _ _ _ _ _ _ _ _ _ _ _ _ _ _ _ _ _ _ _ _ _ _ _ _ _ _ _ _ _ _ _ _ _ _ _ _ _ _ _ _ _ _ _ _ _ _ _ _ _ _ _ _ _ _ _ _ _ _ _ _ _ _ _ _ _ _ _ _ _ _ _ _ _ _ _ _ _ _ _ _ _ _ _ _ _ _ HCC HDD ⟨HAI.out, HBI.out⟩ KA KB KC KD ⟨by omega, by omega, by omega, by omega⟩ ⟨hne, hgA, hgB⟩ (fun x93 x94 we hbe KA KB => ?_)
        have HWe := Lib.hid (hbe _ HWd.out)
        clear hbe KC KD
        go_wp2_with fail
        go_roundw
        case rel =>
          have hi : Value.int .i64 ((j : Int) + 1) = .int .i64 ((j + 1 : Nat) : Int) := by go_num
          first | exact ⟨j + 1, cc, dd, by omega, hi, HCC, HDD, E3, HNA, HNB, HWe, KA, KB⟩ | ((repeat apply Exists.intro); exact ⟨⟨j + 1, cc, dd, by omega, hi, HCC, HDD, E3, HNA, HNB, HWe, KA, KB⟩, rfl⟩)
        case measure => simp [intOf] <;> omega
    · exfalso
      have e : j = m := by omega
      subst e
      have h1 := HRA.out
      have h2 := HRB.out
      rw [HEN.out] at h1 h2
      exact HAB.out (h1.trans h2.symm)
theorem walk (v : Value) (a : Int) (y : List Nat) (L : List (List Nat)) (w : World) (hL : Laid w) (hy : IsId y) (hv : IdsV w w.heap.size v L) :
    Calls Tryd.prog 4 #[v, .int .i64 a, idv y] w fun e w' => e = .returned (.bool true) ∧ Below w.heap.size w w' := by
  obtain ⟨s, c, rfl⟩ := hv.slice
  by_cases h0 : 30 < L.length
  · exact walk_out a s _ c y w hL (.inl h0)
  · by_cases h1 : a < 0
    · exact walk_out a s _ c y w hL (.inr (.inl ⟨h0, h1⟩))
    · by_cases h2 : (L.length : Int) ≤ a
      · exact walk_out a s _ c y w hL (.inr (.inr ⟨h0, h1, h2⟩))
      · obtain ⟨k, rfl⟩ : ∃ k : Nat, a = (k : Int) := ⟨a.toNat, by omega⟩
        exact walk_inn k L y s c w hL hy hv h0 (by omega)

/-- The door's own heap meets the condition. -/
theorem door_met (os : Os) (args : Array Value) : laidMetH Tryd.prog laidL ((World.doorLaid Tryd.prog 19 os).forCall (fun _ _ => 0) ⟨#[], args, []⟩).memory :=
  laidMetH_of_parts3 (fuel := 8) (laidMet_of_run' 8 (by kernel_rfl) (by kernel_rfl)) (by kernel_rfl) (by kernel_rfl)

set_option maxRecDepth 100000 in
theorem lifted (os : Os) (started : os.Started) (H : Type) (enc : TypeId × Value → H) :
    ReturnsInHanded {} Tryd.checked os 4 .any (fun w args => (Rows.merkleOtherSpec.pre enc Tryd.prog Tryd.f4 [] false w args ∧ laidMetH Tryd.prog laidL w) ∧ sizedMet enc Tryd.prog Tryd.f4 (OpenSpec.ofChange Rows.merkleOtherSpec) false w args)
      (Rows.merkleOtherSpec.post enc Tryd.prog Tryd.f4 false true false false) := by
  refine returnsInHanded_of_change_and (C := Tryd.checked) (X := fun w _ => laidMetH Tryd.prog laidL w) (fun _ _ _ hh h => h.of_heap hh) own started (by kernel_rfl) Tryd.func4
    (ChangeSpec.witness_shaped (enc := enc) (C := Tryd.checked) (os := os) (X := fun w _ => laidMetH Tryd.prog laidL w) false (World.doorLaid Tryd.prog 19 os) #[.slice none 0 0, .int .i64 0, .agg #[.int .u8 0, .int .u8 0, .int .u8 0, .int .u8 0, .int .u8 0, .int .u8 0, .int .u8 0, .int .u8 0, .int .u8 0, .int .u8 0, .int .u8 0, .int .u8 0, .int .u8 0, .int .u8 0, .int .u8 0, .int .u8 0, .int .u8 0, .int .u8 0, .int .u8 0, .int .u8 0, .int .u8 0, .int .u8 0, .int .u8 0, .int .u8 0, .int .u8 0, .int .u8 0, .int .u8 0, .int .u8 0, .int .u8 0, .int .u8 0, .int .u8 0, .int .u8 0]] 8 rfl (World.shaped_of_RefB (by kernel_rfl) (by kernel_rfl)) (by kernel_rfl) (by kernel_rfl) (by kernel_rfl) (door_met os _)) ?_
  intro W base args ds gs before hval0 hW _ _ hL _
  have hval : ∀ (j : Nat) t v, Tryd.f4.params[j]? = some t → args[j]? = some v → Value.okWide Tryd.prog W .any base t v := hval0
  have hW' := hW
  obtain ⟨p, q, hA0, hV, rfl, hfz, hnd⟩ := hW
  have hA : DataW.TrodAll enc Tryd.prog W 0 (fun _ => true) true Tryd.f4.params.toList args.toList ds p := hA0
  rw [Tryd.params4] at hA hval
  obtain ⟨v0, vs0, d0, ds0, p0, q0, hargs, rfl, rfl, h0, r0⟩ := trodAll_cons hA
  obtain ⟨v1, vs1, d1, ds1, p1, q1, rfl, rfl, rfl, h1, r1⟩ := trodAll_cons r0
  obtain ⟨v2, vs2, d2, ds2, p2, q2, rfl, rfl, rfl, h2, r2⟩ := trodAll_cons r1
  obtain ⟨rfl, rfl, rfl⟩ := trodAll_nil r2
  obtain rfl : args = #[v0, v1, v2] := by cases args; simp_all
  obtain ⟨rfl, rfl⟩ := trodVars_none hV
  have lt0 : ∀ x ∈ p0, x.block < W.heap.size := by obtain ⟨m, hm⟩ := h0; exact DataW.trod_lt m _ _ _ hm
  have lt1 : ∀ x ∈ p1, x.block < W.heap.size := by obtain ⟨m, hm⟩ := h1; exact DataW.trod_lt m _ _ _ hm
  have lt2 : ∀ x ∈ p2, x.block < W.heap.size := by obtain ⟨m, hm⟩ := h2; exact DataW.trod_lt m _ _ _ hm
  obtain ⟨x0, hb0⟩ := ids_arg (hval 0 32 v0 rfl rfl) h0
  obtain ⟨y1, rfl, _, _, hwf1⟩ := open_int (k := .i64) Tryd.underlying3 (hval 1 3 v1 rfl rfl) h1
  have hy1 := wf_i64 hwf1
  obtain ⟨x2, hb2, rfl⟩ := id_arg (hval 2 27 v2 rfl rfl) h2
  have hwalk := walk v0 y1 x2 x0 W (of_laid hL) hb2 hb0
  clear hA0 hval0
  refine hwalk.mono fun e W' ⟨he, bel⟩ => ?_
  subst he
  exact ⟨_, rfl, _, _, _, [], _, [], hW', trodAll_mk1 (shut_bool Tryd.underlying4 _), (trodAll_cons_mk (Below.trod laidOut (by kernel_rfl) (of_decide_eq_true (by kernel_rfl)) h0 bel lt0) (trodAll_cons_mk (Below.trod laidOut (by kernel_rfl) (of_decide_eq_true (by kernel_rfl)) h1 bel lt1) (trodAll_cons_mk (Below.trod laidOut (by kernel_rfl) (of_decide_eq_true (by kernel_rfl)) h2 bel lt2) trodAll_mk0))), rfl, bel.frame _, fun h => by cases h⟩

theorem over : Rows.MerkleOtherSaid :=
  OpenClaim.holds_of_wide 4 Tryd.f4 rfl rfl rfl rfl rfl rfl rfl ⟨rfl, rfl, rfl, rfl, rfl⟩ rfl rfl rfl rfl rfl (by kernel_rfl) Tryd.func4 (by kernel_rfl)
    (of_decide_eq_true (by kernel_rfl)) (by unfold Func.isWrapper; first | (rw [if_pos (by decide +kernel)]; kernel_rfl) | (rw [if_neg (by decide +kernel)]; exact ⟨rfl, rfl⟩))
    (fun os started H enc _ => lifted os started H enc)

theorem proved : Rows.MerkleOtherCardSaid :=
  Claim7.holds_tied_plain_at .later [] [.data, .data] true Rows.merkleOtherCard.stood.harness false
    over (fun _ h => by cases h) (by kernel_rfl) (fun _ h => by cases h) merkleOther_row_tie rfl ⟨rfl, rfl⟩ (by kernel_rfl) rfl
    (fun f fn hf hfn => by
      obtain rfl : f = 4 := Option.some.inj ((show Tryd.prog.funcNamed "tallystick/tallysticklaw04.MerkleOther" = some 4 by kernel_rfl).symm.trans hf) |>.symm
      obtain rfl : fn = Tryd.f4 := (Option.some.inj (Tryd.func4.symm.trans hfn)).symm
      exact ⟨by kernel_rfl, fun j t ht => by
        rw [Tryd.params4] at ht
        have hm : t ∈ [32, 3, 27] := by simpa using Array.mem_of_getElem? ht
        have hall : ([32, 3, 27].all fun u => !Tryd.prog.wantsStandIn u) = true := by kernel_rfl
        exact (show Tryd.prog.wantsStandIn t = false by simpa using List.all_eq_true.1 hall t hm)⟩)
    (by kernel_rfl)
#print axioms proved
end Go.Proofs.YtecmgojecjenmaaDoor.merkleOther
