/-
  What is proved: CheckRoots holds for every input; the two listed tables of package hash are taken to hold what the program's text lays in them, and the card ties them to it.
-/
import Derived.Test.YtpemljbdmbinlaaDoorChD
import Derived.Test.YtpemljbdmbinlaaDoorTie
import Derived.Test.YtpemljbdmbinlaaDoorCards
import Derived.Stop.Joined
namespace Go.Proofs.YtpemljbdmbinlaaDoor.checkRoots
open Go.ChangeShapes Go.WideShapes Go.ChangeAt Go.RowKit
set_option linter.unusedVariables false

theorem own : ownKnob Tryd.prog.godebug = none := by kernel_rfl
theorem laidOut : laidOutB Tryd.prog = true := by kernel_rfl
theorem wf_i64 {z : Int} (h : (Lit.int .i64 z).wf = true) : -9223372036854775808 ≤ z ∧ z ≤ 9223372036854775807 := by
  simp [Lit.wf, IntKind.min, IntKind.max, IntKind.signed, IntKind.bits] at h
  omega
theorem rootE_own (L : List TxM) (R : List Nat) (hR : R = (rootV (L.map tID)).1) : rootE R L = if (∃ t ∈ L, (txB t).length = 64) ∨ (rootV (L.map tID)).2 = true then 40 else 0 := by
  unfold rootE
  by_cases h1 : ∃ t ∈ L, (txB t).length = 64
  · rw [if_pos h1, if_pos (.inl h1)]
  · rw [if_neg h1]
    by_cases h2 : (rootV (L.map tID)).2 = true
    · rw [if_pos h2, if_pos (.inr h2)]
    · rw [if_neg h2, if_pos hR.symm, if_neg (fun h => h.elim h1 h2)]
theorem rootE_other (L : List TxM) (r : List Nat) (hr : r ≠ (rootV (L.map tID)).1) : rootE r L = 40 := by
  unfold rootE
  by_cases h1 : ∃ t ∈ L, (txB t).length = 64
  · rw [if_pos h1]
  · rw [if_neg h1]
    by_cases h2 : (rootV (L.map tID)).2 = true
    · rw [if_pos h2]
    · rw [if_neg h2, if_neg (fun e => hr e.symm)]
theorem blkE_other (hd : Hd) (s : Option Addr) (c : Nat) (L : List TxM) (h : rootE hd.r L = 40) : blkE ⟨hd, s, c, L⟩ ≠ 0 := by
  unfold blkE
  split
  · decide
  · split
    · rename_i h2
      exact h2
    · split
      · decide
      · show rootE hd.r L ≠ 0
        rw [h]
        decide
theorem any64 (L : List TxM) : L.any (fun t => (txB t).length == 64) = decide (∃ t ∈ L, (txB t).length = 64) := by
  by_cases h : ∃ t ∈ L, (txB t).length = 64
  · rw [decide_eq_true h]
    obtain ⟨t, ht, e⟩ := h
    exact List.any_eq_true.2 ⟨t, ht, by simp [e]⟩
  · rw [decide_eq_false h]
    exact List.any_eq_false.2 (fun t ht => by
      intro e
      exact h ⟨t, ht, by simpa using e⟩)
set_option maxRecDepth 100000 in
set_option maxHeartbeats 8000000 in
theorem walk (b : BlkM) (o : List Nat) (w : World) (hLd : Laid w) (hV : BlkV w w.heap.size b) (ho : IsId o) :
    Calls Tryd.prog 5 #[.agg (blkL b).toArray, idv o] w fun e w' => e = .returned (.bool true) ∧ Below w.heap.size w w' := by
  obtain ⟨hd, ls, lc, txs⟩ := b
  have HO := Lib.hid ho
  have HV := Lib.hid hV
  have HLD := Lib.hid hLd
  obtain ⟨n, hn⟩ : ∃ n, n = txs.length := ⟨_, rfl⟩
  have HN := Lib.hid hn
  have h63 : n < 9223372036854775808 := by
    obtain ⟨_, _, e, h1, h2, _⟩ := hV.2.1
    have : n = txs.length := hn
    simp only at h1
    omega
  have h68 := blk_68 (b := ⟨hd, ls, lc, txs⟩) hV.1
  have hb68 : (blkL ⟨hd, ls, lc, txs⟩).toArray[68]? = some (.slice ls n lc) := by rw [hn]; exact h68
  have hrow := row_at (show RowV txR w w.heap.size (.slice ls txs.length lc) txs from hV.2.1)
  rw [← hn] at hrow
  have HL := Lib.hid hrow
  obtain ⟨A, hA⟩ : ∃ A, A = (blkL ⟨hd, ls, lc, txs⟩).toArray := ⟨_, rfl⟩
  have hA69 : A.size = 69 := by rw [hA, List.size_toArray]; exact blkL_len hV.1
  rw [← hA] at hb68 ⊢
  have HA := Lib.hid hA
  have HA68 := Lib.hid hb68
  have HA69 := Lib.hid hA69
  obtain ⟨OA, hOA⟩ : ∃ OA, OA = idA o := ⟨_, rfl⟩
  have hO32 : OA.size = 32 := by rw [hOA, idA_size, ho.1]
  change Calls _ _ #[.agg A, .agg (idA o)] _ _
  rw [← hOA]
  have HOA := Lib.hid hOA
  have HO32 := Lib.hid hO32
  clear hV hLd hn h68 hrow hA hb68 hA69 hOA hO32 ho
  obtain ⟨tl, htl⟩ : ∃ tl : TypeId, tl = 49 := ⟨_, rfl⟩
  obtain ⟨sz, hsz0⟩ : ∃ sz : Nat, sz = 69 := ⟨_, rfl⟩
  have hag : ∀ w, (isAgg tl).run Tryd.prog w = .ok true w := by rw [htl]; exact blk_agg
  have hsz : ∀ w, (sizeOf tl).run Tryd.prog w = .ok sz w := by rw [htl, hsz0]; exact blk_size
  have HLO : Hid (∀ W g A, A.size = 69 → Bk W g 49 A → (loadCellsFrom ⟨g, 0, none⟩ 0 sz #[]).run Tryd.prog W = .ok A W) := by show ∀ _, _; rw [hsz0]; exact fun W g A h K => blk_load h K
  have HTL := Lib.hid (show ∀ z, Op.load 49 z = Op.load tl z from fun z => by rw [htl])
  obtain ⟨tj, htj⟩ : ∃ tj : TypeId, tj = 26 := ⟨_, rfl⟩
  obtain ⟨sj, hsj0⟩ : ∃ sj : Nat, sj = 32 := ⟨_, rfl⟩
  have hagj : ∀ w, (isAgg tj).run Tryd.prog w = .ok true w := by rw [htj]; exact id_agg
  have hszj : ∀ w, (sizeOf tj).run Tryd.prog w = .ok sj w := by rw [htj, hsj0]; exact id_size
  have HLJ : Hid (∀ W g X, IsId X → Bk W g 26 (idA X) → (loadCellsFrom ⟨g, 0, none⟩ 0 sj #[]).run Tryd.prog W = .ok (idA X) W) := by show ∀ _, _; rw [hsj0]; exact fun W g X h K => id_load _ _ _ _ h.1 K.range0
  have HTJ := Lib.hid (show ∀ z, Op.load 26 z = Op.load tj z from fun z => by rw [htj])
  clear htl hsz0 htj hsj0
  go_enter Tryd.func5, Tryd.ntmps5
  go_upto_region 1 with fail
  refine wp_any (fun W => Below w.heap.size w W ∧ Bk W w.heap.size 49 A ∧ Bk W (w.heap.size + 1) 26 OA) ⟨((Below.refl _ _).alloc (Nat.le_refl _) _).alloc (by simp) _, (Bk.new _ _ _).alloc _, Bk.new' _ _ _ (by simp)⟩ ?_
  obtain ⟨p2, hp2⟩ : ∃ p, p = w.heap.size := ⟨_, rfl⟩
  have HP2 := Lib.hid hp2
  rw [← hp2]
  rintro W ⟨hB, K2, K3⟩
  have HB := Lib.hid (show Below w.heap.size w W from by rw [hp2] at hB; exact hB)
  have HK2 := Lib.hid K2
  have HK3 := Lib.hid K3
  clear hB K2 K3 hp2
  go_wp2_with fail
  refine (asks_any W (HLD.out.keep HB.out)).mono ?_
  rintro e w1 ⟨rfl, hb1⟩
  have HB1 := Lib.hid (below_step HB.out HB.out.size hb1)
  have HK21 := Lib.hid (HK2.out.keep hb1)
  have HK31 := Lib.hid (HK3.out.keep hb1)
  have c68 := (HK21.out.cell 68).trans HA68.out
  have z2 := HK21.out.lt
  clear hb1 HB HK2 HK3
  by_cases h6 : 6 < n
  · have d6 : decide ((6 : Int) < (n : Int)) = true := decide_eq_true (by omega)
    go_wp2_with fail
    go_ret
    exact ⟨rfl, HB1.out⟩
  have d6 : decide ((6 : Int) < (n : Int)) = false := decide_eq_false (by omega)
  go_wp2_with fail
  clear c68 z2
  go_loopw [21] (fun i wr => ∃ (k : Nat), k ≤ n ∧ i = .int .i64 k ∧ Hid (∀ t ∈ txs.take k, TxFit t) ∧ Hid (Below w.heap.size w wr) ∧ Hid (Bk wr p2 49 A) ∧ Hid (Bk wr (p2 + 1) 26 OA)) (fun i _ => n - (intOf i).toNat)
  case atStart => exact ⟨0, Nat.zero_le _, rfl, (fun t ht => by cases ht), HB1.out, HK21.out, HK31.out⟩
  case round =>
    clear HB1 HK21 HK31
    obtain ⟨k, hk, rfl, HF, HB, HK2, HK3⟩ := hrel
    by_cases hlt : k < n
    · obtain ⟨t, bb, oo, hkt, hse, hbw, hrg⟩ := HL.out k hlt
      subst hse
      have j1 : decide ((k : Int) < (n : Int)) = true := decide_eq_true (by omega)
      have hrg := rr_below hrg HB.out hbw
      have r0 := hrg 0 _ rfl
      have r1 := hrg 1 _ rfl
      change wr.cell? ⟨bb, oo + k * 2 + 0, none⟩ = some t.iv at r0
      change wr.cell? ⟨bb, oo + k * 2 + 1, none⟩ = some t.ov at r1
      rw [Nat.add_zero] at r0
      have hmem := List.mem_of_getElem? hkt
      have HX := Lib.hid hkt
      have HTV := Lib.hid (HV.out.2.2 t hmem)
      obtain ⟨sa, na, ca, ea⟩ : ∃ s n c, t.iv = .slice s n c := ⟨_, _, _, rfl⟩
      obtain ⟨sb, nb, cb, eb⟩ : ∃ s n c, t.ov = .slice s n c := ⟨_, _, _, rfl⟩
      rw [ea] at r0
      rw [eb] at r1
      have HEA := Lib.hid ea
      have HEB := Lib.hid eb
      clear hrg hkt hmem ea eb
      go_upto_region 8 with fail
      refine wp_any (fun W => Below wr.heap.size wr W ∧ Bk W wr.heap.size 32 #[.slice sa na ca, .slice sb nb cb]) ⟨(Below.refl _ _).alloc (Nat.le_refl _) _, Bk.new _ _ _⟩ ?_
      clear r0 r1
      rintro W ⟨hb, K6⟩
      have HB7 := Lib.hid (below_step HB.out HB.out.size hb)
      have HK27 := Lib.hid (HK2.out.keep hb)
      have HK37 := Lib.hid (HK3.out.keep hb)
      have c0 := K6.cell 0
      have c1 := K6.cell 1
      have z6 := K6.lt
      generalize wr.heap.size = p6 at *
      have hft := fits_any t W ((HTV.out.keep HB7.out (Nat.le_refl _)).mono HB7.out.size)
      change Calls _ _ #[.agg #[t.iv, t.ov]] _ _ at hft
      rw [HEA.out, HEB.out] at hft
      have HFI := Lib.hid (fitB_iff t)
      generalize fitB t = fb at *
      clear hb K6 HB HK2 HK3
      cases fb
      · go_wp2_with fail
        refine hft.mono ?_
        rintro e w8 ⟨rfl, hb8⟩
        have HB8 := Lib.hid (below_step HB7.out HB7.out.size hb8)
        clear hb8 hft
        go_wp2_with fail
        go_ret
        exact ⟨rfl, HB8.out⟩
      · have HFT : Hid (TxFit t) := HFI.out.1 rfl
        go_wp2_with fail
        refine hft.mono ?_
        rintro e w8 ⟨rfl, hb8⟩
        have HB8 := Lib.hid (below_step HB7.out HB7.out.size hb8)
        have HK28 := Lib.hid (HK27.out.keep hb8)
        have HK38 := Lib.hid (HK37.out.keep hb8)
        clear hb8 hft c0 c1 z6
        go_wp2_with fail
        go_roundw
        case rel =>
          refine ⟨k + 1, by omega, by simp, (show ∀ t ∈ txs.take (k + 1), _ from fun x hx => ?_), HB8.out, HK28.out, HK38.out⟩
          rw [List.take_add_one, HX.out] at hx
          rcases List.mem_append.1 hx with h | h
          · exact HF.out x h
          · have : x = t := by simpa using h
            rw [this]
            exact HFT.out
        case measure => simp [intOf]; omega
    · have j1 : decide ((k : Int) < (n : Int)) = false := decide_eq_false (by omega)
      have HFA : Hid (∀ t ∈ txs, TxFit t) := by
        have h := HF.out
        rw [List.take_of_length_le (by have := HN.out; omega)] at h
        exact h
      have c68 := (HK2.out.cell 68).trans HA68.out
      have z2 := HK2.out.lt
      have hroot := troot_any ls n lc txs wr (by have := HV.out.2.1; rw [HN.out]; exact (this.keep HB.out (Nat.le_refl _)).mono HB.out.size) HN.out (fun t ht => ⟨((HV.out.2.2 t ht).keep HB.out (Nat.le_refl _)).mono HB.out.size, HFA.out t ht⟩) (HLD.out.keep HB.out) (by omega)
      obtain ⟨R, hR⟩ : ∃ R, R = (rootV (txs.map tID)).1 := ⟨_, rfl⟩
      obtain ⟨tw, htw⟩ : ∃ tw, tw = (rootV (txs.map tID)).2 := ⟨_, rfl⟩
      have hRid : IsId R := by rw [hR]; exact (rootV_id (txs.map tID) (tIDs_is txs))
      rw [← hR, ← htw] at hroot
      change Calls _ _ _ _ (fun e w' => e = .returned (.tuple #[.agg (idA R), .bool tw]) ∧ _) at hroot
      obtain ⟨RA, hRA⟩ : ∃ RA, RA = idA R := ⟨_, rfl⟩
      rw [← hRA] at hroot
      have HR := Lib.hid hR
      have HTW := Lib.hid htw
      have HRI := Lib.hid hRid
      have HRA := Lib.hid hRA
      clear hR htw hRid hRA HF
      go_wp2_with fail
      refine hroot.mono ?_
      rintro e w5 ⟨rfl, hb5⟩
      have HB5 := Lib.hid (below_step HB.out HB.out.size hb5)
      have HK25 := Lib.hid (HK2.out.keep hb5)
      have HK35 := Lib.hid (HK3.out.keep hb5)
      have hra32 : RA.size = 32 := by rw [HRA.out, idA_size, HRI.out.1]
      have K7 : Bk (w5.alloc (.cells #[.int .u8 0, .int .u8 0, .int .u8 0, .int .u8 0, .int .u8 0, .int .u8 0, .int .u8 0, .int .u8 0, .int .u8 0, .int .u8 0, .int .u8 0, .int .u8 0, .int .u8 0, .int .u8 0, .int .u8 0, .int .u8 0, .int .u8 0, .int .u8 0, .int .u8 0, .int .u8 0, .int .u8 0, .int .u8 0, .int .u8 0, .int .u8 0, .int .u8 0, .int .u8 0, .int .u8 0, .int .u8 0, .int .u8 0, .int .u8 0, .int .u8 0, .int .u8 0] 26)) w5.heap.size 26 #[.int .u8 0, .int .u8 0, .int .u8 0, .int .u8 0, .int .u8 0, .int .u8 0, .int .u8 0, .int .u8 0, .int .u8 0, .int .u8 0, .int .u8 0, .int .u8 0, .int .u8 0, .int .u8 0, .int .u8 0, .int .u8 0, .int .u8 0, .int .u8 0, .int .u8 0, .int .u8 0, .int .u8 0, .int .u8 0, .int .u8 0, .int .u8 0, .int .u8 0, .int .u8 0, .int .u8 0, .int .u8 0, .int .u8 0, .int .u8 0, .int .u8 0, .int .u8 0] := Bk.new _ _ _
      have hth : (w5.alloc (.cells #[.int .u8 0, .int .u8 0, .int .u8 0, .int .u8 0, .int .u8 0, .int .u8 0, .int .u8 0, .int .u8 0, .int .u8 0, .int .u8 0, .int .u8 0, .int .u8 0, .int .u8 0, .int .u8 0, .int .u8 0, .int .u8 0, .int .u8 0, .int .u8 0, .int .u8 0, .int .u8 0, .int .u8 0, .int .u8 0, .int .u8 0, .int .u8 0, .int .u8 0, .int .u8 0, .int .u8 0, .int .u8 0, .int .u8 0, .int .u8 0, .int .u8 0, .int .u8 0] 26)).there w5.heap.size 0 RA.size := Bk.there K7 _ (by rw [hra32]; decide)
      have hin : (Tryd.prog.info? 26).map (·.size) = some RA.size := by rw [hra32]; kernel_rfl
      have ho1 : RA.all (·.oneCell') = true := by rw [HRA.out]; exact id_ones _
      have K7' : Bk ((w5.alloc (.cells #[.int .u8 0, .int .u8 0, .int .u8 0, .int .u8 0, .int .u8 0, .int .u8 0, .int .u8 0, .int .u8 0, .int .u8 0, .int .u8 0, .int .u8 0, .int .u8 0, .int .u8 0, .int .u8 0, .int .u8 0, .int .u8 0, .int .u8 0, .int .u8 0, .int .u8 0, .int .u8 0, .int .u8 0, .int .u8 0, .int .u8 0, .int .u8 0, .int .u8 0, .int .u8 0, .int .u8 0, .int .u8 0, .int .u8 0, .int .u8 0, .int .u8 0, .int .u8 0] 26)).setCells w5.heap.size 0 RA.toList) w5.heap.size 26 RA := Bk.setAll K7 (by rw [hra32]; rfl)
      have hB7 : Below w5.heap.size w5 ((w5.alloc (.cells #[.int .u8 0, .int .u8 0, .int .u8 0, .int .u8 0, .int .u8 0, .int .u8 0, .int .u8 0, .int .u8 0, .int .u8 0, .int .u8 0, .int .u8 0, .int .u8 0, .int .u8 0, .int .u8 0, .int .u8 0, .int .u8 0, .int .u8 0, .int .u8 0, .int .u8 0, .int .u8 0, .int .u8 0, .int .u8 0, .int .u8 0, .int .u8 0, .int .u8 0, .int .u8 0, .int .u8 0, .int .u8 0, .int .u8 0, .int .u8 0, .int .u8 0, .int .u8 0] 26)).setCells w5.heap.size 0 RA.toList) := Below.setCells (Nat.le_refl _) _ _ _ ((Below.refl _ _).alloc (Nat.le_refl _) _)
      clear hb5 hroot c68 z2 HB HK2 HK3 K7
      go_upto_region 12 with (refine wpList_store_mid rfl 26 (.tmp 7) (.tmp 33) rfl w5.heap.size 0 RA rfl rfl hth hin ho1 ?_)
      refine wp_any (fun W => Below w5.heap.size w5 W ∧ Bk W w5.heap.size 26 RA) ⟨hB7, K7'⟩ ?_
      clear hth hin ho1 K7' hB7
      rintro W7 ⟨hB7, hK7⟩
      have HB7 := Lib.hid (below_step HB5.out HB5.out.size hB7)
      have HK27 := Lib.hid (HK25.out.keep hB7)
      have HK37 := Lib.hid (HK35.out.keep hB7)
      have HK77 := Lib.hid hK7
      have hz7 : Hid (p2 + 1 < w5.heap.size) := HK35.out.lt
      generalize w5.heap.size = p7 at *
      have c68 := (HK27.out.cell 68).trans HA68.out
      have z2 := HK27.out.lt
      clear hB7 hK7
      go_wp2_with fail
      have jx1 := j1
      clear j1 c68 z2
      go_loopw [9, 38] (fun s9 i wr => ∃ (k : Nat), k ≤ n ∧ i = .int .i64 k ∧ s9 = .bool ((txs.take k).any (fun t => (txB t).length == 64)) ∧ Hid (Below w.heap.size w wr) ∧ Hid (Bk wr p2 49 A) ∧ Hid (Bk wr (p2 + 1) 26 OA) ∧ Hid (Bk wr p7 26 RA)) (fun _ i _ => n - (intOf i).toNat)
      case atStart => exact ⟨0, Nat.zero_le _, rfl, rfl, HB7.out, HK27.out, HK37.out, HK77.out⟩
      case round =>
        clear HB7 HK27 HK37 HK77
        obtain ⟨k, hk, rfl, rfl, HB, HK2, HK3, HK7⟩ := hrel
        by_cases hlt : k < n
        · obtain ⟨t, bb, oo, hkt, hse, hbw, hrg⟩ := HL.out k hlt
          subst hse
          have j1 : decide ((k : Int) < (n : Int)) = true := decide_eq_true (by omega)
          have hrg := rr_below hrg HB.out hbw
          have r0 := hrg 0 _ rfl
          have r1 := hrg 1 _ rfl
          change wr.cell? ⟨bb, oo + k * 2 + 0, none⟩ = some t.iv at r0
          change wr.cell? ⟨bb, oo + k * 2 + 1, none⟩ = some t.ov at r1
          rw [Nat.add_zero] at r0
          have hmem := List.mem_of_getElem? hkt
          have HTV := Lib.hid (HV.out.2.2 t hmem)
          have HFT := Lib.hid (HFA.out t hmem)
          have hany : (txs.take (k + 1)).any (fun t => (txB t).length == 64) = ((txs.take k).any (fun t => (txB t).length == 64) || ((txB t).length == 64)) := by
            rw [List.take_add_one, hkt, List.any_append]
            simp
          generalize (txs.take k).any (fun t => (txB t).length == 64) = fnd at *
          have HANY := Lib.hid hany
          obtain ⟨sa, na, ca, ea⟩ : ∃ s n c, t.iv = .slice s n c := ⟨_, _, _, rfl⟩
          obtain ⟨sb, nb, cb, eb⟩ : ∃ s n c, t.ov = .slice s n c := ⟨_, _, _, rfl⟩
          rw [ea] at r0
          rw [eb] at r1
          have HEA := Lib.hid ea
          have HEB := Lib.hid eb
          clear hrg hkt hmem ea eb hany
          go_upto_region 16 with fail
          refine wp_any (fun W => Below wr.heap.size wr W ∧ Bk W wr.heap.size 32 #[.slice sa na ca, .slice sb nb cb]) ⟨(Below.refl _ _).alloc (Nat.le_refl _) _, Bk.new _ _ _⟩ ?_
          clear r0 r1
          rintro W ⟨hb, K6⟩
          have HB8 := Lib.hid (below_step HB.out HB.out.size hb)
          have HK28 := Lib.hid (HK2.out.keep hb)
          have HK38 := Lib.hid (HK3.out.keep hb)
          have HK78 := Lib.hid (HK7.out.keep hb)
          have c0 := K6.cell 0
          have c1 := K6.cell 1
          have z6 := K6.lt
          generalize wr.heap.size = p11 at *
          have htb : Calls Tryd.prog 23 #[.agg #[t.iv, t.ov]] W fun e w' => (∃ s c, e = .returned (.slice s (txB t).length c)) ∧ Below W.heap.size W w' := by
            refine (tbytes_any t W ((HTV.out.keep HB8.out (Nat.le_refl _)).mono HB8.out.size) HFT.out).mono ?_
            rintro e w' ⟨v', rfl, hM, hb'⟩
            obtain ⟨s, c, e2⟩ := hM.slice
            exact ⟨⟨s, c, by rw [e2]⟩, hb'⟩
          rw [HEA.out, HEB.out] at htb
          generalize (txB t).length = tl64 at *
          clear hb K6 HB HK2 HK3 HK7
          cases fnd
          · have HANY2 : Hid ((txs.take (k + 1)).any (fun t => (txB t).length == 64) = (tl64 == 64)) := HANY.out
            have q64 : (((tl64 : Nat) : Int) == 64) = (tl64 == 64) := by
              by_cases h : tl64 = 64
              · subst h; rfl
              · have : ¬ ((tl64 : Nat) : Int) = 64 := by omega
                rw [beq_eq_false_iff_ne.2 this, beq_eq_false_iff_ne.2 h]
            generalize (tl64 == 64) = b64 at *
            clear HANY
            go_wp2_with fail
            refine htb.mono ?_
            rintro e w9 ⟨⟨s, c, rfl⟩, hb9⟩
            have HB9 := Lib.hid (below_step HB8.out HB8.out.size hb9)
            have HK29 := Lib.hid (HK28.out.keep hb9)
            have HK39 := Lib.hid (HK38.out.keep hb9)
            have HK79 := Lib.hid (HK78.out.keep hb9)
            clear hb9 htb c0 c1 z6
            go_wp2_with fail
            go_roundw
            case rel => exact ⟨k + 1, by omega, by simp, by rw [HANY2.out], HB9.out, HK29.out, HK39.out, HK79.out⟩
            case measure => simp [intOf]; omega
          · have HANY2 : Hid ((txs.take (k + 1)).any (fun t => (txB t).length == 64) = true) := HANY.out
            clear HANY htb
            go_wp2_with fail
            go_roundw
            case rel => exact ⟨k + 1, by omega, by simp, by rw [HANY2.out], HB8.out, HK28.out, HK38.out, HK78.out⟩
            case measure => simp [intOf]; omega
        · have j1 : decide ((k : Int) < (n : Int)) = false := decide_eq_false (by omega)
          have hpair : (txs.take k).any (fun t => (txB t).length == 64) = decide (∃ t ∈ txs, (txB t).length = 64) := by
            rw [List.take_of_length_le (by have := HN.out; omega)]
            exact any64 txs
          have hown := rootE_own txs R HR.out
          rw [hpair]
          obtain ⟨pr, hpr⟩ : ∃ pr, pr = decide (∃ t ∈ txs, (txB t).length = 64) := ⟨_, rfl⟩
          rw [← hpr]
          have hown2 : rootE R txs = if (pr || tw) = true then 40 else 0 := by
            rw [hown, ← HTW.out]
            by_cases h1 : ∃ t ∈ txs, (txB t).length = 64
            · rw [if_pos (.inl h1), hpr, decide_eq_true h1]; rfl
            · rw [hpr, decide_eq_false h1]
              cases tw
              · rw [if_neg (by rintro (h | h); exact h1 h; cases h)]; rfl
              · rw [if_pos (.inr rfl)]; rfl
          have HOWN := Lib.hid hown2
          clear hpair hown hpr hown2
          have hla7 : (loadCellsFrom ⟨p7, 0, none⟩ 0 sj #[]).run Tryd.prog wr = .ok RA wr := by
            have h := HLJ.out wr p7 R HRI.out (by rw [← HRA.out]; exact HK7.out)
            rw [← HRA.out] at h
            exact h
          have z7 := HK7.out.lt
          have z2 := HK2.out.lt
          have hth : wr.there p2 33 RA.size := there_at HK2.out 33 _ (by rw [hra32, HA69.out]; decide)
          have hin : (Tryd.prog.info? 26).map (·.size) = some RA.size := by rw [hra32]; kernel_rfl
          have ho1 : RA.all (·.oneCell') = true := by rw [HRA.out]; exact id_ones _
          obtain ⟨A1, hA1⟩ : ∃ A, A = (blkL ⟨withR hd R, ls, lc, txs⟩).toArray := ⟨_, rfl⟩
          have hA1s : A1.size = 69 := by rw [hA1, List.size_toArray]; exact blkL_len (withR_is HV.out.1 HRI.out)
          have hk2 := HK2.out
          rw [HA.out] at hk2
          have K2n : Bk (wr.setCells p2 33 RA.toList) p2 49 A1 := by
            rw [hA1, show RA.toList = R.map byteV from by rw [HRA.out, idA_toList']]
            exact set_root HV.out.1 HRI.out hk2
          have hpw : w.heap.size ≤ p2 := Nat.le_of_eq HP2.out.symm
          have BW1 : Below w.heap.size w (wr.setCells p2 33 RA.toList) := Below.setCells hpw _ _ _ HB.out
          have K3n : Bk (wr.setCells p2 33 RA.toList) (p2 + 1) 26 OA := rowFar HK3.out (by omega) _ _
          have K7n : Bk (wr.setCells p2 33 RA.toList) p7 26 RA := rowFar HK7.out (by have := hz7.out; omega) _ _
          have jx2 := j1
          clear hk2 j1
          go_upto_region 18 with fail
          have htj2 := HTJ.out
          simp only [htj2]
          clear htj2
          go_upto_region 19 with (refine wpList_store_mid rfl 26 (.tmp 52) (.tmp 50) rfl p2 33 RA rfl rfl hth hin ho1 ?_)
          refine wp_any (fun W => Below w.heap.size w W ∧ Bk W p2 49 A1 ∧ Bk W (p2 + 1) 26 OA ∧ Bk W p7 26 RA) ⟨BW1, K2n, K3n, K7n⟩ ?_
          clear hla7 z7 z2 hth hin ho1 K2n BW1 K3n K7n HB HK2 HK3 HK7 hlt
          rintro W9 ⟨hB9, hK29, hK39, hK79⟩
          have HB9 := Lib.hid hB9
          have HK29 := Lib.hid hK29
          have HK39 := Lib.hid hK39
          have HK79 := Lib.hid hK79
          have HA1 := Lib.hid hA1
          have HA1s := Lib.hid hA1s
          have hV1 : ∀ (r : List Nat), IsId r → ∀ W, Below w.heap.size w W → BlkV W W.heap.size ⟨withR hd r, ls, lc, txs⟩ := fun r hr W h =>
            ⟨withR_is HV.out.1 hr, (HV.out.2.1.keep h (Nat.le_refl _)).mono h.size, fun x hx => ((HV.out.2.2 x hx).keep h (Nat.le_refl _)).mono h.size⟩
          have HV1 : Hid (∀ (r : List Nat), IsId r → ∀ W, Below w.heap.size w W → BlkV W W.heap.size ⟨withR hd r, ls, lc, txs⟩) := hV1
          have hn40 : txs.length ≤ 40 := by have := HN.out; omega
          have HN40 := Lib.hid hn40
          have hrt := croot_any ⟨withR hd R, ls, lc, txs⟩ W9 (hV1 R HRI.out W9 hB9) HFA.out hn40 (HLD.out.keep hB9)
          change Calls _ _ _ _ (fun r w' => r = .returned (.int .i64 (rootE R txs : Nat)) ∧ _) at hrt
          rw [HOWN.out, ← HA1.out] at hrt
          have hla := HLO.out W9 p2 A1 hA1s hK29
          have z2 := hK29.lt
          clear hB9 hK29 hK39 hK79 hA1 hA1s hV1 hn40
          have htl2 := HTL.out
          simp only [htl2]
          clear htl2
          have REST : True := trivial
          cases pr <;> cases tw
          all_goals
            go_wp2_with fail
            refine hrt.mono ?_
            rintro e w10 ⟨rfl, hb10⟩
            have HB10 := Lib.hid (below_step HB9.out HB9.out.size hb10)
            have HK210 := Lib.hid (HK29.out.keep hb10)
            have HK310 := Lib.hid (HK39.out.keep hb10)
            have HK710 := Lib.hid (HK79.out.keep hb10)
            clear hb10 hrt hla z2
            have hla3 : (loadCellsFrom ⟨p2 + 1, 0, none⟩ 0 sj #[]).run Tryd.prog w10 = .ok OA w10 := by
              have h := HLJ.out w10 (p2 + 1) o HO.out (by rw [← HOA.out]; exact HK310.out)
              rw [← HOA.out] at h
              exact h
            have z3 := HK310.out.lt
            have z2 := HK210.out.lt
            have hth : w10.there p2 33 OA.size := there_at HK210.out 33 _ (by rw [HO32.out, HA1s.out]; decide)
            have hin : (Tryd.prog.info? 26).map (·.size) = some OA.size := by rw [HO32.out]; kernel_rfl
            have ho1 : OA.all (·.oneCell') = true := by rw [HOA.out]; exact id_ones _
            obtain ⟨A2, hA2⟩ : ∃ A, A = (blkL ⟨withR hd o, ls, lc, txs⟩).toArray := ⟨_, rfl⟩
            have hA2s : A2.size = 69 := by rw [hA2, List.size_toArray]; exact blkL_len (withR_is HV.out.1 HO.out)
            have hk2 := HK210.out
            rw [HA1.out] at hk2
            have K2n : Bk (w10.setCells p2 33 OA.toList) p2 49 A2 := by
              rw [hA2, show OA.toList = o.map byteV from by rw [HOA.out, idA_toList']]
              exact set_root (withR_is HV.out.1 HRI.out) HO.out hk2
            have BW1 : Below w.heap.size w (w10.setCells p2 33 OA.toList) := Below.setCells (Nat.le_of_eq HP2.out.symm) _ _ _ HB10.out
            have K3n : Bk (w10.setCells p2 33 OA.toList) (p2 + 1) 26 OA := rowFar HK310.out (by omega) _ _
            have K7n : Bk (w10.setCells p2 33 OA.toList) p7 26 RA := rowFar HK710.out (by have := hz7.out; omega) _ _
            clear hk2
            go_upto_region 21 with fail
            have htj2 := HTJ.out
            simp only [htj2]
            clear htj2
            go_upto_region 22 with (refine wpList_store_mid rfl 26 (.tmp 63) (.tmp 61) rfl p2 33 OA rfl rfl hth hin ho1 ?_)
            refine wp_any (fun W => Below w.heap.size w W ∧ Bk W p2 49 A2 ∧ Bk W (p2 + 1) 26 OA ∧ Bk W p7 26 RA) ⟨BW1, K2n, K3n, K7n⟩ ?_
            clear hla3 z3 z2 hth hin ho1 K2n BW1 K3n K7n HK210 HK310 HK710
            rintro W11 ⟨hB11, hK211, hK311, hK711⟩
            have HB11 := Lib.hid hB11
            have HK211 := Lib.hid hK211
            have hla3 : (loadCellsFrom ⟨p2 + 1, 0, none⟩ 0 sj #[]).run Tryd.prog W11 = .ok OA W11 := by
              have h := HLJ.out W11 (p2 + 1) o HO.out (by rw [← HOA.out]; exact hK311)
              rw [← HOA.out] at h
              exact h
            have hla7 : (loadCellsFrom ⟨p7, 0, none⟩ 0 sj #[]).run Tryd.prog W11 = .ok RA W11 := by
              have h := HLJ.out W11 p7 R HRI.out (by rw [← HRA.out]; exact hK711)
              rw [← HRA.out] at h
              exact h
            have z3 := hK311.lt
            have z7 := hK711.lt
            have heq : ∀ W, (Op.equalIn 10000 26 (.agg OA) (.agg RA)).run Tryd.prog W = .ok (decide (o = R)) W := by
              rw [HOA.out, HRA.out]
              exact fun W => id_eql o R HO.out.1 HRI.out.1 W
            have HA2 := Lib.hid hA2
            have HA2s := Lib.hid hA2s
            clear hK211 hK311 hK711 hA2 hA2s
            have htj2 := HTJ.out
            simp only [htj2]
            clear htj2
            have htl2 := HTL.out
            simp only [htl2]
            clear htl2
            by_cases hoR : o = R
            · rw [decide_eq_true hoR] at heq
              clear hoR
              go_wp2_with fail
              go_ret
              exact ⟨rfl, HB11.out⟩
            · rw [decide_eq_false hoR] at heq
              have hr40 := rootE_other txs o (by rw [← HR.out]; exact hoR)
              have hrt := croot_any ⟨withR hd o, ls, lc, txs⟩ W11 (HV1.out o HO.out W11 hB11) HFA.out HN40.out (HLD.out.keep hB11)
              change Calls _ _ _ _ (fun r w' => r = .returned (.int .i64 (rootE o txs : Nat)) ∧ _) at hrt
              rw [hr40, ← HA2.out] at hrt
              have hbe : blkE ⟨withR hd o, ls, lc, txs⟩ ≠ 0 := blkE_other _ _ _ _ hr40
              obtain ⟨be, hbe2⟩ : ∃ be, be = blkE ⟨withR hd o, ls, lc, txs⟩ := ⟨_, rfl⟩
              have HBE := Lib.hid hbe2
              rw [← hbe2] at hbe
              have qbe : ((be : Int) != 0) = true := by simp; omega
              have hla := HLO.out W11 p2 A2 HA2s.out HK211.out
              have z2 := HK211.out.lt
              clear hoR hr40 hbe hbe2 hB11
              go_wp2_with fail
              refine hrt.mono ?_
              rintro e w12 ⟨rfl, hb12⟩
              have HB12 := Lib.hid (below_step HB11.out HB11.out.size hb12)
              have HK212 := Lib.hid (HK211.out.keep hb12)
              have hblk := cblock_any ⟨withR hd o, ls, lc, txs⟩ w12 (HV1.out o HO.out w12 HB12.out) HFA.out HN40.out (HLD.out.keep HB12.out)
              rw [← HBE.out, ← HA2.out] at hblk
              have hla := HLO.out w12 p2 A2 HA2s.out HK212.out
              have z2 := HK212.out.lt
              clear hb12 hrt hla3 hla7 z3 z7
              go_wp2_with fail
              refine hblk.mono ?_
              rintro e w13 ⟨rfl, hb13⟩
              have HB13 := Lib.hid (below_step HB12.out HB12.out.size hb13)
              clear hb13 hblk hla z2
              go_wp2_with fail
              go_ret
              exact ⟨rfl, HB13.out⟩
end Go.Proofs.YtpemljbdmbinlaaDoor.checkRoots
