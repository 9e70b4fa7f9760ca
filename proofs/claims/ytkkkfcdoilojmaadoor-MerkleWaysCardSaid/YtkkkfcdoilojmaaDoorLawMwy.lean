/-
  What is proved: for every list of names and every place the law MerkleWays returns true, and its arguments read behind the call as they read before; the two listed tables of package hash are taken to hold what the program's text lays in them, and the card ties them to it.
-/
import Derived.Test.YtkkkfcdoilojmaaDoorMerJ
import Derived.Test.YtkkkfcdoilojmaaDoorMerW
import Derived.Test.YtkkkfcdoilojmaaDoorIdArg
import Derived.Test.YtkkkfcdoilojmaaDoorTie
import Derived.Test.YtkkkfcdoilojmaaDoorCards
import Derived.Stop.Joined
namespace Go.Proofs.YtkkkfcdoilojmaaDoor.merkleWays
open Go.ChangeShapes Go.WideShapes Go.ChangeAt Go.RowKit
set_option linter.unusedVariables false

theorem own : ownKnob Tryd.prog.godebug = none := by kernel_rfl
theorem laidOut : laidOutB Tryd.prog = true := by kernel_rfl
theorem wf_i64 {z : Int} (h : (Lit.int .i64 z).wf = true) : -9223372036854775808 ≤ z ∧ z ≤ 9223372036854775807 := by
  simp [Lit.wf, IntKind.min, IntKind.max, IntKind.signed, IntKind.bits] at h
  omega

set_option maxRecDepth 100000 in
set_option maxHeartbeats 1000000 in
theorem walk_big (a : Int) (s : Option Addr) (n c : Nat) (w : World) (hL : Laid w) (h : 40 < n) :
    Calls Tryd.prog 7 #[.slice s n c, .int .i64 a] w fun e w' => e = .returned (.bool true) ∧ Below w.heap.size w w' := by
  have HJ := Lib.hid (joins_any _ hL)
  have hd2 : decide ((40 : Int) < (n : Int)) = true := decide_eq_true (by omega)
  clear hL
  go_enter Tryd.func7, Tryd.ntmps7
  go_wp2_with fail
  refine HJ.out.mono ?_
  rintro e w1 ⟨rfl, hb1⟩
  clear HJ
  go_wp2_with fail
  go_ret
  exact ⟨rfl, hb1⟩
set_option maxRecDepth 100000 in
set_option maxHeartbeats 1000000 in
theorem walk_out (a : Int) (s : Option Addr) (n c : Nat) (w : World) (hL : Laid w) (hn : ¬ 40 < n) (h : a < 0 ∨ ¬ a < 0 ∧ (n : Int) ≤ a) :
    Calls Tryd.prog 7 #[.slice s n c, .int .i64 a] w fun e w' => e = .returned (.bool true) ∧ Below w.heap.size w w' := by
  have HJ := Lib.hid (joins_any _ hL)
  have HW := Lib.hid (fun W => way_none a s n c W h)
  have hd2 : decide ((40 : Int) < (n : Int)) = false := decide_eq_false (by omega)
  clear hL
  rcases h with h | ⟨h1, h⟩
  all_goals
    try have hd : decide (a < 0) = true := decide_eq_true h
    try have hd : decide (a < 0) = false := decide_eq_false h1
    try have hd3 : decide ((n : Int) ≤ a) = true := decide_eq_true h
    go_enter Tryd.func7, Tryd.ntmps7
    go_wp2_with fail
    refine HJ.out.mono ?_
    rintro e w1 ⟨rfl, hb1⟩
    clear HJ
    go_wp2_with fail
    refine (HW.out _).mono ?_
    rintro e w2 ⟨rfl, hb2⟩
    have hW := hb1.trans (hb2.mono hb1.size)
    clear hb1 hb2
    go_wp2_with fail
    go_ret
    exact ⟨rfl, hW⟩
theorem lev_one (m : Nat) (h : ¬ 1 < m) : levN m = 0 := by rw [levN, dif_neg h]
theorem lev_more (m : Nat) (h : 1 < m) : levN m = levN ((m + 1) / 2) + 1 := by rw [levN, dif_pos h]
set_option maxRecDepth 100000 in
set_option maxHeartbeats 8000000 in
theorem walk_inn (k : Nat) (L : List (List Nat)) (s : Option Addr) (c : Nat) (w : World) (hL : Laid w) (hv : IdsV w w.heap.size (.slice s L.length c) L) (hn : ¬ 40 < L.length) (hk : k < L.length) :
    Calls Tryd.prog 7 #[.slice s L.length c, .int .i64 (k : Int)] w fun e w' => e = .returned (.bool true) ∧ Below w.heap.size w w' := by
  have HL := Lib.hid hL
  have HJ := Lib.hid (joins_any _ hL)
  have hids := hv.ids
  obtain ⟨b, o, rfl, hbl, _, hr⟩ := hv.at_ (fun h => by rw [h] at hk; simp at hk)
  have HRX := Lib.hid (hr k _ (nthI_get hk))
  have HX := Lib.hid (nthI_id hids hk)
  have hbelow : ∀ W, Below w.heap.size w W → IdsV W W.heap.size (.slice (some ⟨b, o, none⟩) L.length c) L := fun W h => (hv.keep h (Nat.le_refl _)).mono h.size
  have HWY := Lib.hid (fun W (h : Below w.heap.size w W) => way_any k _ L W (hL.below h hL.size) (hbelow W h) hk (by omega))
  have HRT := Lib.hid (fun W (h : Below w.heap.size w W) => root_any _ L W (hL.below h hL.size) (hbelow W h) (by omega))
  have hlead := way_leads L k false hk
  have e : (rootV L).1 = (rootW L false).1 := by unfold rootV; rw [if_neg (by omega)]
  rw [← e] at hlead
  have HWI := Lib.hid (wayW_ids L k hids hk)
  have hwl := wayW_length L k
  have hlle := levN_le L.length
  have HLD : Hid (∀ v W, Laid W → IdsV W W.heap.size v (wayW L k) → Calls Tryd.prog 12 #[idv (nthI L k), .int .i64 (k : Int), v] W fun e w' => e = .returned (idv (rootV L).1) ∧ Below W.heap.size W w') := fun v W h1 h2 => by
    have h := leads_any (nthI L k) (k : Int) v _ W h1 HX.out (by omega) h2 (by omega)
    rw [hlead] at h
    exact h
  have HQ := Lib.hid (rootV_id L hids)
  have hl0 := Lib.hid hwl
  clear hlead e hbelow hr
  generalize (rootV L).1 = q at *
  generalize (rootV L).2 = tw at *
  generalize nthI L k = x at *
  generalize wayW L k = wy at *
  obtain ⟨n, hnl⟩ : ∃ n, n = L.length := ⟨_, rfl⟩
  rw [← hnl] at hwl hlle hk hn HWY HRT ⊢
  have HWL : Hid (wy.length = levN n) := hwl
  have hd2 : decide ((40 : Int) < (n : Int)) = false := decide_eq_false (by omega)
  have hd3 : decide ((k : Int) < 0) = false := decide_eq_false (by omega)
  have hd4 : decide ((n : Int) ≤ (k : Int)) = false := decide_eq_false (by omega)
  have hd4' : decide (n ≤ k) = false := decide_eq_false (by omega)
  have hql := HQ.out.1
  have hxl := HX.out.1
  have hkn : (k : Int) < (n : Int) := by omega
  clear hv hL hids hnl hl0 hwl
  go_enter Tryd.func7, Tryd.ntmps7
  go_wp2_with fail
  refine HJ.out.mono ?_
  rintro e w1 ⟨rfl, hb1⟩
  have HWY1 := Lib.hid (HWY.out w1 hb1)
  have hW := Lib.hid hb1
  clear hb1 HJ HWY
  go_wp2_with fail
  refine HWY1.out.mono ?_
  rintro e w2 ⟨v2, rfl, M, hb⟩
  have hW := Lib.hid (hW.out.trans (hb.mono hW.out.size))
  have hM := M.ids HWI.out
  obtain ⟨s2, c2, e2⟩ := M.slice
  subst e2
  have hM := Lib.hid hM
  clear hb HWY1 M
  go_wp2_with fail
  go_loopw [7, 8] (fun lv nv wr => ∃ (l m : Nat), lv = .int .i64 (l : Int) ∧ nv = .int .i64 (m : Int) ∧ m ≤ 40 ∧ l ≤ 1000 ∧ Hid (l + levN m = levN n) ∧ wr = w2) (fun _ nv _ => (intOf nv).toNat)
  case atStart => exact ⟨0, n, rfl, rfl, by omega, by omega, by show _ = _; omega, rfl⟩
  case round =>
    obtain ⟨l, m, rfl, rfl, hm, hl, HLM, rfl⟩ := hrel
    by_cases h1 : 1 < m
    · have hd : decide ((1 : Int) < (m : Int)) = true := decide_eq_true (by omega)
      have hnx : Hid (l + 1 + levN ((m + 1) / 2) = levN n) := by have h := HLM.out; rw [lev_more m h1] at h; show _ = _; omega
      have hl1 : l + 1 ≤ 1000 := by have := hnx.out; have := levN_le n; omega
      go_wp2_with fail
      go_roundw
      case rel =>
        have e1 : Value.int .i64 ((l : Int) + 1) = .int .i64 ((l + 1 : Nat) : Int) := by go_num
        have e2 : Value.int .i64 (((m : Int) + 1) / 2) = .int .i64 (((m + 1) / 2 : Nat) : Int) := congrArg (Value.int .i64) (by omega)
        first | exact ⟨l + 1, (m + 1) / 2, e1, e2, by omega, hl1, hnx, rfl⟩ | exact ⟨l + 1, (m + 1) / 2, e1, e2, by omega, hl1, hnx, trivial⟩ | ((repeat apply Exists.intro); exact ⟨⟨l + 1, (m + 1) / 2, e1, e2, by omega, hl1, hnx, rfl⟩, rfl⟩)
      case measure => simp [intOf] <;> omega
    · have hd : decide ((1 : Int) < (m : Int)) = false := decide_eq_false (by omega)
      have hd' : decide (1 < m) = false := decide_eq_false h1
      have hle : l = wy.length := by have h := HLM.out; rw [lev_one m h1] at h; rw [HWL.out]; omega
      subst hle
      have HRT1 := Lib.hid (HRT.out wr hW.out)
      clear HRT h1
      go_wp2_with fail
      refine HRT1.out.mono ?_
      rintro e w3 ⟨rfl, hb⟩
      have hM := Lib.hid ((hM.out.keep hb (Nat.le_refl _)).mono hb.size)
      have hW := Lib.hid (hW.out.trans (hb.mono hW.out.size))
      have N0 := Bk.new w3 23 (idA (zeros 32))
      clear hb HRT1
      go_upto_region 14 with (refine wpList_store_mid rfl 23 (.tmp 9) (.tmp 49) rfl w3.heap.size 0 (idA q) rfl rfl (by rw [idA_size, hql]; exact N0.there 32 (by rw [idA_size]; decide)) (by rw [idA_size, hql]; exact id_info') (id_ones _) ?_)
      have hA3 : Below w3.heap.size w3 ((w3.alloc (.cells (idA (zeros 32)) 23)).setCells w3.heap.size 0 (idA q).toList) := Below.setCells (Nat.le_refl _) _ _ _ ((Below.refl _ _).alloc (Nat.le_refl _) _)
      have hMs := hM.out.slice
      refine wp_any (fun V => Below w.heap.size w V ∧ Bk V w3.heap.size 23 (idA q) ∧ Laid V ∧ IdsV V V.heap.size (.slice s2 wy.length c2) wy ∧ V.rangeAt b (o + k * 32) (idA x).toList) ⟨hW.out.trans (hA3.mono hW.out.size), N0.setAll (by rw [idA_size, idA_size, hql]; rfl), HL.out.below (hW.out.trans (hA3.mono hW.out.size)) HL.out.size, (hM.out.keep hA3 (Nat.le_refl _)).mono hA3.size, idr_below HRX.out (hW.out.trans (hA3.mono hW.out.size)) hbl⟩ ?_
      have hb3 := hW.out.size
      generalize w3.heap.size = g9 at *
      clear N0 hA3 hW hM hMs
      rintro V ⟨hW, R, hLV, hM, hrx⟩
      have HLR := Lib.hid hLV
      have hM := Lib.hid hM
      have hbV : b < V.heap.size := Nat.lt_of_lt_of_le hbl hW.size
      clear hLV
      obtain ⟨tl, htl⟩ : ∃ tl : TypeId, tl = 23 := ⟨_, rfl⟩
      obtain ⟨sz, hsz0⟩ : ∃ sz : Nat, sz = 32 := ⟨_, rfl⟩
      have hag : ∀ w, (isAgg tl).run Tryd.prog w = .ok true w := by rw [htl]; exact id_agg
      have hsz : ∀ w, (sizeOf tl).run Tryd.prog w = .ok sz w := by rw [htl, hsz0]; exact id_size
      have hl1 : ∀ w', w'.rangeAt b (o + k * 32) (idA x).toList → (loadCellsFrom ⟨b, o + k * 32, none⟩ 0 sz #[]).run Tryd.prog w' = .ok (idA x) w' := fun w' h => by rw [hsz0]; exact id_load _ _ _ _ hxl h
      have hl2 : ∀ w', w'.rangeAt g9 0 (idA q).toList → (loadCellsFrom ⟨g9, 0, none⟩ 0 sz #[]).run Tryd.prog w' = .ok (idA q) w' := fun w' h => by rw [hsz0]; exact id_load _ _ _ _ hql h
      have hr2 := R.range0
      have heq1 : ∀ W, (Op.equalIn 10000 23 (.agg (idA q)) (.agg (idA q))).run Tryd.prog W = .ok true W := fun W => by have h := id_eql q q hql hql W; rwa [decide_eq_true rfl] at h
      have hk0 : (0 : Int) ≤ (k : Int) := by omega
      have hwk : IntKind.i64.wrap (k : Int) = (k : Int) := IntWalk.i64_in _ (by omega)
      simp only [show ∀ z, Op.load 23 z = Op.load tl z from fun z => by rw [htl]]
      clear htl hsz0
      go_cut [4] (fun s4 wx => s4 = .bool true ∧ Below V.heap.size V wx)
      case first =>
        go_region_held3 (fun w' => V.heap.size ≤ w'.heap.size ∧ w'.rangeAt b (o + k * 32) (idA x).toList ∧ w'.rangeAt g9 0 (idA q).toList)
          ((refine ⟨?_, ?_, ?_⟩; (focus (first | omega | (simp; done) | (simp; omega) | (simp [World.drew]; done) | (simp [World.drew]; omega))); (focus (refine idr_below (C := V.heap.size) hrx ?_ hbV; repeat' (first | with_reducible exact Below.refl _ _ | with_reducible assumption | with_reducible exact From.out (by with_reducible assumption) | with_reducible refine Below.drew ?_ | with_reducible refine Below.setCell ?_ ?_ _ | with_reducible refine Below.alloc ?_ ?_ _ | with_reducible exact Nat.le_refl _ | omega | (simp; done) | (simp; omega) | (simp [World.drew]; done) | (simp [World.drew]; omega)))); (focus (refine idr_below (C := V.heap.size) hr2 ?_ R.lt; repeat' (first | with_reducible exact Below.refl _ _ | with_reducible assumption | with_reducible exact From.out (by with_reducible assumption) | with_reducible refine Below.drew ?_ | with_reducible refine Below.setCell ?_ ?_ _ | with_reducible refine Below.alloc ?_ ?_ _ | with_reducible exact Nat.le_refl _ | omega | (simp; done) | (simp; omega) | (simp [World.drew]; done) | (simp [World.drew]; omega))))))
          (first
          | (go_at_call 12
             refine (HLD.out _ _ ?_ ?_).mono ?_
             · refine HLR.out.keep ?_
               repeat' (first | with_reducible exact Below.refl _ _ | with_reducible assumption | with_reducible exact From.out (by with_reducible assumption) | with_reducible refine Below.drew ?_ | with_reducible refine Below.setCell ?_ ?_ _ | with_reducible refine Below.alloc ?_ ?_ _ | with_reducible exact Nat.le_refl _ | omega | (simp; done) | (simp; omega) | (simp [World.drew]; done) | (simp [World.drew]; omega))
             · refine IdsV.mono (IdsV.keep hM.out (C := V.heap.size) ?_ (Nat.le_refl _)) ?_
               · repeat' (first | with_reducible exact Below.refl _ _ | with_reducible assumption | with_reducible exact From.out (by with_reducible assumption) | with_reducible refine Below.drew ?_ | with_reducible refine Below.setCell ?_ ?_ _ | with_reducible refine Below.alloc ?_ ?_ _ | with_reducible exact Nat.le_refl _ | omega | (simp; done) | (simp; omega) | (simp [World.drew]; done) | (simp [World.drew]; omega))
               · first | omega | (simp; done) | (simp; omega) | (simp [World.drew]; done) | (simp [World.drew]; omega)
             rintro e w7 ⟨rfl, hb7⟩
             have hE7 : From V w7 := by
               refine below_step ?_ ?_ hb7
               · repeat' (first | with_reducible exact Below.refl _ _ | with_reducible assumption | with_reducible exact From.out (by with_reducible assumption) | with_reducible refine Below.drew ?_ | with_reducible refine Below.setCell ?_ ?_ _ | with_reducible refine Below.alloc ?_ ?_ _ | with_reducible exact Nat.le_refl _ | omega | (simp; done) | (simp; omega) | (simp [World.drew]; done) | (simp [World.drew]; omega))
               · first | omega | (simp; done) | (simp; omega) | (simp [World.drew]; done) | (simp [World.drew]; omega)
             have z7 := hE7.out.size))
        all_goals
          go_wp2_with fail
          go_meet
          refine ⟨rfl, ?_⟩
          repeat' (first | with_reducible exact Below.refl _ _ | with_reducible assumption | with_reducible exact From.out (by with_reducible assumption) | with_reducible refine Below.drew ?_ | with_reducible refine Below.setCell ?_ ?_ _ | with_reducible refine Below.alloc ?_ ?_ _ | with_reducible exact Nat.le_refl _ | omega | (simp; done) | (simp; omega) | (simp [World.drew]; done) | (simp [World.drew]; omega))
      case rest =>
        obtain ⟨rfl, hb⟩ := hcut
        have hW := hW.trans (hb.mono hW.size)
        go_wp2_with fail
        go_ret
        exact ⟨rfl, hW⟩
theorem walk (v : Value) (a : Int) (L : List (List Nat)) (w : World) (hL : Laid w) (hv : IdsV w w.heap.size v L) :
    Calls Tryd.prog 7 #[v, .int .i64 a] w fun e w' => e = .returned (.bool true) ∧ Below w.heap.size w w' := by
  obtain ⟨s, c, rfl⟩ := hv.slice
  by_cases h0 : 40 < L.length
  · exact walk_big a s _ c w hL h0
  · by_cases h1 : a < 0 ∨ ¬ a < 0 ∧ (L.length : Int) ≤ a
    · exact walk_out a s _ c w hL h0 h1
    · obtain ⟨k, rfl⟩ : ∃ k : Nat, a = (k : Int) := ⟨a.toNat, by omega⟩
      exact walk_inn k L s c w hL hv h0 (by omega)

/-- The door's own heap meets the condition. -/
theorem door_met (os : Os) (args : Array Value) : laidMetH Tryd.prog laidL ((World.doorLaid Tryd.prog 19 os).forCall (fun _ _ => 0) ⟨#[], args, []⟩).memory :=
  laidMetH_of_parts3 (fuel := 8) (laidMet_of_run' 8 (by kernel_rfl) (by kernel_rfl)) (by kernel_rfl) (by kernel_rfl)

set_option maxRecDepth 100000 in
theorem lifted (os : Os) (started : os.Started) (H : Type) (enc : TypeId × Value → H) :
    ReturnsInHanded {} Tryd.checked os 7 .any (fun w args => (Rows.merkleWaysSpec.pre enc Tryd.prog Tryd.f7 [] false w args ∧ laidMetH Tryd.prog laidL w) ∧ sizedMet enc Tryd.prog Tryd.f7 (OpenSpec.ofChange Rows.merkleWaysSpec) false w args)
      (Rows.merkleWaysSpec.post enc Tryd.prog Tryd.f7 false true false false) := by
  refine returnsInHanded_of_change_and (C := Tryd.checked) (X := fun w _ => laidMetH Tryd.prog laidL w) (fun _ _ _ hh h => h.of_heap hh) own started (by kernel_rfl) Tryd.func7
    (ChangeSpec.witness_shaped (enc := enc) (C := Tryd.checked) (os := os) (X := fun w _ => laidMetH Tryd.prog laidL w) false (World.doorLaid Tryd.prog 19 os) #[.slice none 0 0, .int .i64 0] 8 rfl (World.shaped_of_RefB (by kernel_rfl) (by kernel_rfl)) (by kernel_rfl) (by kernel_rfl) (by kernel_rfl) (door_met os _)) ?_
  intro W base args ds gs before hval0 hW _ _ hL _
  have hval : ∀ (j : Nat) t v, Tryd.f7.params[j]? = some t → args[j]? = some v → Value.okWide Tryd.prog W .any base t v := hval0
  have hW' := hW
  obtain ⟨p, q, hA0, hV, rfl, hfz, hnd⟩ := hW
  have hA : DataW.TrodAll enc Tryd.prog W 0 (fun _ => true) true Tryd.f7.params.toList args.toList ds p := hA0
  rw [Tryd.params7] at hA hval
  obtain ⟨v0, vs0, d0, ds0, p0, q0, hargs, rfl, rfl, h0, r0⟩ := trodAll_cons hA
  obtain ⟨v1, vs1, d1, ds1, p1, q1, rfl, rfl, rfl, h1, r1⟩ := trodAll_cons r0
  obtain ⟨rfl, rfl, rfl⟩ := trodAll_nil r1
  obtain rfl : args = #[v0, v1] := by cases args; simp_all
  obtain ⟨rfl, rfl⟩ := trodVars_none hV
  have lt0 : ∀ x ∈ p0, x.block < W.heap.size := by obtain ⟨m, hm⟩ := h0; exact DataW.trod_lt m _ _ _ hm
  have lt1 : ∀ x ∈ p1, x.block < W.heap.size := by obtain ⟨m, hm⟩ := h1; exact DataW.trod_lt m _ _ _ hm
  obtain ⟨x0, hb0⟩ := ids_arg (hval 0 24 v0 rfl rfl) h0
  obtain ⟨y1, rfl, _, _, hwf1⟩ := open_int (k := .i64) Tryd.underlying3 (hval 1 3 v1 rfl rfl) h1
  have hy1 := wf_i64 hwf1
  have hwalk := walk v0 y1 x0 W (of_laid hL) hb0
  clear hA0 hval0
  refine hwalk.mono fun e W' ⟨he, bel⟩ => ?_
  subst he
  exact ⟨_, rfl, _, _, _, [], _, [], hW', trodAll_mk1 (shut_bool Tryd.underlying4 _), (trodAll_cons_mk (Below.trod laidOut (by kernel_rfl) (of_decide_eq_true (by kernel_rfl)) h0 bel lt0) (trodAll_cons_mk (Below.trod laidOut (by kernel_rfl) (of_decide_eq_true (by kernel_rfl)) h1 bel lt1) trodAll_mk0)), rfl, bel.frame _, fun h => by cases h⟩

theorem over : Rows.MerkleWaysSaid :=
  OpenClaim.holds_of_wide 7 Tryd.f7 rfl rfl rfl rfl rfl rfl rfl ⟨rfl, rfl, rfl, rfl, rfl⟩ rfl rfl rfl rfl rfl (by kernel_rfl) Tryd.func7 (by kernel_rfl)
    (of_decide_eq_true (by kernel_rfl)) (by unfold Func.isWrapper; first | (rw [if_pos (by decide +kernel)]; kernel_rfl) | (rw [if_neg (by decide +kernel)]; exact ⟨rfl, rfl⟩))
    (fun os started H enc _ => lifted os started H enc)

theorem proved : Rows.MerkleWaysCardSaid :=
  Claim7.holds_tied_plain_at .later [] [.data, .data] true Rows.merkleWaysCard.stood.harness false
    over (fun _ h => by cases h) (by kernel_rfl) (fun _ h => by cases h) merkleWays_row_tie rfl ⟨rfl, rfl⟩ (by kernel_rfl) rfl
    (fun f fn hf hfn => by
      obtain rfl : f = 7 := Option.some.inj ((show Tryd.prog.funcNamed "tallystick/tallysticklaw04.MerkleWays" = some 7 by kernel_rfl).symm.trans hf) |>.symm
      obtain rfl : fn = Tryd.f7 := (Option.some.inj (Tryd.func7.symm.trans hfn)).symm
      exact ⟨by kernel_rfl, fun j t ht => by
        rw [Tryd.params7] at ht
        have hm : t ∈ [24, 3] := by simpa using Array.mem_of_getElem? ht
        have hall : ([24, 3].all fun u => !Tryd.prog.wantsStandIn u) = true := by kernel_rfl
        exact (show Tryd.prog.wantsStandIn t = false by simpa using List.all_eq_true.1 hall t hm)⟩)
    (by kernel_rfl)
#print axioms proved
end Go.Proofs.YtkkkfcdoilojmaaDoor.merkleWays
