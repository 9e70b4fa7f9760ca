/-
  What is proved: for every name, every place and every list of names the law MerkleLeads returns true, and its arguments read behind the call as they read before; the two listed tables of package hash are taken to hold what the program's text lays in them, and the card ties them to it.
-/
import Derived.Test.YtkkkfcdoilojmaaDoorMerJ
import Derived.Test.YtkkkfcdoilojmaaDoorIdArg
import Derived.Test.YtkkkfcdoilojmaaDoorTie
import Derived.Test.YtkkkfcdoilojmaaDoorCards
import Derived.Stop.Joined
namespace Go.Proofs.YtkkkfcdoilojmaaDoor.merkleLeads
open Go.ChangeShapes Go.WideShapes Go.ChangeAt Go.RowKit
set_option linter.unusedVariables false

theorem own : ownKnob Tryd.prog.godebug = none := by kernel_rfl
theorem laidOut : laidOutB Tryd.prog = true := by kernel_rfl
theorem wf_i64 {z : Int} (h : (Lit.int .i64 z).wf = true) : -9223372036854775808 ≤ z ∧ z ≤ 9223372036854775807 := by
  simp [Lit.wf, IntKind.min, IntKind.max, IntKind.signed, IntKind.bits] at h
  omega

theorem leads_cut (a : List Nat) (p : Int) (x : List Nat) : leadsW a p [x] = if p % 2 = 0 then H2 a x else H2 x a := rfl
set_option maxRecDepth 100000 in
set_option maxHeartbeats 1000000 in
theorem walk_out (id : List Nat) (a : Int) (s : Option Addr) (n c : Nat) (w : World) (hL : Laid w) (h : a < 0 ∨ ¬ a < 0 ∧ 40 < n) :
    Calls Tryd.prog 3 #[idv id, .int .i64 a, .slice s n c] w fun e w' => e = .returned (.bool true) ∧ Below w.heap.size w w' := by
  have HL := Lib.hid hL
  have hA : Below w.heap.size w (w.alloc (.cells (idA id) 23)) := (Below.refl _ _).alloc (Nat.le_refl _) _
  have HJ := Lib.hid (joins_any _ (hL.keep hA))
  clear hL
  rcases h with h | ⟨h1, h⟩
  all_goals
    try have hd : decide (a < 0) = true := decide_eq_true h
    try have hd : decide (a < 0) = false := decide_eq_false h1
    try have hd2 : decide ((40 : Int) < (n : Int)) = true := decide_eq_true (by omega)
    go_enter Tryd.func3, Tryd.ntmps3
    go_wp2_with fail
    refine HJ.out.mono ?_
    rintro e w1 ⟨rfl, hb1⟩
    have hW := below_step hA (by simp) hb1
    clear hb1 HJ
    go_wp2_with fail
    go_ret
    exact ⟨rfl, hW⟩

theorem id_store (w : World) (g : Nat) (q : List Nat) (hq : q.length = 32) (h : w.there g 0 32) : (storeCells ⟨g, 0, none⟩ (idA q).toList).run Tryd.prog w = .ok () (w.setCells g 0 (idA q).toList) := by
  have hl : (idA q).toList.length = 32 := by rw [Array.length_toList, idA_size, hq]
  have e := run_storeCells_cells (P := Tryd.prog) g 0 (idA q).toList 0 w (fun j hj => by simpa using (h j (by omega)).1) (fun j hj => by simpa using (h j (by omega)).2) (id_one q)
  simpa using e
set_option maxRecDepth 100000 in
set_option maxHeartbeats 8000000 in
theorem walk_inn (id : List Nat) (a : Int) (L : List (List Nat)) (s : Option Addr) (c : Nat) (w : World) (hL : Laid w) (hid : IsId id) (A : Nat) (haA : a = (A : Int)) (ha : 0 ≤ a ∧ a ≤ 9223372036854775807) (hv : IdsV w w.heap.size (.slice s L.length c) L) (hn : L.length ≤ 40) :
    Calls Tryd.prog 3 #[idv id, .int .i64 a, .slice s L.length c] w fun e w' => e = .returned (.bool true) ∧ Below w.heap.size w w' := by
  have HL := Lib.hid hL
  have HV := Lib.hid hv
  have hA : Below w.heap.size w (w.alloc (.cells (idA id) 23)) := (Below.refl _ _).alloc (Nat.le_refl _) _
  have HJ := Lib.hid (joins_any _ (hL.keep hA))
  have hids := hv.ids
  have hat := hv.at_
  obtain ⟨n, hnl⟩ : ∃ n, n = L.length := ⟨_, rfl⟩
  have HAT : Hid (0 < n → ∃ b o, s = some ⟨b, o, none⟩ ∧ b < w.heap.size ∧ ∀ k, k < n → w.rangeAt b (o + k * 32) (idA (nthI L k)).toList) := fun h => by
    obtain ⟨b, o, e, hb, _, hr⟩ := hat (fun h0 => by rw [h0] at hnl; simp at hnl; omega)
    exact ⟨b, o, e, hb, fun k hk => hr k _ (nthI_get (by omega))⟩
  have HIDS := Lib.hid (fun k (h : k < n) => nthI_id hids (i := k) (by omega))
  have HDR : Hid (∀ q p k, k < n → leadsW q p (L.drop k) = leadsW (leadsW q p [nthI L k]) (p / 2) (L.drop (k + 1))) := fun q p k h => by
    rw [leads_drop q p L k (by omega), leads_cut]
  have HEN : Hid (∀ q p, leadsW q p (L.drop n) = q) := fun q p => by rw [List.drop_of_length_le (by omega)]; rfl
  obtain ⟨R0, hR0⟩ : ∃ R0, R0 = leadsW id a L := ⟨_, rfl⟩
  have HST : Hid (R0 = leadsW id a (L.drop 0)) := hR0
  have HR := Lib.hid (hR0 ▸ leadsW_id id a L hid : IsId R0)
  have HALL : Hid (∀ W, Laid W → Below w.heap.size w W → Calls Tryd.prog 12 #[idv id, .int .i64 a, .slice s n c] W fun e w' => e = .returned (idv R0) ∧ Below W.heap.size W w') := fun W h1 h2 => by
    have h := leads_any id a _ L W h1 hid (by omega) ((HV.out.keep h2 (Nat.le_refl _)).mono h2.size) (by omega)
    rw [hnl, hR0]
    exact h
  have HNIL : Hid (∀ W, Laid W → Calls Tryd.prog 12 #[idv id, .int .i64 a, .slice none 0 0] W fun e w' => e = .returned (idv id) ∧ Below W.heap.size W w') := fun W h1 => leads_any id a _ [] W h1 hid (by omega) (IdsV.nil _ _) (by simp)
  have HONE : Hid (∀ q x p v W, IsId q → (0 ≤ p ∧ p ≤ 9223372036854775807) → Laid W → IdsV W W.heap.size v [x] → Calls Tryd.prog 12 #[idv q, .int .i64 p, v] W fun e w' => e = .returned (idv (leadsW q p [x])) ∧ Below W.heap.size W w') := fun q x p v W h0 hp h1 h2 => leads_any q p v [x] W h1 h0 (by omega) h2 (by simp)
  have HIDL := Lib.hid hid
  have HAA := Lib.hid haA
  clear haA
  have hil := hid.1
  have hrl := HR.out.1
  have hd : decide (a < 0) = false := decide_eq_false (by omega)
  rw [← hnl] at hn ⊢
  have hd2 : decide ((40 : Int) < (n : Int)) = false := decide_eq_false (by omega)
  have HNL := Lib.hid hnl
  clear hL hv hids hat hR0 hnl hid
  go_enter Tryd.func3, Tryd.ntmps3
  go_wp2_with fail
  refine HJ.out.mono ?_
  rintro e w1 ⟨rfl, hb1⟩
  have hW := below_step hA (by simp) hb1
  have X : Bk w1 w.heap.size 23 (idA id) := Bk.keep (Bk.new _ _ _) hb1
  clear hb1 HJ hA
  generalize hg : w.heap.size = g at *
  have HALL1 := Lib.hid (HALL.out w1 (HL.out.below hW (by rw [← hg]; exact HL.out.size)) hW)
  go_wp2_with (refine wpList_load_mid rfl 23 (.tmp 3) rfl g 0 rfl (idA id).toList _ X.range0 Tryd.underlying23 rfl (by rw [Array.length_toList, idA_size, hil]; exact id_info') ?_)
  refine HALL1.out.mono ?_
  rintro e w2 ⟨rfl, hb⟩
  have X := X.keep hb
  have hW := hW.trans (hb.mono (by rw [← hg]; exact hW.size))
  have N0 := Bk.new w2 23 (idA (zeros 32))
  have zx := X.lt
  clear hb HALL1
  go_upto_region 6 with (refine wpList_store_mid rfl 23 (.tmp 7) (.tmp 23) rfl w2.heap.size 0 (idA R0) rfl rfl (by rw [idA_size, hrl]; exact N0.there 32 (by rw [idA_size]; first | decide | omega)) (by rw [idA_size, hrl]; exact id_info') (id_ones _) ?_)
  refine wp_any (fun W => Below g w W ∧ Bk W g 23 (idA id) ∧ Bk W w2.heap.size 23 (idA R0)) ⟨Below.setCells (Nat.le_of_lt zx) _ _ _ (hW.alloc (Nat.le_of_lt zx) _), (X.alloc _).farCells (by omega) _ _, N0.setAll (by rw [idA_size, idA_size, hrl]; rfl)⟩ ?_
  have hg7 : g < w2.heap.size := zx
  generalize w2.heap.size = g7 at *
  clear X hW N0 zx
  rintro W ⟨hW, X, R⟩
  have N0 := Bk.new W 23 (idA (zeros 32))
  have zx := X.lt
  have zr := R.lt
  go_upto_region 7 with (first | (refine wpList_load_mid rfl 23 (.tmp 3) rfl g 0 rfl (idA id).toList _ X.range0 Tryd.underlying23 rfl (by rw [Array.length_toList, idA_size, hil]; exact id_info') ?_) | (refine wpList_store_mid rfl 23 (.tmp 8) (.tmp 24) rfl W.heap.size 0 (idA id) rfl rfl (by rw [idA_size, hil]; exact N0.there 32 (by rw [idA_size]; first | decide | omega)) (by rw [idA_size, hil]; exact id_info') (id_ones _) ?_))
  refine wp_any (fun V => Below g w V ∧ Bk V g 23 (idA id) ∧ Bk V g7 23 (idA R0) ∧ Bk V W.heap.size 23 (idA id)) ⟨Below.setCells (Nat.le_of_lt zx) _ _ _ (hW.alloc (Nat.le_of_lt zx) _), (X.alloc _).farCells (by omega) _ _, (R.alloc _).farCells (by omega) _ _, N0.setAll (by rw [idA_size, idA_size, hil]; rfl)⟩ ?_
  have hg8 : g7 < W.heap.size := zr
  generalize W.heap.size = g8 at *
  clear X hW N0 zx zr R
  rintro W ⟨hW, X, R, O⟩
  have hW := Lib.hid hW
  go_wp2_with fail
  go_loopw [27] (fun i wr => ∃ (k : Nat) (q : List Nat), k ≤ n ∧ i = .int .i64 k ∧ Hid (IsId q) ∧ Hid (R0 = leadsW q ((A / 2 ^ k : Nat) : Int) (L.drop k)) ∧ Hid (Below g w wr) ∧ Bk wr g 23 (idA id) ∧ Bk wr g7 23 (idA R0) ∧ Bk wr g8 23 (idA q)) (fun i _ => n - (intOf i).toNat)
  case atStart => exact ⟨0, id, Nat.zero_le _, rfl, HIDL.out, by have h := HST.out; rw [Nat.pow_zero, Nat.div_one, ← HAA.out]; exact h, hW.out, X, R, O⟩
  case round =>
    obtain ⟨k, q, hk, rfl, HQ, HRQ, hWr, X, R, O⟩ := hrel
    clear hW
    have hql := HQ.out.1
    by_cases hlt : k < n
    · have hdk : decide ((k : Int) < (n : Int)) = true := decide_eq_true (by omega)
      have hdk' : decide (k < n) = true := decide_eq_true (by omega)
      obtain ⟨b, o, rfl, hbl, hrange⟩ := HAT.out (by omega)
      have hrx := idr_below (hrange k hlt) hWr.out hbl
      have hkn : (k : Int) < (n : Int) := by omega
      have HX := Lib.hid (HIDS.out k hlt)
      have hxl := HX.out.1
      have hnx := HDR.out q ((A / 2 ^ k : Nat) : Int) k hlt
      rw [← HRQ.out] at hnx
      obtain ⟨y, hy⟩ : ∃ y, y = leadsW q ((A / 2 ^ k : Nat) : Int) [nthI L k] := ⟨_, rfl⟩
      rw [← hy] at hnx
      have HYI : Hid (IsId y) := hy ▸ leadsW_id _ _ _ HQ.out
      obtain ⟨p, hp⟩ : ∃ p, p = ((A / 2 ^ k : Nat) : Int) := ⟨_, rfl⟩
      have hp2 : 0 ≤ p ∧ p ≤ 9223372036854775807 := by
        rw [hp]
        have h2 := Nat.div_le_self A (2 ^ k)
        have h3 := HAA.out
        generalize A / 2 ^ k = Z at *
        omega
      have hnp : p / 2 = ((A / 2 ^ (k + 1) : Nat) : Int) := by rw [hp, Nat.pow_succ, ← Nat.div_div_eq_div_mul]; omega
      rw [← hp] at hnx hy
      rw [hnp] at hnx
      have HNX := Lib.hid hnx
      have HP := Lib.hid hp
      have HCALL : Hid (∀ v W, Laid W → IdsV W W.heap.size v [nthI L k] → Calls Tryd.prog 12 #[idv q, .int .i64 p, v] W fun e w' => e = .returned (idv y) ∧ Below W.heap.size W w') := fun v W h1 h2 => by
        rw [hy]
        exact HONE.out q _ p v W HQ.out hp2 h1 h2
      have hyl := HYI.out.1
      generalize nthI L k = x at *
      clear hy hnx hp hnp
      have N0 := Bk.new wr 23 (idA (zeros 32))
      have zo := O.lt
      go_upto_region 10 with (first | (refine wpList_load_mid rfl 23 (.tmp 30) rfl b (o + k * 32) rfl (idA x).toList _ hrx Tryd.underlying23 rfl (by rw [Array.length_toList, idA_size, hxl]; exact id_info') ?_) | (refine wpList_store_mid rfl 23 (.tmp 10) (.tmp 31) rfl wr.heap.size 0 (idA x) rfl rfl (by rw [idA_size, hxl]; exact N0.there 32 (by rw [idA_size]; first | decide | omega)) (by rw [idA_size, hxl]; exact id_info') (id_ones _) ?_))
      refine wp_any (fun V => Below g w V ∧ Bk V g 23 (idA id) ∧ Bk V g7 23 (idA R0) ∧ Bk V g8 23 (idA q) ∧ Bk V wr.heap.size 23 (idA x)) ⟨Below.setCells (by omega) _ _ _ (hWr.out.alloc (by omega) _), (X.alloc _).farCells (by omega) _ _, (R.alloc _).farCells (by omega) _ _, (O.alloc _).farCells (by omega) _ _, N0.setAll (by rw [idA_size, idA_size, hxl]; rfl)⟩ ?_
      have hg10 : g8 < wr.heap.size := zo
      generalize wr.heap.size = g10 at *
      clear X R O N0 hWr hrx hrange zo
      rintro V ⟨hWr, X, R, O, Y⟩
      have hWr := Lib.hid hWr
      have hLr := HL.out.below hWr.out (by rw [← hg]; exact HL.out.size)
      have HLD := Lib.hid (hLr.keep ((Below.refl _ _).drew))
      have hq0 : V.drew.rangeAt g8 0 (idA q).toList := by simpa using O.range0
      have hx0 : V.drew.rangeAt g10 0 (idA x).toList := by simpa using Y.range0
      have hx1 : (V.alloc (.cells (idA x) 23)).drew.rangeAt g8 0 (idA q).toList := by have := World.rangeAt_alloc O.range0 (.cells (idA x) 23); simpa using this
      obtain ⟨tl, htl⟩ : ∃ tl : TypeId, tl = 23 := ⟨_, rfl⟩
      obtain ⟨sz, hsz0⟩ : ∃ sz : Nat, sz = 32 := ⟨_, rfl⟩
      have hag : ∀ w, (isAgg tl).run Tryd.prog w = .ok true w := by rw [htl]; exact id_agg
      have hsz : ∀ w, (sizeOf tl).run Tryd.prog w = .ok sz w := by rw [htl, hsz0]; exact id_size
      have hlq : (loadCellsFrom ⟨g8, 0, none⟩ 0 sz #[]).run Tryd.prog V.drew = .ok (idA q) V.drew := by rw [hsz0]; exact id_load _ _ _ _ hql hq0
      have hlq2 : (loadCellsFrom ⟨g8, 0, none⟩ 0 sz #[]).run Tryd.prog (V.alloc (.cells (idA x) 23)).drew = .ok (idA q) (V.alloc (.cells (idA x) 23)).drew := by rw [hsz0]; exact id_load _ _ _ _ hql hx1
      have hlx : (loadCellsFrom ⟨g10, 0, none⟩ 0 sz #[]).run Tryd.prog V.drew = .ok (idA x) V.drew := by rw [hsz0]; exact id_load _ _ _ _ hxl hx0
      have hx32 : (idA x).size = 32 := by rw [idA_size]; exact hxl
      have hfold := id_fold x hxl
      have hy32 : (idA y).size = 32 := by rw [idA_size]; exact hyl
      have hk0 : (0 : Int) ≤ (k : Int) := by omega
      have hsh : a >>> k = p := by rw [HAA.out, HP.out, Int.shiftRight_eq_div_pow]; rfl
      have hsh2 : a / 2 ^ k = p := by rw [HAA.out, HP.out]; norm_cast
      simp only [show ∀ z, Op.load 23 z = Op.load tl z from fun z => by rw [htl]]
      clear htl hsz0 hx0 hq0 hx1
      have HLR := Lib.hid hLr
      have hOl := O.lt
      go_region_law (first
        | (go_simp
           go_at_call 12
           refine (HCALL.out _ _ ?_ ?_).mono ?_
           · refine HLR.out.keep ?_
             repeat' (first | with_reducible exact Below.refl _ _ | with_reducible assumption | with_reducible exact From.out (by with_reducible assumption) | with_reducible refine Below.drew ?_ | with_reducible refine Below.setCell ?_ ?_ _ | with_reducible refine Below.alloc ?_ ?_ _ | with_reducible exact Nat.le_refl _ | omega | (simp; done) | (simp; omega) | (simp [World.drew]; done) | (simp [World.drew]; omega))
           · refine one_row (t := 23) ?_ HX.out
             repeat' (first | with_reducible assumption | with_reducible exact Bk.new _ _ _ | with_reducible refine Bk.new' _ _ _ ?_ | with_reducible refine Bk.alloc ?_ _ | with_reducible refine Bk.drew ?_ | (with_reducible refine Bk.keep ?_ (by with_reducible assumption)) | (simp; done) | (simp; omega) | (simp [World.drew]; done) | (simp [World.drew]; omega))
           rintro e w6 ⟨rfl, hb6⟩
           have hE6 : From V w6 := by
             refine below_step ?_ ?_ hb6
             · repeat' (first | with_reducible exact Below.refl _ _ | with_reducible assumption | with_reducible exact From.out (by with_reducible assumption) | with_reducible refine Below.drew ?_ | with_reducible refine Below.setCell ?_ ?_ _ | with_reducible refine Below.alloc ?_ ?_ _ | with_reducible exact Nat.le_refl _ | omega | (simp; done) | (simp; omega) | (simp [World.drew]; done) | (simp [World.drew]; omega))
             · first | omega | (simp; done) | (simp; omega) | (simp [World.drew]; done) | (simp [World.drew]; omega)
           have O6 := O.keep hE6.out
           have hst := id_store w6 g8 y hyl (O6.there 32 (by rw [idA_size]; omega))))
      all_goals
        have X6 := (X.keep hE6.out).farCells (b := g8) (by omega) (idA y).toList 0
        have R6 := (R.keep hE6.out).farCells (b := g8) (by omega) (idA y).toList 0
        have O7 := O6.setAll (xs := idA y) (by rw [idA_size, idA_size, hyl, hql])
        have hW6 := Lib.hid (Below.setCells (B := g) (g := g8) (by omega) (idA y).toList 0 _ (hWr.out.trans (hE6.out.mono (by have := hWr.out.size; omega))))
        clear hst hlq hlq2 hlx hag hsz hfold hx32 hy32 O6 hb6
        go_wp2_with fail
        go_roundw
        case rel =>
          have hi : Value.int .i64 ((k : Int) + 1) = .int .i64 ((k + 1 : Nat) : Int) := by go_num
          first | exact ⟨k + 1, y, by omega, hi, HYI, HNX, hW6, X6, R6, O7⟩ | ((repeat apply Exists.intro); exact ⟨⟨k + 1, y, by omega, hi, HYI, HNX, hW6, X6, R6, O7⟩, rfl⟩)
        case measure => simp [intOf] <;> omega
    · have hdk : decide ((k : Int) < (n : Int)) = false := decide_eq_false (by omega)
      have hdk' : decide (k < n) = false := decide_eq_false hlt
      have hkn : k = n := by omega
      have hRq : R0 = q := by rw [HRQ.out, hkn, HEN.out]
      subst hRq
      have hLr := HL.out.below hWr.out (by rw [← hg]; exact HL.out.size)
      have HLR := Lib.hid hLr
      clear hkn hlt hLr
      go_upto_region 12 with fail
      refine wp_any (fun V => Below g w V ∧ Bk V g 23 (idA id) ∧ Bk V g7 23 (idA R0) ∧ Bk V g8 23 (idA R0) ∧ Laid V) ⟨hWr.out, X, R, O, HLR.out⟩ ?_
      clear X R O HLR hWr
      rintro V ⟨hWr, X, R, O, hLV⟩
      have HLR := Lib.hid hLV
      clear hLV
      obtain ⟨tl, htl⟩ : ∃ tl : TypeId, tl = 23 := ⟨_, rfl⟩
      obtain ⟨sz, hsz0⟩ : ∃ sz : Nat, sz = 32 := ⟨_, rfl⟩
      have hag : ∀ w, (isAgg tl).run Tryd.prog w = .ok true w := by rw [htl]; exact id_agg
      have hsz : ∀ w, (sizeOf tl).run Tryd.prog w = .ok sz w := by rw [htl, hsz0]; exact id_size
      have hl1 : ∀ w', w'.rangeAt g 0 (idA id).toList → (loadCellsFrom ⟨g, 0, none⟩ 0 sz #[]).run Tryd.prog w' = .ok (idA id) w' := fun w' h => by rw [hsz0]; exact id_load _ _ _ _ hil h
      have hl2 : ∀ w', w'.rangeAt g7 0 (idA R0).toList → (loadCellsFrom ⟨g7, 0, none⟩ 0 sz #[]).run Tryd.prog w' = .ok (idA R0) w' := fun w' h => by rw [hsz0]; exact id_load _ _ _ _ hrl h
      have hl3 : ∀ w', w'.rangeAt g8 0 (idA R0).toList → (loadCellsFrom ⟨g8, 0, none⟩ 0 sz #[]).run Tryd.prog w' = .ok (idA R0) w' := fun w' h => by rw [hsz0]; exact id_load _ _ _ _ hrl h
      have hr1 := X.range0
      have hr2 := R.range0
      have hr3 := O.range0
      have heq1 : ∀ W, (Op.equalIn 10000 23 (.agg (idA R0)) (.agg (idA R0))).run Tryd.prog W = .ok true W := fun W => by have h := id_eql R0 R0 hrl hrl W; rwa [decide_eq_true rfl] at h
      have heq2 : ∀ W, (Op.equalIn 10000 23 (.agg (idA id)) (.agg (idA id))).run Tryd.prog W = .ok true W := fun W => by have h := id_eql id id hil hil W; rwa [decide_eq_true rfl] at h
      simp only [show ∀ z, Op.load 23 z = Op.load tl z from fun z => by rw [htl]]
      clear htl hsz0
      go_cut [6] (fun s6 wx => s6 = .bool true ∧ Below V.heap.size V wx)
      case first =>
        go_region_held3 (fun w' => V.heap.size ≤ w'.heap.size ∧ w'.rangeAt g 0 (idA id).toList ∧ w'.rangeAt g7 0 (idA R0).toList ∧ w'.rangeAt g8 0 (idA R0).toList)
          ((refine ⟨?_, ?_, ?_, ?_⟩; (focus (first | omega | (simp; done) | (simp; omega) | (simp [World.drew]; done) | (simp [World.drew]; omega))); (focus (refine idr_below (C := V.heap.size) hr1 ?_ X.lt; repeat' (first | with_reducible exact Below.refl _ _ | with_reducible assumption | with_reducible exact From.out (by with_reducible assumption) | with_reducible refine Below.drew ?_ | with_reducible refine Below.setCell ?_ ?_ _ | with_reducible refine Below.alloc ?_ ?_ _ | with_reducible exact Nat.le_refl _ | omega | (simp; done) | (simp; omega) | (simp [World.drew]; done) | (simp [World.drew]; omega)))); (focus (refine idr_below (C := V.heap.size) hr2 ?_ R.lt; repeat' (first | with_reducible exact Below.refl _ _ | with_reducible assumption | with_reducible exact From.out (by with_reducible assumption) | with_reducible refine Below.drew ?_ | with_reducible refine Below.setCell ?_ ?_ _ | with_reducible refine Below.alloc ?_ ?_ _ | with_reducible exact Nat.le_refl _ | omega | (simp; done) | (simp; omega) | (simp [World.drew]; done) | (simp [World.drew]; omega)))); (focus (refine idr_below (C := V.heap.size) hr3 ?_ O.lt; repeat' (first | with_reducible exact Below.refl _ _ | with_reducible assumption | with_reducible exact From.out (by with_reducible assumption) | with_reducible refine Below.drew ?_ | with_reducible refine Below.setCell ?_ ?_ _ | with_reducible refine Below.alloc ?_ ?_ _ | with_reducible exact Nat.le_refl _ | omega | (simp; done) | (simp; omega) | (simp [World.drew]; done) | (simp [World.drew]; omega))))))
          (first
          | (go_at_call 12
             refine (HNIL.out _ ?_).mono ?_
             · refine HLR.out.keep ?_
               repeat' (first | with_reducible exact Below.refl _ _ | with_reducible assumption | with_reducible exact From.out (by with_reducible assumption) | with_reducible refine Below.drew ?_ | with_reducible refine Below.setCell ?_ ?_ _ | with_reducible refine Below.alloc ?_ ?_ _ | with_reducible exact Nat.le_refl _ | omega | (simp; done) | (simp; omega) | (simp [World.drew]; done) | (simp [World.drew]; omega))
             rintro e w7 ⟨rfl, hb7⟩
             have hE7 : From V w7 := by
               refine below_step ?_ ?_ hb7
               · repeat' (first | with_reducible exact Below.refl _ _ | with_reducible assumption | with_reducible exact From.out (by with_reducible assumption) | with_reducible refine Below.drew ?_ | with_reducible refine Below.setCell ?_ ?_ _ | with_reducible refine Below.alloc ?_ ?_ _ | with_reducible exact Nat.le_refl _ | omega | (simp; done) | (simp; omega) | (simp [World.drew]; done) | (simp [World.drew]; omega))
               · first | omega | (simp; done) | (simp; omega) | (simp [World.drew]; done) | (simp [World.drew]; omega)
             have z7 := hE7.out.size))
        all_goals
          go_wp2_with fail
          go_meet
          refine ⟨rfl, ?_⟩
          repeat' (first | with_reducible exact Below.refl _ _ | with_reducible assumption | with_reducible exact From.out (by with_reducible assumption) | with_reducible refine Below.drew ?_ | with_reducible refine Below.setCell ?_ ?_ _ | with_reducible refine Below.alloc ?_ ?_ _ | with_reducible exact Nat.le_refl _ | omega | (simp; done) | (simp; omega) | (simp [World.drew]; done) | (simp [World.drew]; omega))
      case rest =>
        obtain ⟨rfl, hb⟩ := hcut
        have hszW : g ≤ V.heap.size := Nat.le_of_lt X.lt
        have hW := hWr.trans (hb.mono hszW)
        go_wp2_with fail
        go_ret
        exact ⟨rfl, by rw [hg]; exact hW⟩

theorem walk (id : List Nat) (a : Int) (v : Value) (L : List (List Nat)) (w : World) (hL : Laid w) (hid : IsId id) (ha : -9223372036854775808 ≤ a ∧ a ≤ 9223372036854775807) (hv : IdsV w w.heap.size v L) :
    Calls Tryd.prog 3 #[idv id, .int .i64 a, v] w fun e w' => e = .returned (.bool true) ∧ Below w.heap.size w w' := by
  obtain ⟨s, c, rfl⟩ := hv.slice
  by_cases h0 : a < 0
  · exact walk_out id a s _ c w hL (.inl h0)
  · by_cases h1 : 40 < L.length
    · exact walk_out id a s _ c w hL (.inr ⟨h0, h1⟩)
    · exact walk_inn id a L s c w hL hid a.toNat (by omega) (by omega) hv (by omega)

/-- The door's own heap meets the condition. -/
theorem door_met (os : Os) (args : Array Value) : laidMetH Tryd.prog laidL ((World.doorLaid Tryd.prog 19 os).forCall (fun _ _ => 0) ⟨#[], args, []⟩).memory :=
  laidMetH_of_parts3 (fuel := 8) (laidMet_of_run' 8 (by kernel_rfl) (by kernel_rfl)) (by kernel_rfl) (by kernel_rfl)

set_option maxRecDepth 100000 in
theorem lifted (os : Os) (started : os.Started) (H : Type) (enc : TypeId × Value → H) :
    ReturnsInHanded {} Tryd.checked os 3 .any (fun w args => (Rows.merkleLeadsSpec.pre enc Tryd.prog Tryd.f3 [] false w args ∧ laidMetH Tryd.prog laidL w) ∧ sizedMet enc Tryd.prog Tryd.f3 (OpenSpec.ofChange Rows.merkleLeadsSpec) false w args)
      (Rows.merkleLeadsSpec.post enc Tryd.prog Tryd.f3 false true false false) := by
  refine returnsInHanded_of_change_and (C := Tryd.checked) (X := fun w _ => laidMetH Tryd.prog laidL w) (fun _ _ _ hh h => h.of_heap hh) own started (by kernel_rfl) Tryd.func3
    (ChangeSpec.witness_shaped (enc := enc) (C := Tryd.checked) (os := os) (X := fun w _ => laidMetH Tryd.prog laidL w) false (World.doorLaid Tryd.prog 19 os) #[.agg #[.int .u8 0, .int .u8 0, .int .u8 0, .int .u8 0, .int .u8 0, .int .u8 0, .int .u8 0, .int .u8 0, .int .u8 0, .int .u8 0, .int .u8 0, .int .u8 0, .int .u8 0, .int .u8 0, .int .u8 0, .int .u8 0, .int .u8 0, .int .u8 0, .int .u8 0, .int .u8 0, .int .u8 0, .int .u8 0, .int .u8 0, .int .u8 0, .int .u8 0, .int .u8 0, .int .u8 0, .int .u8 0, .int .u8 0, .int .u8 0, .int .u8 0, .int .u8 0], .int .i64 0, .slice none 0 0] 8 rfl (World.shaped_of_RefB (by kernel_rfl) (by kernel_rfl)) (by kernel_rfl) (by kernel_rfl) (by kernel_rfl) (door_met os _)) ?_
  intro W base args ds gs before hval0 hW _ _ hL _
  have hval : ∀ (j : Nat) t v, Tryd.f3.params[j]? = some t → args[j]? = some v → Value.okWide Tryd.prog W .any base t v := hval0
  have hW' := hW
  obtain ⟨p, q, hA0, hV, rfl, hfz, hnd⟩ := hW
  have hA : DataW.TrodAll enc Tryd.prog W 0 (fun _ => true) true Tryd.f3.params.toList args.toList ds p := hA0
  rw [Tryd.params3] at hA hval
  obtain ⟨v0, vs0, d0, ds0, p0, q0, hargs, rfl, rfl, h0, r0⟩ := trodAll_cons hA
  obtain ⟨v1, vs1, d1, ds1, p1, q1, rfl, rfl, rfl, h1, r1⟩ := trodAll_cons r0
  obtain ⟨v2, vs2, d2, ds2, p2, q2, rfl, rfl, rfl, h2, r2⟩ := trodAll_cons r1
  obtain ⟨rfl, rfl, rfl⟩ := trodAll_nil r2
  obtain rfl : args = #[v0, v1, v2] := by cases args; simp_all
  obtain ⟨rfl, rfl⟩ := trodVars_none hV
  have lt0 : ∀ x ∈ p0, x.block < W.heap.size := by obtain ⟨m, hm⟩ := h0; exact DataW.trod_lt m _ _ _ hm
  have lt1 : ∀ x ∈ p1, x.block < W.heap.size := by obtain ⟨m, hm⟩ := h1; exact DataW.trod_lt m _ _ _ hm
  have lt2 : ∀ x ∈ p2, x.block < W.heap.size := by obtain ⟨m, hm⟩ := h2; exact DataW.trod_lt m _ _ _ hm
  obtain ⟨x0, hb0, rfl⟩ := id_arg (hval 0 23 v0 rfl rfl) h0
  obtain ⟨y1, rfl, _, _, hwf1⟩ := open_int (k := .i64) Tryd.underlying3 (hval 1 3 v1 rfl rfl) h1
  have hy1 := wf_i64 hwf1
  obtain ⟨x2, hb2⟩ := ids_arg (hval 2 24 v2 rfl rfl) h2
  have hwalk := walk x0 y1 v2 x2 W (of_laid hL) hb0 hy1 hb2
  clear hA0 hval0
  refine hwalk.mono fun e W' ⟨he, bel⟩ => ?_
  subst he
  exact ⟨_, rfl, _, _, _, [], _, [], hW', trodAll_mk1 (shut_bool Tryd.underlying4 _), (trodAll_cons_mk (Below.trod laidOut (by kernel_rfl) (of_decide_eq_true (by kernel_rfl)) h0 bel lt0) (trodAll_cons_mk (Below.trod laidOut (by kernel_rfl) (of_decide_eq_true (by kernel_rfl)) h1 bel lt1) (trodAll_cons_mk (Below.trod laidOut (by kernel_rfl) (of_decide_eq_true (by kernel_rfl)) h2 bel lt2) trodAll_mk0))), rfl, bel.frame _, fun h => by cases h⟩

theorem over : Rows.MerkleLeadsSaid :=
  OpenClaim.holds_of_wide 3 Tryd.f3 rfl rfl rfl rfl rfl rfl rfl ⟨rfl, rfl, rfl, rfl, rfl⟩ rfl rfl rfl rfl rfl (by kernel_rfl) Tryd.func3 (by kernel_rfl)
    (of_decide_eq_true (by kernel_rfl)) (by unfold Func.isWrapper; first | (rw [if_pos (by decide +kernel)]; kernel_rfl) | (rw [if_neg (by decide +kernel)]; exact ⟨rfl, rfl⟩))
    (fun os started H enc _ => lifted os started H enc)

theorem proved : Rows.MerkleLeadsCardSaid :=
  Claim7.holds_tied_plain_at .later [] [.data, .data] true Rows.merkleLeadsCard.stood.harness false
    over (fun _ h => by cases h) (by kernel_rfl) (fun _ h => by cases h) merkleLeads_row_tie rfl ⟨rfl, rfl⟩ (by kernel_rfl) rfl
    (fun f fn hf hfn => by
      obtain rfl : f = 3 := Option.some.inj ((show Tryd.prog.funcNamed "tallystick/tallysticklaw04.MerkleLeads" = some 3 by kernel_rfl).symm.trans hf) |>.symm
      obtain rfl : fn = Tryd.f3 := (Option.some.inj (Tryd.func3.symm.trans hfn)).symm
      exact ⟨by kernel_rfl, fun j t ht => by
        rw [Tryd.params3] at ht
        have hm : t ∈ [23, 3, 24] := by simpa using Array.mem_of_getElem? ht
        have hall : ([23, 3, 24].all fun u => !Tryd.prog.wantsStandIn u) = true := by kernel_rfl
        exact (show Tryd.prog.wantsStandIn t = false by simpa using List.all_eq_true.1 hall t hm)⟩)
    (by kernel_rfl)
#print axioms proved
end Go.Proofs.YtkkkfcdoilojmaaDoor.merkleLeads
