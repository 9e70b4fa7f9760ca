/-
  What is proved: for every list of names and every number the law MerkleTwins returns true, and its arguments read behind the call as they read before; the two listed tables of package hash are taken to hold what the program's text lays in them, and the card ties them to it.
-/
import Derived.Test.YtkkkfcdoilojmaaDoorMerJ
import Derived.Test.YtkkkfcdoilojmaaDoorTwin
import Derived.Test.YtkkkfcdoilojmaaDoorIdArg
import Derived.Test.YtkkkfcdoilojmaaDoorTie
import Derived.Test.YtkkkfcdoilojmaaDoorCards
import Derived.Stop.Joined
namespace Go.Proofs.YtkkkfcdoilojmaaDoor.merkleTwins
open Go.ChangeShapes Go.WideShapes Go.ChangeAt Go.RowKit
set_option linter.unusedVariables false

theorem own : ownKnob Tryd.prog.godebug = none := by kernel_rfl
theorem laidOut : laidOutB Tryd.prog = true := by kernel_rfl
theorem wf_i64 {z : Int} (h : (Lit.int .i64 z).wf = true) : -9223372036854775808 ≤ z ∧ z ≤ 9223372036854775807 := by
  simp [Lit.wf, IntKind.min, IntKind.max, IntKind.signed, IntKind.bits] at h
  omega

set_option maxRecDepth 100000 in
set_option maxHeartbeats 1000000 in
theorem walk_out (a : Int) (s : Option Addr) (n c : Nat) (w : World) (hL : Laid w) (h : n < 2 ∨ ¬ n < 2 ∧ 30 < n ∨ ¬ n < 2 ∧ ¬ 30 < n ∧ a < 0 ∨ ¬ n < 2 ∧ ¬ 30 < n ∧ ¬ a < 0 ∧ 4 < a) :
    Calls Tryd.prog 6 #[.slice s n c, .int .i64 a] w fun e w' => e = .returned (.bool true) ∧ Below w.heap.size w w' := by
  have HJ := Lib.hid (joins_any _ hL)
  clear hL
  rcases h with h | ⟨h1, h⟩ | ⟨h1, h2, h⟩ | ⟨h1, h2, h3, h⟩
  all_goals
    try have hd1 : decide ((n : Int) < 2) = true := decide_eq_true (by omega)
    try have hd1 : decide ((n : Int) < 2) = false := decide_eq_false (by omega)
    try have hd2 : decide ((30 : Int) < (n : Int)) = true := decide_eq_true (by omega)
    try have hd2 : decide ((30 : Int) < (n : Int)) = false := decide_eq_false (by omega)
    try have hd3 : decide (a < 0) = true := decide_eq_true (by omega)
    try have hd3 : decide (a < 0) = false := decide_eq_false (by omega)
    try have hd4 : decide (4 < a) = true := decide_eq_true (by omega)
    go_enter Tryd.func6, Tryd.ntmps6
    go_wp2_with fail
    refine HJ.out.mono ?_
    rintro e w1 ⟨rfl, hb1⟩
    clear HJ
    go_wp2_with fail
    go_ret
    exact ⟨rfl, hb1⟩
set_option maxRecDepth 100000 in
set_option maxHeartbeats 8000000 in
theorem walk_inn (h k : Nat) (L : List (List Nat)) (s : Option Addr) (c : Nat) (w : World) (hL : Laid w) (hv : IdsV w w.heap.size (.slice s L.length c) L) (hn : L.length ≤ 30) (hn2 : 2 ≤ L.length) (hh : h ≤ 4) (hk : 2 ^ h = k) (hk0 : 0 < k) (hk16 : k ≤ 16) :
    Calls Tryd.prog 6 #[.slice s L.length c, .int .i64 (h : Int)] w fun e w' => e = .returned (.bool true) ∧ Below w.heap.size w w' := by
  have HL := Lib.hid hL
  have HJ := Lib.hid (joins_any _ hL)
  have hids := hv.ids
  have HV := Lib.hid hv
  have HTW := Lib.hid (fun h1 h2 => twin_root h L false false h1 h2)
  rw [hk] at HTW
  obtain ⟨b, o, rfl, hbl, _, hr⟩ := hv.at_ (fun h => by rw [h] at hn2; simp at hn2)
  have hcap : L.length ≤ c ∧ c < 9223372036854775808 := by
    obtain ⟨s', cap', e', h1, h2, _⟩ := hv
    cases e'
    exact ⟨h1, h2⟩
  obtain ⟨n, hnl⟩ : ∃ n, n = L.length := ⟨_, rfl⟩
  have hbelow : ∀ W, Below w.heap.size w W → IdsV W W.heap.size (.slice (some ⟨b, o, none⟩) n c) L := fun W h => by rw [hnl]; exact (hv.keep h (Nat.le_refl _)).mono h.size
  have HRT := Lib.hid (fun W (h : Below w.heap.size w W) => root_any _ L W (hL.below h hL.size) (hbelow W h) (by omega))
  have HBE := Lib.hid hbelow
  have e : rootV L = rootW L false := by unfold rootV; rw [if_neg (by omega)]
  have HR0 := Lib.hid (rootV_id L hids)
  rw [e] at HRT HR0
  rw [← hnl] at HTW hn hn2 hcap ⊢
  have HIDS := Lib.hid hids
  have hd1 : decide ((n : Int) < 2) = false := decide_eq_false (by omega)
  have hd2 : decide ((30 : Int) < (n : Int)) = false := decide_eq_false (by omega)
  have hd3 : decide ((h : Int) < 0) = false := decide_eq_false (by omega)
  have hd4 : decide ((4 : Int) < (h : Int)) = false := decide_eq_false (by omega)
  have hh0 : (0 : Int) ≤ (h : Int) := by omega
  have HNL := Lib.hid hnl
  have HKK := Lib.hid hk
  have hsh : wrap64 (2 ^ h) = (k : Int) := by
    subst hk
    have h5 : h = 0 ∨ h = 1 ∨ h = 2 ∨ h = 3 ∨ h = 4 := by omega
    rcases h5 with rfl | rfl | rfl | rfl | rfl <;> (unfold wrap64; decide)
  clear hv hL hids hnl hbelow e hr hk
  go_enter Tryd.func6, Tryd.ntmps6
  go_wp2_with fail
  refine HJ.out.mono ?_
  rintro e w1 ⟨rfl, hb1⟩
  have hW := Lib.hid hb1
  clear hb1 HJ
  go_upto_region 6 with fail
  rw [hsh]
  clear hsh
  have hrm : ((n : Int) % (2 * (k : Int))) = ((n % (2 * k) : Nat) : Int) := by rw [Int.natCast_emod, Int.natCast_mul]; rfl
  obtain ⟨r, hr⟩ : ∃ r, r = n % (2 * k) := ⟨_, rfl⟩
  rw [← hr] at hrm
  have hrlt : r < 2 * k := by rw [hr]; exact Nat.mod_lt _ (by omega)
  have HRR := Lib.hid hr
  clear hr
  have h2k : (2 : Int) * (k : Int) ≠ 0 := by omega
  by_cases hbad : r ≠ k ∨ n ≤ k
  · by_cases hrk : r = k
    · have hd5 : decide ((r : Int) = (k : Int)) = true := decide_eq_true (by omega)
      have hd5' : decide (r = k) = true := decide_eq_true hrk
      have hd6 : decide ((n : Int) ≤ (k : Int)) = true := decide_eq_true (by omega)
      have hd6' : decide (n ≤ k) = true := decide_eq_true (by omega)
      go_wp2_with fail
      go_ret
      exact ⟨rfl, hW.out⟩
    · have hd5 : decide ((r : Int) = (k : Int)) = false := decide_eq_false (by omega)
      have hd5' : decide (r = k) = false := decide_eq_false hrk
      clear hbad
      go_wp2_with fail
      go_ret
      exact ⟨rfl, hW.out⟩
  have hrk : r = k := by omega
  subst hrk
  have hd6 : decide ((n : Int) ≤ (r : Int)) = false := decide_eq_false (by omega)
  have hd6' : decide (n ≤ r) = false := decide_eq_false (by omega)
  have HTT := Lib.hid (HTW.out HRR.out.symm (by omega))
  have hrn : r ≤ n := by omega
  clear hbad HTW HRR
  go_upto_region 8 with fail
  have HBV := Lib.hid (HBE.out w1 hW.out)
  have HRT1 := HRT
  have hnr : ((n : Int) - (r : Int)) = ((n - r : Nat) : Int) := by omega
  obtain ⟨d, hd⟩ : ∃ d, d = n - r := ⟨_, rfl⟩
  rw [← hd] at hnr
  have hdn : (d : Int) ≤ (n : Int) := by omega
  have hd0 : (0 : Int) ≤ (d : Int) := by omega
  have HDD := Lib.hid hd
  have hnc : (n : Int) ≤ (c : Int) := by omega
  have hwd : IntKind.i64.wrap (d : Int) = (d : Int) := IntWalk.i64_in _ (by omega)
  have hcd : ¬ c = d := by omega
  clear hd
  go_region_law (first
    | (refine step_appM (v1 := .slice (some ⟨w1.heap.size, 0, none⟩) 0 0) (v2 := .slice (some ⟨b, o, none⟩) n c) [] L w1.heap.size rfl (.tmp 44) (.tmp 45) rfl rfl rfl rfl ?_ IsIds.nil ?_ ?_ ?_ ?_
       · refine mine_none (Nat.le_refl _) ?_
         repeat' (first | with_reducible assumption | with_reducible exact Bk.new _ _ _ | with_reducible refine Bk.new' _ _ _ ?_ | with_reducible refine Bk.alloc ?_ _ | with_reducible refine Bk.drew ?_ | (with_reducible refine Bk.keep ?_ (by with_reducible assumption)) | (simp; done) | (simp; omega) | (simp [World.drew]; done) | (simp [World.drew]; omega))
       · first | omega | (simp; done) | (simp; omega) | (simp [World.drew]; done) | (simp [World.drew]; omega)
       · refine (HBV.out.keep (C := w1.heap.size) ?_ (Nat.le_refl _)).mono ?_
         · repeat' (first | with_reducible exact Below.refl _ _ | with_reducible assumption | with_reducible exact From.out (by with_reducible assumption) | with_reducible refine Below.drew ?_ | with_reducible refine Below.setCell ?_ ?_ _ | with_reducible refine Below.alloc ?_ ?_ _ | with_reducible exact Nat.le_refl _ | omega | (simp; done) | (simp; omega) | (simp [World.drew]; done) | (simp [World.drew]; omega))
         · first | omega | (simp; done) | (simp; omega) | (simp [World.drew]; done) | (simp [World.drew]; omega)
       · rw [← HNL.out]; simp; omega
       rintro v5 W5 hM5 hb5
       have hE5 : From w1 W5 := by
         refine Below.trans ?_ hb5
         repeat' (first | with_reducible exact Below.refl _ _ | with_reducible assumption | with_reducible exact From.out (by with_reducible assumption) | with_reducible refine Below.drew ?_ | with_reducible refine Below.setCell ?_ ?_ _ | with_reducible refine Below.alloc ?_ ?_ _ | with_reducible exact Nat.le_refl _ | omega | (simp; done) | (simp; omega) | (simp [World.drew]; done) | (simp [World.drew]; omega))
       rw [List.nil_append] at hM5
       obtain ⟨s5, c5, e5⟩ := hM5.slice
       rw [← HNL.out] at e5
       subst e5)
    | (refine step_appM (v1 := .slice s5 n c5) (v2 := .slice (some ⟨b, o + d * 32, none⟩) (n - d) (c - d)) L (L.drop d) w1.heap.size rfl (.tmp 46) (.tmp 52) rfl rfl rfl rfl ?_ HIDS.out ?_ ?_ ?_ ?_
       · exact hM5
       · exact hE5.out.size
       · refine (IdsV.drop (HBV.out.keep (C := w1.heap.size) ?_ (Nat.le_refl _)) HNL.out (by omega)).mono ?_
         · exact hE5.out
         · exact hE5.out.size
       · rw [List.length_drop, ← HNL.out]; omega
       rintro v7 W7 hM7 hb7
       obtain ⟨s7, c7, e7⟩ := hM7.slice
       have hl7 : (L ++ L.drop d).length = n + r := by rw [List.length_append, List.length_drop, ← HNL.out, HDD.out]; omega
       rw [hl7] at e7
       subst e7))
  all_goals
    have hW7 : Below w.heap.size w W7 := by
      refine hW.out.trans (Below.mono (B := w1.heap.size) ?_ hW.out.size)
      exact hE5.out.trans hb7
    have HD : L ++ L.drop d = twinL L r := by unfold twinL; rw [← HNL.out, ← HDD.out]
    rw [HD] at hM7
    have hM8 := Lib.hid (hM7.ids (by unfold twinL; exact HIDS.out.app (fun x hx => HIDS.out x (List.mem_of_mem_drop hx))))
    have hl8 := twinL_length L r (by rw [← HNL.out]; exact hrn)
    rw [← HNL.out] at hl8
    have HRD := Lib.hid (fun W (h : Laid W) (h2 : IdsV W W.heap.size (.slice s7 (n + r) c7) (twinL L r)) => root_any _ (twinL L r) W h h2 (by rw [hl8]; omega))
    have hrv : rootV (twinL L r) = rootW (twinL L r) false := by unfold rootV; rw [if_neg (by rw [hl8]; omega)]
    rw [hrv, HTT.out.1, HTT.out.2] at HRD
    have HRT1 := Lib.hid (HRT.out W7 hW7)
    have hql := HR0.out.1
    have HW7 := Lib.hid hW7
    clear hrv hl8 HTT hW7 hM7 hM5 hb5 hb7 HD
    generalize (rootW L false).1 = q at *
    generalize (rootW L false).2 = tw at *
    generalize twinL L r = D at *
    go_wp2_with fail
    refine HRT1.out.mono ?_
    rintro e w2 ⟨rfl, hb⟩
    have hM8 := Lib.hid ((hM8.out.keep hb (Nat.le_refl _)).mono hb.size)
    have HW7 := Lib.hid (HW7.out.trans (hb.mono HW7.out.size))
    have N0 := Bk.new w2 23 (idA (zeros 32))
    clear hb HRT1
    go_upto_region 10 with (refine wpList_store_mid rfl 23 (.tmp 7) (.tmp 57) rfl w2.heap.size 0 (idA q) rfl rfl (by rw [idA_size, hql]; exact N0.there 32 (by rw [idA_size]; decide)) (by rw [idA_size, hql]; exact id_info') (id_ones _) ?_)
    have hA3 : Below w2.heap.size w2 ((w2.alloc (.cells (idA (zeros 32)) 23)).setCells w2.heap.size 0 (idA q).toList) := Below.setCells (Nat.le_refl _) _ _ _ ((Below.refl _ _).alloc (Nat.le_refl _) _)
    refine wp_any (fun V => Below w.heap.size w V ∧ Bk V w2.heap.size 23 (idA q) ∧ IdsV V V.heap.size (.slice s7 (n + r) c7) D) ⟨HW7.out.trans (hA3.mono HW7.out.size), N0.setAll (by rw [idA_size, idA_size, hql]; rfl), (hM8.out.keep hA3 (Nat.le_refl _)).mono hA3.size⟩ ?_
    generalize w2.heap.size = g7 at *
    clear N0 hA3 HW7 hM8
    rintro V ⟨hWV, R, hMV⟩
    have HRD1 := Lib.hid (HRD.out V (HL.out.below hWV HL.out.size) hMV)
    clear HRD hMV
    go_wp2_with fail
    refine HRD1.out.mono ?_
    rintro e w3 ⟨rfl, hb⟩
    have R := R.keep hb
    have hWV := hWV.trans (hb.mono hWV.size)
    have N0 := Bk.new w3 23 (idA (zeros 32))
    have zr := R.lt
    clear hb HRD1
    go_upto_region 11 with (refine wpList_store_mid rfl 23 (.tmp 9) (.tmp 62) rfl w3.heap.size 0 (idA q) rfl rfl (by rw [idA_size, hql]; exact N0.there 32 (by rw [idA_size]; decide)) (by rw [idA_size, hql]; exact id_info') (id_ones _) ?_)
    refine wp_any (fun V => Below w.heap.size w V ∧ Bk V g7 23 (idA q) ∧ Bk V w3.heap.size 23 (idA q)) ⟨Below.setCells hWV.size _ _ _ (hWV.alloc hWV.size _), (R.alloc _).farCells (by omega) _ _, N0.setAll (by rw [idA_size, idA_size, hql]; rfl)⟩ ?_
    generalize w3.heap.size = g9 at *
    clear R N0 hWV zr
    rintro V ⟨hWV, R, O⟩
    have heq1 : ∀ W, (Op.equalIn 10000 23 (.agg (idA q)) (.agg (idA q))).run Tryd.prog W = .ok true W := fun W => by have h := id_eql q q hql hql W; rwa [decide_eq_true rfl] at h
    go_wp2_with (first | (refine wpList_load_mid rfl 23 (.tmp 7) rfl g7 0 rfl (idA q).toList _ R.range0 Tryd.underlying23 rfl (by rw [Array.length_toList, idA_size, hql]; exact id_info') ?_) | (refine wpList_load_mid rfl 23 (.tmp 9) rfl g9 0 rfl (idA q).toList _ O.range0 Tryd.underlying23 rfl (by rw [Array.length_toList, idA_size, hql]; exact id_info') ?_))
    go_ret
    exact ⟨rfl, hWV⟩
theorem walk (v : Value) (a : Int) (L : List (List Nat)) (w : World) (hL : Laid w) (hv : IdsV w w.heap.size v L) :
    Calls Tryd.prog 6 #[v, .int .i64 a] w fun e w' => e = .returned (.bool true) ∧ Below w.heap.size w w' := by
  obtain ⟨s, c, rfl⟩ := hv.slice
  by_cases h : L.length < 2 ∨ ¬ L.length < 2 ∧ 30 < L.length ∨ ¬ L.length < 2 ∧ ¬ 30 < L.length ∧ a < 0 ∨ ¬ L.length < 2 ∧ ¬ 30 < L.length ∧ ¬ a < 0 ∧ 4 < a
  · exact walk_out a s _ c w hL h
  · obtain ⟨k, rfl⟩ : ∃ k : Nat, a = (k : Int) := ⟨a.toNat, by omega⟩
    have hk : k ≤ 4 := by omega
    have h16 : 2 ^ k ≤ 2 ^ 4 := Nat.pow_le_pow_right (by omega) hk
    exact walk_inn k _ L s c w hL hv (by omega) (by omega) hk rfl (Nat.two_pow_pos k) h16

/-- The door's own heap meets the condition. -/
theorem door_met (os : Os) (args : Array Value) : laidMetH Tryd.prog laidL ((World.doorLaid Tryd.prog 19 os).forCall (fun _ _ => 0) ⟨#[], args, []⟩).memory :=
  laidMetH_of_parts3 (fuel := 8) (laidMet_of_run' 8 (by kernel_rfl) (by kernel_rfl)) (by kernel_rfl) (by kernel_rfl)

set_option maxRecDepth 100000 in
theorem lifted (os : Os) (started : os.Started) (H : Type) (enc : TypeId × Value → H) :
    ReturnsInHanded {} Tryd.checked os 6 .any (fun w args => (Rows.merkleTwinsSpec.pre enc Tryd.prog Tryd.f6 [] false w args ∧ laidMetH Tryd.prog laidL w) ∧ sizedMet enc Tryd.prog Tryd.f6 (OpenSpec.ofChange Rows.merkleTwinsSpec) false w args)
      (Rows.merkleTwinsSpec.post enc Tryd.prog Tryd.f6 false true false false) := by
  refine returnsInHanded_of_change_and (C := Tryd.checked) (X := fun w _ => laidMetH Tryd.prog laidL w) (fun _ _ _ hh h => h.of_heap hh) own started (by kernel_rfl) Tryd.func6
    (ChangeSpec.witness_shaped (enc := enc) (C := Tryd.checked) (os := os) (X := fun w _ => laidMetH Tryd.prog laidL w) false (World.doorLaid Tryd.prog 19 os) #[.slice none 0 0, .int .i64 0] 8 rfl (World.shaped_of_RefB (by kernel_rfl) (by kernel_rfl)) (by kernel_rfl) (by kernel_rfl) (by kernel_rfl) (door_met os _)) ?_
  intro W base args ds gs before hval0 hW _ _ hL _
  have hval : ∀ (j : Nat) t v, Tryd.f6.params[j]? = some t → args[j]? = some v → Value.okWide Tryd.prog W .any base t v := hval0
  have hW' := hW
  obtain ⟨p, q, hA0, hV, rfl, hfz, hnd⟩ := hW
  have hA : DataW.TrodAll enc Tryd.prog W 0 (fun _ => true) true Tryd.f6.params.toList args.toList ds p := hA0
  rw [Tryd.params6] at hA hval
  obtain ⟨v0, vs0, d0, ds0, p0, q0, hargs, rfl, rfl, h0, r0⟩ := trodAll_cons hA
  obtain ⟨v1, vs1, d1, ds1, p1, q1, rfl, rfl, rfl, h1, r1⟩ := trodAll_cons r0
  obtain ⟨rfl, rfl, rfl⟩ := trodAll_nil r1
  obtain rfl : args = #[v0, v1] := by cases args; simp_all
  obtain ⟨rfl, rfl⟩ := trodVars_none hV
  have lt0 : ∀ x ∈ p0, x.block < W.heap.size := by obtain ⟨m, hm⟩ := h0; exact DataW.trod_lt m _ _ _ hm
  have lt1 : ∀ x ∈ p1, x.block < W.heap.size := by obtain ⟨m, hm⟩ := h1; exact DataW.trod_lt m _ _ _ hm
  obtain ⟨x0, hb0⟩ := ids_arg (hval 0 24 v0 rfl rfl) h0
  obtain ⟨y1, rfl, _, _, hwf1⟩ := open_int (k := .i64) Tryd.underlying3 (hval 1 3 v1 rfl rfl) h1
  have hy1 := wf_i64 hwf1
  have hwalk := walk v0 y1 x0 W (of_laid hL) hb0
  clear hA0 hval0
  refine hwalk.mono fun e W' ⟨he, bel⟩ => ?_
  subst he
  exact ⟨_, rfl, _, _, _, [], _, [], hW', trodAll_mk1 (shut_bool Tryd.underlying4 _), (trodAll_cons_mk (Below.trod laidOut (by kernel_rfl) (of_decide_eq_true (by kernel_rfl)) h0 bel lt0) (trodAll_cons_mk (Below.trod laidOut (by kernel_rfl) (of_decide_eq_true (by kernel_rfl)) h1 bel lt1) trodAll_mk0)), rfl, bel.frame _, fun h => by cases h⟩

theorem over : Rows.MerkleTwinsSaid :=
  OpenClaim.holds_of_wide 6 Tryd.f6 rfl rfl rfl rfl rfl rfl rfl ⟨rfl, rfl, rfl, rfl, rfl⟩ rfl rfl rfl rfl rfl (by kernel_rfl) Tryd.func6 (by kernel_rfl)
    (of_decide_eq_true (by kernel_rfl)) (by unfold Func.isWrapper; first | (rw [if_pos (by decide +kernel)]; kernel_rfl) | (rw [if_neg (by decide +kernel)]; exact ⟨rfl, rfl⟩))
    (fun os started H enc _ => lifted os started H enc)

theorem proved : Rows.MerkleTwinsCardSaid :=
  Claim7.holds_tied_plain_at .later [] [.data, .data] true Rows.merkleTwinsCard.stood.harness false
    over (fun _ h => by cases h) (by kernel_rfl) (fun _ h => by cases h) merkleTwins_row_tie rfl ⟨rfl, rfl⟩ (by kernel_rfl) rfl
    (fun f fn hf hfn => by
      obtain rfl : f = 6 := Option.some.inj ((show Tryd.prog.funcNamed "tallystick/tallysticklaw04.MerkleTwins" = some 6 by kernel_rfl).symm.trans hf) |>.symm
      obtain rfl : fn = Tryd.f6 := (Option.some.inj (Tryd.func6.symm.trans hfn)).symm
      exact ⟨by kernel_rfl, fun j t ht => by
        rw [Tryd.params6] at ht
        have hm : t ∈ [24, 3] := by simpa using Array.mem_of_getElem? ht
        have hall : ([24, 3].all fun u => !Tryd.prog.wantsStandIn u) = true := by kernel_rfl
        exact (show Tryd.prog.wantsStandIn t = false by simpa using List.all_eq_true.1 hall t hm)⟩)
    (by kernel_rfl)
#print axioms proved
end Go.Proofs.YtkkkfcdoilojmaaDoor.merkleTwins
