/-
  Texts in one: NewB, NewC, NewD.
-/
import Derived.Test.YtljfhabhenaapaaDoorNew
namespace Go.Proofs.YtljfhabhenaapaaDoor
open Go.RowKit
set_option linter.unusedVariables false
set_option linter.unusedSimpArgs false
set_option maxRecDepth 100000
def ruA (r : Ru) : Array Value := (ruL r).toArray
theorem ru_cells {r : Ru} (h : IsRu r) : (ruA r)[0]? = some (.int .u32 (r.lim : Int)) ∧ (ruA r)[1]? = some (.int .i64 r.ev) ∧ (ruA r)[2]? = some (.int .i64 r.sp) ∧ (ruA r)[3]? = some (.int .i64 r.sub) ∧ (ruA r)[4]? = some (.int .i64 r.wk) ∧ (ruA r)[71]? = some (.int .u32 (r.g.b : Int)) ∧ (ruA r)[73]? = some r.tx := by
  have hb := hdA_b h.g
  unfold hdA at hb
  rw [List.getElem?_toArray] at hb
  unfold ruA ruL
  refine ⟨rfl, rfl, rfl, rfl, rfl, ?_, ?_⟩
  · rw [List.getElem?_toArray]
    show (hdL r.g ++ [r.tx])[66]? = _
    rw [List.getElem?_append_left (by rw [hdL_length h.g]; decide)]
    exact hb
  · rw [List.getElem?_toArray]
    show (hdL r.g ++ [r.tx])[68]? = _
    rw [List.getElem?_append_right (by rw [hdL_length h.g]; decide), hdL_length h.g]
    rfl
theorem ru_size : (Tryd.prog.info? 37).map (·.size) = some 74 := by kernel_rfl
theorem ruA_len {r : Ru} (h : IsRu r) : (ruA r).size = 74 := by unfold ruA; rw [List.size_toArray, ruL_len h]
theorem ruA_ones {r : Ru} (h : IsRu r) : (ruA r).all (·.oneCell') = true := all_oneCell_toArray (ruL_one h)
set_option maxHeartbeats 8000000 in
theorem check_any (w : World) : Calls Tryd.prog 26 #[.agg (ruA r0)] w fun e w' => e = .returned (.int .i64 0) ∧ Below w.heap.size w w' := by
  have hc := ru_cells r0_is
  have HT := Lib.hid (fun W => target_any 545259519 W (by decide))
  have ht0 : decide (tgtV 545259519 = 0) = false := by decide +kernel
  rw [ht0] at HT
  generalize tgtV 545259519 = t at *
  have HW1 := Lib.hid (fun W => within_any 0 0 1000 (by decide) (by decide) W)
  have HW2 := Lib.hid (fun W => within_any 10 1 1048576 (by decide) (by decide) W)
  have HW3 := Lib.hid (fun W => within6_any 50 0 1125899906842624 (by decide) (by decide) W)
  obtain ⟨w1, hw1⟩ : ∃ w1, w1 = w.alloc (.cells (ruA r0) 37) := ⟨_, rfl⟩
  have hb1 : Below w.heap.size w w1 := by rw [hw1]; exact (Below.refl _ _).alloc (Nat.le_refl _) _
  have K1 : Bk w1 w.heap.size 37 (ruA r0) := by rw [hw1]; exact Bk.new _ _ _
  have hcs : r0.lim = 545259519 ∧ r0.ev = 0 ∧ r0.sp = 10 ∧ r0.sub = 50 ∧ r0.wk = 0 ∧ r0.g.b = 545259519 := ⟨rfl, rfl, rfl, rfl, rfl, rfl⟩
  rw [hcs.1, hcs.2.1, hcs.2.2.1, hcs.2.2.2.1, hcs.2.2.2.2.1, hcs.2.2.2.2.2] at hc
  clear hcs
  generalize ruA r0 = A at *
  obtain ⟨k0, hk0⟩ : ∃ k0, k0 = w.heap.size := ⟨_, rfl⟩
  rw [← hk0] at K1
  have HKA : Hid (∀ W, Below w1.heap.size w1 W → k0 < W.heap.size ∧ W.cell? ⟨k0, 0, none⟩ = some (.int .u32 545259519) ∧ W.cell? ⟨k0, 1, none⟩ = some (.int .i64 0) ∧ W.cell? ⟨k0, 2, none⟩ = some (.int .i64 10) ∧ W.cell? ⟨k0, 3, none⟩ = some (.int .i64 50) ∧ W.cell? ⟨k0, 4, none⟩ = some (.int .i64 0) ∧ W.cell? ⟨k0, 71, none⟩ = some (.int .u32 545259519)) := fun W hW => by
    have K := K1.keep hW
    exact ⟨K.lt, (K.cell _).trans hc.1, (K.cell _).trans hc.2.1, (K.cell _).trans hc.2.2.1, (K.cell _).trans hc.2.2.2.1, (K.cell _).trans hc.2.2.2.2.1, (K.cell _).trans hc.2.2.2.2.2.1⟩
  have HB1 := Lib.hid hb1
  obtain ⟨z1, a1, a2, a3, a4, a5, a6⟩ := HKA.out w1 (Below.refl _ _)
  clear hc hb1 K1
  go_enter Tryd.func26, Tryd.ntmps26
  go_upto_region 1 with fail
  rw [← hw1, ← hk0]
  clear hw1 hk0
  go_wp2_with fail
  refine (HT.out _).mono ?_
  rintro e w2 ⟨rfl, hb2⟩
  have hB2 := hb2.alloc hb2.size (.cells (A4 (wd0 t) (wd1 t) (wd2 t) (wd3 t)) 43)
  clear z1 a1 a2 a3 a4 a5 a6 ht0
  go_upto_region 2 with fail
  change Below w1.heap.size w1 (w2.alloc (.cells #[.int .u64 ((wd0 t : Nat) : Int), .int .u64 ((wd1 t : Nat) : Int), .int .u64 ((wd2 t : Nat) : Int), .int .u64 ((wd3 t : Nat) : Int)] 43)) at hB2
  refine wp_any (fun W => Below w1.heap.size w1 W) hB2 ?_
  clear hb2 hB2
  intro W hW
  obtain ⟨z1, a1, a2, a3, a4, a5, a6⟩ := HKA.out W hW
  have HBW : Hid (Below w.heap.size w W) := HB1.out.trans (hW.mono HB1.out.size)
  clear hW
  go_wp2_with fail
  refine (HW1.out _).mono ?_
  rintro e w3 ⟨rfl, rfl⟩
  go_wp2_with fail
  refine (HW2.out _).mono ?_
  rintro e w3 ⟨rfl, rfl⟩
  go_wp2_with fail
  refine (HW3.out _).mono ?_
  rintro e w3 ⟨rfl, rfl⟩
  go_wp2_with fail
  refine (HW1.out _).mono ?_
  rintro e w3 ⟨rfl, rfl⟩
  go_wp2_with fail
  go_ret
  exact ⟨rfl, HBW.out⟩
end Go.Proofs.YtljfhabhenaapaaDoor
namespace Go.Proofs.YtljfhabhenaapaaDoor
open Go.RowKit
set_option linter.unusedVariables false
set_option linter.unusedSimpArgs false
set_option maxRecDepth 100000
def rz : Ru := ⟨0, 0, 0, 0, 0, hd0, .slice none 0 0⟩
theorem rz_is : IsRu rz := ⟨by decide, hd0_is, ⟨_, _, _, rfl⟩⟩
theorem rz_zero (w : World) : (zeroValue 37).run Tryd.prog w = .ok (.agg (ruA rz)) w := by kernel_rfl
theorem rz_ne : (ruA rz = #[]) = False := eq_false (by intro h; have := congrArg Array.size h; rw [ruA_len rz_is] at this; cases this)
theorem rules_ret {P : Func} {a : Act} {W : World} {g nm : Nat} {A : Array Value} (hp : P.results = #[ResultVar.cell nm 37]) (hd : a.defers = []) (hv : a.tmps.getD nm undef = .pointer (some ⟨g, 0, none⟩)) (hs : A.size = 74) (hR : Bk W g 37 A)
    {K : Ending → World → Prop} (hK : K (.returned (.agg A)) W) : bodyPost Tryd.prog P K Exit.ret a W :=
  bodyPost_ret (results_cell_row hp _ _ g 37 A (0, 0) _ hv hR Tryd.underlying37 rfl (by rw [hs]; exact ru_size)) hd hK
theorem ru_set73 {r : Ru} (h : IsRu r) : (ruA r).setIfInBounds 73 r.tx = ruA r := by
  have hc := (ru_cells h).2.2.2.2.2.2
  apply Array.ext_getElem?
  intro i
  rw [Array.getElem?_setIfInBounds]
  by_cases e : 73 = i
  · subst e
    rw [if_pos rfl, if_pos (by rw [ruA_len h]; decide), hc]
  · rw [if_neg e]
set_option maxHeartbeats 8000000 in
theorem apart_any {r : Ru} (hr : IsRu r) (htx : r.tx = .slice none 0 0) (w : World) : Calls Tryd.prog 27 #[.agg (ruA r)] w fun e w' => e = .returned (.agg (ruA r)) ∧ Below w.heap.size w w' := by
  have hc := (ru_cells hr).2.2.2.2.2.2
  have hset := ru_set73 hr
  rw [htx] at hc hset
  have hAs := ruA_len hr
  have hAo := ruA_ones hr
  have hz := rz_zero
  have hne := rz_ne
  have hzs := ruA_len rz_is
  generalize ruA rz = Z at *
  generalize ruA r = A at *
  have HTX := Lib.hid txnil_any
  obtain ⟨w1, hw1⟩ : ∃ w1, w1 = w.alloc (.cells A 37) := ⟨_, rfl⟩
  have hb1 : Below w.heap.size w w1 := by rw [hw1]; exact (Below.refl _ _).alloc (Nat.le_refl _) _
  have K1 : Bk w1 w.heap.size 37 A := by rw [hw1]; exact Bk.new _ _ _
  obtain ⟨w2, hw2⟩ : ∃ w2, w2 = w1.alloc (.cells Z 37) := ⟨_, rfl⟩
  have hb2 : Below w1.heap.size w1 w2 := by rw [hw2]; exact (Below.refl _ _).alloc (Nat.le_refl _) _
  have N2 : Bk w2 w1.heap.size 37 Z := by rw [hw2]; exact Bk.new _ _ _
  have K2 := K1.keep hb2
  have hB2 : Below w.heap.size w w2 := hb1.trans (hb2.mono hb1.size)
  have hlt : w.heap.size < w1.heap.size := K1.lt
  obtain ⟨k0, hk0⟩ : ∃ k0, k0 = w.heap.size := ⟨_, rfl⟩
  have hsz1 : w1.heap.size = w.heap.size + 1 := by rw [hw1]; simp
  obtain ⟨k1, hk1⟩ : ∃ k1, k1 = w.heap.size + 1 := ⟨_, rfl⟩
  rw [hsz1, ← hk1] at N2 hlt
  rw [← hk0] at K2 hlt
  have c73 := (K2.cell 73).trans hc
  have f73 := K2.frozen 73
  have zk := K2.lt
  have z1 := N2.lt
  have hBs : Below w.heap.size w (w2.setCell ⟨k0, 73, none⟩ (.slice none 0 0)) := Below.setCell hB2 (by rw [hk0]; exact Nat.le_refl _) _
  have K3 : Bk (w2.setCell ⟨k0, 73, none⟩ (.slice none 0 0)) k0 37 A := by
    have := K2.set_ 73 (.slice none 0 0)
    rw [hset] at this
    exact this
  have N3 : Bk (w2.setCell ⟨k0, 73, none⟩ (.slice none 0 0)) k1 37 Z := N2.far (by show k1 ≠ k0; omega) _
  have hth : (w2.setCell ⟨k0, 73, none⟩ (.slice none 0 0)).there k1 0 A.size := N3.there _ (by rw [hAs, hzs]; exact Nat.le_refl _)
  have HB4 : Hid (Below w.heap.size w ((w2.setCell ⟨k0, 73, none⟩ (.slice none 0 0)).setCells k1 0 A.toList)) := Below.setCells (by rw [hk1]; exact Nat.le_succ _) _ _ _ hBs
  have HK4 : Hid (Bk ((w2.setCell ⟨k0, 73, none⟩ (.slice none 0 0)).setCells k1 0 A.toList) k1 37 A) := Bk.setAll N3 (by rw [hAs, hzs])
  clear K1 hb1 hb2 hB2 hBs hc K2 N2 N3 hsz1
  go_enter Tryd.func27, Tryd.ntmps27
  go_upto_region 1 with fail
  rw [← hw1, ← hw2]
  try rw [← hk1]
  try rw [← hk0]
  clear hw1 hw2 hk0 hk1
  go_wp2_with fail
  refine (HTX.out _).mono ?_
  rintro e w9 ⟨rfl, rfl⟩
  go_wp2_with (first | (refine wpList_load_row rfl 37 (.tmp 1) rfl k0 rfl 37 A (0, 0) _ K3 Tryd.underlying37 rfl (by rw [hAs]; exact ru_size) ?_) | (refine wpList_store_mid rfl 37 (.tmp 2) (.tmp 9) rfl k1 0 A rfl rfl hth (by rw [hAs]; exact ru_size) hAo ?_))
  exact rules_ret rfl rfl rfl hAs HK4.out ⟨rfl, HB4.out⟩
/-- The laws' own rules. -/
def bz : List Value := hdL hd0 ++ [.slice none 0 0]
theorem bz_zero (w : World) : (zeroValue 35).run Tryd.prog w = .ok (.agg bz.toArray) w := by kernel_rfl
theorem bz_size : bz.toArray.size = 69 := by unfold bz; simp [hdL_length hd0_is]
theorem bz_ne : (bz.toArray = #[]) = False := eq_false (by intro h; have := congrArg Array.size h; rw [bz_size] at this; cases this)
theorem hd_zero (w : World) : (zeroValue 32).run Tryd.prog w = .ok (.agg (hdA hd0)) w := by kernel_rfl
theorem hd_zne : (hdA hd0 = #[]) = False := eq_false (by intro h; have := congrArg Array.size h; rw [hdA_size hd0_is] at this; cases this)
theorem easy_1 : (hdA hd0).setIfInBounds 66 (.int .u32 545259519) = (hdL H0).toArray := by kernel_rfl
theorem easy_2 : (hdL H0).zipIdx.foldl (fun (cs : Array Value) (x : Value × Nat) => cs.setIfInBounds x.2 x.1) bz.toArray = (hdL H0 ++ [Value.slice none 0 0]).toArray := by
  have := fold_set 0 (hdL H0) [] (hdL hd0) [.slice none 0 0] 0 rfl (by rw [hdL_length H0_is, hdL_length hd0_is])
  simp only [Nat.zero_add, List.nil_append] at this
  exact this
theorem easy_3 : (hdL H0 ++ [Value.slice none 0 0]).zipIdx.foldl (fun (cs : Array Value) (x : Value × Nat) => cs.setIfInBounds (5 + x.2) x.1) ((((ruA rz).setIfInBounds 0 (Value.int .u32 545259519)).setIfInBounds 2 (Value.int .i64 10)).setIfInBounds 3 (Value.int .i64 50)) = ruA r0 := by
  have e : (((ruA rz).setIfInBounds 0 (Value.int .u32 545259519)).setIfInBounds 2 (Value.int .i64 10)).setIfInBounds 3 (Value.int .i64 50) = (([.int .u32 545259519, .int .i64 0, .int .i64 10, .int .i64 50, .int .i64 0] : List Value) ++ bz ++ []).toArray := by
    unfold ruA ruL
    rfl
  rw [e, fold_set 5 _ _ bz [] 0 rfl (by unfold bz; simp [hdL_length H0_is, hdL_length hd0_is])]
  rfl
set_option maxHeartbeats 8000000 in
theorem easy_any (w : World) : Calls Tryd.prog 8 #[] w fun e w' => e = .returned (.agg (ruA r0)) ∧ Below w.heap.size w w' := by
  have h1 := hd_zero
  have h2 := hd_zne
  have h3 := bz_zero
  have h4 := bz_ne
  have h5 := rz_zero
  have h6 := rz_ne
  have e1 := easy_1
  have e2 := easy_2
  have e3 := easy_3
  have s0 := hdA_size hd0_is
  have s1 := bz_size
  have s2 := ruA_len rz_is
  have hl := hdL_length H0_is
  have hl2 : (hdL H0 ++ [Value.slice none 0 0]).length = 69 := by rw [List.length_append, hl]; rfl
  have hA := ruA_len r0_is
  have hAo := ruA_ones r0_is
  generalize hdL H0 ++ [Value.slice none 0 0] = B at *
  generalize hdL H0 = HH at *
  generalize hdA hd0 = Z1 at *
  generalize bz.toArray = Z2 at *
  generalize ruA rz = Z3 at *
  generalize ruA r0 = R at *
  have N := Bk.new w 37 Z3
  have hth : (w.alloc (.cells Z3 37)).there w.heap.size 0 R.size := N.there _ (by rw [hA, s2]; exact Nat.le_refl _)
  have HB : Hid (Below w.heap.size w ((w.alloc (.cells Z3 37)).setCells w.heap.size 0 R.toList)) := Below.setCells (Nat.le_refl _) _ _ _ ((Below.refl _ _).alloc (Nat.le_refl _) _)
  have HK : Hid (Bk ((w.alloc (.cells Z3 37)).setCells w.heap.size 0 R.toList) w.heap.size 37 R) := Bk.setAll N (by rw [hA, s2])
  clear N
  go_enter Tryd.func8, Tryd.ntmps8
  go_wp2_with (refine wpList_store_mid rfl 37 (.tmp 0) (.tmp 3) rfl w.heap.size 0 R rfl rfl hth (by rw [hA]; exact ru_size) hAo ?_)
  exact rules_ret rfl rfl rfl hA HK.out ⟨rfl, HB.out⟩
end Go.Proofs.YtljfhabhenaapaaDoor
namespace Go.Proofs.YtljfhabhenaapaaDoor
open Go.RowKit
set_option linter.unusedVariables false
set_option linter.unusedSimpArgs false
set_option maxRecDepth 100000
def tz : List Value := [] ++ ruL rz ++ [.slice none 0 0, .map none]
theorem tz_zero (w : World) : (zeroValue 76).run Tryd.prog w = .ok (.agg tz.toArray) w := by kernel_rfl
theorem tz_size : tz.toArray.size = 76 := by unfold tz; simp [ruL_len rz_is]
theorem tz_ne : (tz.toArray = #[]) = False := eq_false (by intro h; have := congrArg Array.size h; rw [tz_size] at this; cases this)
theorem tree_1 : (ruL r0).zipIdx.foldl (fun (cs : Array Value) (x : Value × Nat) => cs.setIfInBounds x.2 x.1) tz.toArray = (ruL r0 ++ [Value.slice none 0 0, .map none]).toArray := by
  have := fold_set 0 (ruL r0) [] (ruL rz) [Value.slice none 0 0, .map none] 0 rfl (by rw [ruL_len r0_is, ruL_len rz_is])
  simp only [Nat.zero_add] at this
  exact this
theorem tree_2 (m : Nat) : ((ruL r0 ++ [Value.slice none 0 0, .map none]).toArray).setIfInBounds 75 (.map (some m)) = (ruL r0 ++ [Value.slice none 0 0, .map (some m)]).toArray := by
  rw [List.setIfInBounds_toArray, List.set_append_right _ _ (by rw [ruL_len r0_is]; decide), ruL_len r0_is]
  rfl
theorem g0_ok : TreeOk [g0] := by
  refine ⟨by simp, ⟨rfl, rfl, rfl, rfl⟩, ?_, ?_, ?_, ?_, ?_⟩
  · intro i h1 h2; simp at h2; omega
  · intro i h1 h2; simp at h2; omega
  · intro x hx; rw [List.mem_singleton.1 hx]; exact H0_is
  · intro i j h1 h2 _; simp at h1 h2; omega
  · intro x hx
    rw [List.mem_singleton.1 hx]
    show workN H0 < M256
    unfold workN workV
    split
    · decide
    · exact Nat.mod_lt _ (by decide)
theorem h0_range {w : World} {k : Nat} (K : Bk w k 37 (ruA r0)) : w.rangeAt k 5 (hdL H0) := fun j u hu => by
  rw [K.cell]
  unfold ruA
  rw [List.getElem?_toArray]
  have hj : j < 68 := by have := (List.getElem?_eq_some_iff.1 hu).1; rw [hdL_length H0_is] at this; exact this
  rw [Nat.add_comm]
  show (hdL H0 ++ [_])[j]? = _
  rw [List.getElem?_append_left (by rw [hdL_length H0_is]; exact hj)]
  exact hu
set_option maxHeartbeats 16000000 in
theorem new_any (w : World) (hLd : Laid w) : Calls Tryd.prog 7 #[.agg (ruA r0)] w fun e w' => ∃ p F, e = .returned (.tuple #[pv p, .int .i64 0]) ∧ Tre w' p w.heap.size F r0 [g0] ∧ Below w.heap.size w w' := by
  obtain ⟨w1, hw1⟩ : ∃ w1, w1 = w.alloc (.cells (ruA r0) 37) := ⟨_, rfl⟩
  have hb1 : Below w.heap.size w w1 := by rw [hw1]; exact (Below.refl _ _).alloc (Nat.le_refl _) _
  have K1 : Bk w1 w.heap.size 37 (ruA r0) := by rw [hw1]; exact Bk.new _ _ _
  have HB1 := Lib.hid hb1
  have HCK := Lib.hid check_any
  have HAP := Lib.hid (fun W => apart_any r0_is rfl W)
  have HLD := Lib.hid hLd
  have hz := tz_zero
  have hne := tz_ne
  have hzs := tz_size
  have t1 := tree_1
  have t2 := tree_2
  have hAs := ruA_len r0_is
  have hl0 := ruL_len r0_is
  have hT1s : (ruL r0 ++ [Value.slice none 0 0, .map none]).toArray.size = 76 := by rw [List.size_toArray, List.length_append, hl0]; rfl
  have hAL : ruA r0 = (ruL r0).toArray := rfl
  have HKR : Hid (∀ W k, Bk W k 37 (ruA r0) → W.rangeAt k 5 (hdL H0)) := fun W k K => h0_range K
  obtain ⟨TC, hTC⟩ : ∃ TC : Nat → Array Value, ∀ m, (ruL r0 ++ [Value.slice none 0 0, .map (some m)]).toArray = TC m := ⟨_, fun m => rfl⟩
  have HTC := Lib.hid hTC
  simp only [hTC] at t2
  clear hTC
  generalize (ruL r0 ++ [Value.slice none 0 0, .map none]).toArray = T1 at *
  generalize tz.toArray = ZT at *
  have hmm := @run_makeMap Tryd.prog
  obtain ⟨RL, hRL⟩ : ∃ RL, RL = ruL r0 := ⟨_, rfl⟩
  rw [← hRL] at t1 hl0 hAL
  have HRL := Lib.hid hRL
  rw [hAL] at HCK HAP hw1 K1 HKR hAs ⊢
  have hH0 := Lib.hid H0_is
  clear hb1 hAL hRL hLd
  obtain ⟨k0, hk0⟩ : ∃ k0, k0 = w.heap.size := ⟨_, rfl⟩
  rw [← hk0] at K1
  have HK0 := Lib.hid hk0
  go_enter Tryd.func7, Tryd.ntmps7
  go_upto_region 1 with fail
  rw [← hw1]
  try rw [← hk0]
  clear hw1 hk0
  go_wp2_with (first | (refine wpList_load_row rfl 37 (.tmp 1) rfl k0 rfl 37 RL.toArray (0, 0) _ K1 Tryd.underlying37 rfl (by rw [hAs]; exact ru_size) ?_) | fail)
  refine (HCK.out _).mono ?_
  rintro e w2 ⟨rfl, hb2⟩
  have HB2 := Lib.hid (HB1.out.trans (hb2.mono HB1.out.size))
  have K2 := K1.keep hb2
  clear hb2 K1
  go_wp2_with (first | (refine wpList_load_row rfl 37 (.tmp 1) rfl k0 rfl 37 RL.toArray (0, 0) _ K2 Tryd.underlying37 rfl (by rw [hAs]; exact ru_size) ?_) | fail)
  refine (HAP.out _).mono ?_
  rintro e w3 ⟨rfl, hb3⟩
  have hB3 : Below w.heap.size w w3 := HB2.out.trans (hb3.mono HB2.out.size)
  have K3 := K2.keep hb3
  clear hb3 K2
  have M4 := MapG.made (E := akE) w3
  have hb4 : Below w3.heap.size w3 (w3.alloc (.map #[] 0)) := (Below.refl _ _).alloc (Nat.le_refl _) _
  have KT : Bk ((w3.alloc (.map #[] 0)).alloc (.cells (TC w3.heap.size) 76)) (w3.heap.size + 1) 76 (TC w3.heap.size) := Bk.new' _ _ _ (by simp)
  have hb5 : Below w3.heap.size w3 ((w3.alloc (.map #[] 0)).alloc (.cells (TC w3.heap.size) 76)) := hb4.alloc hb4.size _
  have M5 := M4.keep (w' := (w3.alloc (.map #[] 0)).alloc (.cells (TC w3.heap.size) 76)) ((Below.refl _ _).alloc (Nat.le_refl _) _)
  have hm0 : w.heap.size ≤ w3.heap.size := hB3.size
  have K5 := K3.keep hb5
  go_upto_region 5 with fail
  refine wp_any (fun W => Below w.heap.size w W ∧ Bk W k0 37 RL.toArray ∧ Bk W (w3.heap.size + 1) 76 (TC w3.heap.size) ∧ MapG akE W w3.heap.size 0 (fun _ => none)) ⟨hB3.trans (hb5.mono hB3.size), K5, KT, M5⟩ ?_
  clear hB3 K3 K5 KT M5 M4 hb4 hb5 HB2
  generalize w3.heap.size = m at *
  clear w3 w2
  rintro W5 ⟨hB5, K5, KT, M5⟩
  have HB5 := Lib.hid hB5
  have HKT := Lib.hid KT
  have HM5 := Lib.hid M5
  have HM0 := Lib.hid hm0
  have zk := K5.lt
  have hrg := HKR.out W5 k0 K5
  have hz := hd_zero
  have hne := hd_zne
  have hzs := hdA_size hd0_is
  have hHl := hdL_length H0_is
  have hHo : (hdL H0).toArray.all (·.oneCell') = true := all_oneCell_toArray (hdL_one H0)
  have hHs : (Tryd.prog.info? 32).map (·.size) = some (hdL H0).length := by rw [hHl]; exact hd_info
  have hHs2 : (Tryd.prog.info? 32).map (·.size) = some (hdL H0).toArray.size := by rw [List.size_toArray]; exact hHs
  obtain ⟨HL, hHL⟩ : ∃ HL, HL = hdL H0 := ⟨_, rfl⟩
  rw [← hHL] at hrg hHl hHo hHs hHs2
  have HHL := Lib.hid hHL
  clear hHL
  generalize hdA hd0 = ZH at *
  have N6 := Bk.new W5 32 ZH
  have hth : (W5.alloc (.cells ZH 32)).there W5.heap.size 0 HL.toArray.size := N6.there _ (by rw [List.size_toArray, hHl, hzs]; exact Nat.le_refl _)
  have hB6 : Below W5.heap.size W5 ((W5.alloc (.cells ZH 32)).setCells W5.heap.size 0 HL) := Below.setCells (Nat.le_refl _) _ _ _ ((Below.refl _ _).alloc (Nat.le_refl _) _)
  have K6 : Bk ((W5.alloc (.cells ZH 32)).setCells W5.heap.size 0 HL) W5.heap.size 32 HL.toArray := Bk.setAll (xs := HL.toArray) N6 (by rw [List.size_toArray, hHl, hzs])
  have hrA : (W5.alloc (.cells ZH 32)).rangeAt k0 5 HL := rowr_below hrg ((Below.refl _ _).alloc (Nat.le_refl _) _ : Below W5.heap.size W5 _) zk
  clear hB5 K5 KT M5 N6 hm0
  go_upto_region 6 with (first | (refine wpList_load_mid rfl 32 (.tmp 18) rfl k0 5 rfl HL _ hrg Tryd.underlying32 rfl hHs ?_) | (refine wpList_load_mid rfl 32 (.tmp 18) rfl k0 5 rfl HL _ hrA Tryd.underlying32 rfl hHs ?_) | (refine wpList_store_mid rfl 32 (.tmp 6) (.tmp 19) rfl W5.heap.size 0 HL.toArray rfl rfl hth hHs2 hHo ?_))
  refine wp_any (fun W => Below w.heap.size w W ∧ Bk W W5.heap.size 32 HL.toArray ∧ Bk W (m + 1) 76 (TC m) ∧ MapG akE W m 0 (fun _ => none)) ⟨HB5.out.trans (hB6.mono HB5.out.size), K6, HKT.out.keep hB6, HM5.out.keep hB6⟩ ?_
  have hm6 : m + 1 < W5.heap.size := HKT.out.lt
  clear hB6 K6 hth hrA hrg zk HB5 HKT HM5
  generalize W5.heap.size = k6 at *
  clear W5
  rintro W6 ⟨hB6, K6, KT, M6⟩
  rw [HHL.out] at K6
  have z6 := K6.lt
  have hr6 : W6.rangeAt k6 0 (hdL H0) := hd_range K6
  have n6 : ¬ F0 (m + 1) (.slice none 0 0) m k6 := fun hc => by
    rcases hc with e | e | e
    · omega
    · exact absurd e (slb_none _ _ _)
    · omega
  have HID : Hid (∀ W, Below W6.heap.size W6 W → Calls Tryd.prog 29 #[.agg (hdL H0).toArray] W fun e w' => e = .returned (.agg (idL (nameI H0)).toArray) ∧ Below W.heap.size W w') := fun W hW => hid_any H0 W H0_is ((HLD.out.keep hB6).keep hW)
  have HWK : Hid (∀ W, Below W6.heap.size W6 W → Calls Tryd.prog 30 #[.agg (hdL H0).toArray] W fun e w' => e = .returned (nv (workN H0)) ∧ Below W.heap.size W w') := fun W hW => wk_any H0 H0_is W
  have hm0 := HM0.out
  have HPUT : Hid (∀ W, Below W6.heap.size W6 W → Calls Tryd.prog 28 #[.pointer (some ⟨m + 1, 0, none⟩), .agg (ndL ⟨H0, -1, 0, 0, workN H0, false⟩).toArray] W fun e w' => e = .returned (.int .i64 ((0 : Nat) : Int)) ∧ But (F0 (m + 1) (.slice none 0 0) m) W6 w' ∧ (∃ F, Tre w' (m + 1) w.heap.size F r0 [g0] ∧ Below w.heap.size w w')) := fun W hW => by
    have hBW := hB6.trans (hW.mono hB6.size)
    have KW := KT.keep hW
    rw [← HTC.out] at KW
    refine (put_raw (L := []) (lo := w.heap.size) r0_is KW (.inl ⟨rfl, rfl⟩) (M6.keep hW) (by omega) g0 H0_is rfl (by decide)).mono ?_
    rintro e w' ⟨rfl, v2, hP⟩
    refine ⟨rfl, (But.of (S := F0 (m + 1) (.slice none 0 0) m) hW).trans hP.but (fun _ _ h => h), F0 (m + 1) v2 m, ⟨v2, m, ⟨g0_ok, r0_is, hP.blk, hP.row, hP.mp, by omega, hm0⟩, rfl⟩, hBW.trans (hP.but.below hBW.size (fun k hk => ?_))⟩
    rcases hk with rfl | e | rfl
    · omega
    · exact absurd e (slb_none _ _ _)
    · exact hm0
  refine new6 (m + 1) k6 (workN H0) 0 H0 (F0 (m + 1) (.slice none 0 0) m) (fun w' => ∃ F, Tre w' (m + 1) w.heap.size F r0 [g0] ∧ Below w.heap.size w w') W6 _ _ _ _ _ _ _ _ _ _ _ _ _ _ _ _ _ _ _ _ _ _ _ _ _ _ _ _ H0_is z6 n6 hr6 HID HWK HPUT (Lib.hid (fun x20 x21 x22 x23 x24 x25 x26 x27 w9 hG => ?_))
  obtain ⟨F, hT, hB9⟩ := hG
  have HT := Lib.hid hT
  have HB9 := Lib.hid hB9
  clear hT hB9 hr6 HPUT HWK HID K6 KT M6
  go_wp2_with fail
  go_ret2
  exact ⟨m + 1, F, rfl, HT.out, HB9.out⟩
end Go.Proofs.YtljfhabhenaapaaDoor
