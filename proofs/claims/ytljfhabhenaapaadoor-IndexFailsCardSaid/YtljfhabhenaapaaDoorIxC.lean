/-
  Contracts of package index: Get, Find, work.
-/
import Derived.Test.YtljfhabhenaapaaDoorIxB
namespace Go.Proofs.YtljfhabhenaapaaDoor
open Go.RowKit
set_option linter.unusedVariables false
set_option linter.unusedSimpArgs false
set_option maxRecDepth 100000

theorem node_ret {P : Func} {a : Act} {W : World} {g nm : Nat} {A : Array Value} (hp : P.results = #[ResultVar.cell nm 45]) (hd : a.defers = []) (hv : a.tmps.getD nm undef = .pointer (some ⟨g, 0, none⟩)) (hs : A.size = 108) (hR : Bk W g 45 A)
    {K : Ending → World → Prop} (hK : K (.returned (.agg A)) W) : bodyPost Tryd.prog P K Exit.ret a W :=
  bodyPost_ret (results_cell_row hp _ _ g 45 A (0, 0) _ hv hR Tryd.underlying45 rfl (by rw [hs]; exact nd_size)) hd hK
theorem nz_zero (w : World) : (zeroValue 45).run Tryd.prog w = .ok (.agg nz.toArray) w := by kernel_rfl
theorem nz_ne : (nz.toArray = #[]) = False := eq_false (by intro h; have := congrArg Array.size h; rw [List.size_toArray, nz_ok.1] at this; cases this)
/-- The header of a number; the genesis of one that there isn't. -/
def getN (L : List Nd) (i : Int) : Nd := if hasB L i = true then ndA L i.toNat else ndA L 0
theorem getN_nat {L : List Nd} {i : Nat} (h : i < L.length) : getN L (i : Int) = ndA L i := by
  unfold getN; rw [hasB_nat, if_pos (decide_eq_true h)]; rfl
theorem getN_is {L : List Nd} (T : TreeOk L) (i : Int) : ∃ j, j < L.length ∧ getN L i = ndA L j := by
  unfold getN
  split
  · rename_i h
    have := of_decide_eq_true h
    exact ⟨i.toNat, by omega, rfl⟩
  · exact ⟨0, T.pos, rfl⟩
set_option maxHeartbeats 8000000 in
theorem get_any {w : World} {p lo : Nat} {F : Nat → Prop} {r : Ru} {L : List Nd} (h : Tre w p lo F r L) (i : Int) :
    Calls Tryd.prog 10 #[pv p, .int .i64 i] w fun e w' => e = .returned (nodeV (getN L i)) ∧ Below w.heap.size w w' := by
  have HH := Lib.hid (fun W (hb : Below w.heap.size w W) => has_any (h.keep hb) i)
  unfold pv at HH ⊢
  obtain ⟨b, c, k⟩ := h.look
  have hz := nz_zero
  have hne := nz_ne
  have hzs : nz.toArray.size = 108 := by rw [List.size_toArray]; exact nz_ok.1
  obtain ⟨Z, hZ⟩ : ∃ Z, Z = nz.toArray := ⟨_, rfl⟩
  rw [← hZ] at hz hne hzs
  clear hZ
  have hb1 : Below w.heap.size w (w.alloc (.cells Z 45)) := (Below.refl _ _).alloc (Nat.le_refl _) _
  have HH := HH.out _ hb1
  have z : p < (w.alloc (.cells Z 45)).heap.size := Nat.lt_of_lt_of_le k.p1 hb1.size
  have c1 := (hb1.cell (p := ⟨p, 74, none⟩) k.p1).trans k.c1
  have zb : b < (w.alloc (.cells Z 45)).heap.size := Nat.lt_of_lt_of_le k.b1 hb1.size
  have N0 := Bk.new w 45 Z
  have HN0 := Lib.hid N0
  have z0 : w.heap.size < (w.alloc (.cells Z 45)).heap.size := N0.lt
  by_cases hi : 0 ≤ i ∧ i < (L.length : Int)
  · obtain ⟨j, rfl⟩ : ∃ j : Nat, i = (j : Int) := ⟨i.toNat, by omega⟩
    have hj : j < L.length := by omega
    have e1 : hasB L (j : Int) = true := by rw [hasB_nat]; exact decide_eq_true hj
    rw [e1] at HH
    rw [getN_nat hj]
    have hx := k.ok.hd _ (ndA_mem hj)
    have hrg := rowr_below (k.at_ j hj).r hb1 k.b1
    unfold nodeV
    obtain ⟨x, hxe⟩ : ∃ x, x = ndA L j := ⟨_, rfl⟩
    rw [← hxe] at hx hrg ⊢
    have hsz := nd_sizeL hx
    have hln : (ndL x).toArray.size = 108 := by rw [List.size_toArray]; exact ndL_len hx
    have hth : (w.alloc (.cells Z 45)).there w.heap.size 0 (ndL x).toArray.size := N0.there _ (by rw [hln, hzs]; exact Nat.le_refl _)
    have hone : (ndL x).toArray.all (·.oneCell') = true := all_oneCell_toArray (ndL_one x)
    have hK : Bk ((w.alloc (.cells Z 45)).setCells w.heap.size 0 (ndL x)) w.heap.size 45 (ndL x).toArray := Bk.setAll (xs := (ndL x).toArray) N0 (by rw [hln, hzs])
    have hB : Below w.heap.size w ((w.alloc (.cells Z 45)).setCells w.heap.size 0 (ndL x)) := Below.setCells (Nat.le_refl _) _ _ _ hb1
    obtain ⟨n, hn⟩ : ∃ n, n = L.length := ⟨_, rfl⟩
    rw [← hn] at hj c1
    clear hn e1 hi k hxe h hx N0
    go_enter Tryd.func10, Tryd.ntmps10
    go_wp2_with fail
    refine HH.mono ?_
    rintro e w1 ⟨rfl, rfl⟩
    go_wp2_with (first | (refine wpList_load_mid rfl 45 (.tmp 20) rfl b (j * 108) rfl (ndL x) _ hrg Tryd.underlying45 rfl hsz ?_) | (refine wpList_store_mid rfl 45 (.tmp 4) (.tmp 21) rfl w.heap.size 0 (ndL x).toArray rfl rfl hth (by rw [hln]; exact nd_size) hone ?_))
    exact node_ret rfl rfl rfl hln hK ⟨rfl, hB⟩
  · have e1 : hasB L i = false := decide_eq_false hi
    rw [e1] at HH
    have eg : getN L i = ndA L 0 := by unfold getN; rw [e1]; rfl
    rw [eg]
    have hj := k.ok.pos
    have hx := k.ok.hd _ (ndA_mem hj)
    have hrg := rowr_below (k.at_ 0 hj).r hb1 k.b1
    rw [Nat.zero_mul] at hrg
    unfold nodeV
    obtain ⟨x, hxe⟩ : ∃ x, x = ndA L 0 := ⟨_, rfl⟩
    rw [← hxe] at hx hrg ⊢
    have hsz := nd_sizeL hx
    have hln : (ndL x).toArray.size = 108 := by rw [List.size_toArray]; exact ndL_len hx
    have hth : (w.alloc (.cells Z 45)).there w.heap.size 0 (ndL x).toArray.size := N0.there _ (by rw [hln, hzs]; exact Nat.le_refl _)
    have hone : (ndL x).toArray.all (·.oneCell') = true := all_oneCell_toArray (ndL_one x)
    have hK : Bk ((w.alloc (.cells Z 45)).setCells w.heap.size 0 (ndL x)) w.heap.size 45 (ndL x).toArray := Bk.setAll (xs := (ndL x).toArray) N0 (by rw [hln, hzs])
    have hB : Below w.heap.size w ((w.alloc (.cells Z 45)).setCells w.heap.size 0 (ndL x)) := Below.setCells (Nat.le_refl _) _ _ _ hb1
    obtain ⟨n, hn⟩ : ∃ n, n = L.length := ⟨_, rfl⟩
    rw [← hn] at hj c1
    clear hn e1 hi k hxe h hx N0 eg
    go_enter Tryd.func10, Tryd.ntmps10
    go_wp2_with fail
    refine HH.mono ?_
    rintro e w1 ⟨rfl, rfl⟩
    go_wp2_with (first | (refine wpList_load_mid rfl 45 (.tmp 13) rfl b 0 rfl (ndL x) _ hrg Tryd.underlying45 rfl hsz ?_) | (refine wpList_store_mid rfl 45 (.tmp 4) (.tmp 14) rfl w.heap.size 0 (ndL x).toArray rfl rfl hth (by rw [hln]; exact nd_size) hone ?_))
    exact node_ret rfl rfl rfl hln hK ⟨rfl, hB⟩
set_option maxHeartbeats 4000000 in
theorem wk_any (h : Hd) (k : IsHd h) (w : World) :
    Calls Tryd.prog 30 #[hdv h] w fun e w' => e = .returned (nv (workN h)) ∧ Below w.heap.size w w' := by
  have HT := Lib.hid (fun W => target_any h.b W k.b)
  have HW := Lib.hid (fun W => work_any (tgtV h.b) W (tgtV_lt h.b))
  show Calls Tryd.prog _ #[.agg (hdA h)] w _
  have hcb := hdA_b k
  unfold workN
  have hlt := tgtV_lt h.b
  generalize workV (tgtV h.b) = R at *
  generalize tgtV h.b = t at *
  have hb := k.b
  have has := hdA_size k
  have hone := hdA_one h
  generalize h.b = bb at *
  generalize hdA h = A at *
  have K0 : Bk (w.alloc (.cells A 32)) w.heap.size 32 A := Bk.new _ _ _
  have hb0 : Below w.heap.size w (w.alloc (.cells A 32)) := (Below.refl _ _).alloc (Nat.le_refl _) _
  generalize hw1 : w.alloc (.cells A 32) = w1 at *
  have c0 : (w1.alloc (.cells #[.int .u64 0, .int .u64 0, .int .u64 0, .int .u64 0] 43)).cell? ⟨w.heap.size, 66, none⟩ = some (.int .u32 (bb : Int)) := ((K0.alloc _).cell 66).trans hcb
  have R0 := Bk.new w1 43 #[.int .u64 0, .int .u64 0, .int .u64 0, .int .u64 0]
  have hb1 := hb0.alloc hb0.size (.cells #[.int .u64 0, .int .u64 0, .int .u64 0, .int .u64 0] 43)
  have z1 := K0.lt
  have z2 := (K0.alloc (.cells #[.int .u64 0, .int .u64 0, .int .u64 0, .int .u64 0] 43)).lt
  go_enter Tryd.func30, Tryd.ntmps30
  go_upto_region 1 with fail
  go_wp2_with fail
  refine (HT.out _).mono ?_
  rintro e w2 ⟨rfl, hb2⟩
  have hB := below_step hb1 hb1.size hb2
  have R := R0.keep hb2
  have hR1 : w.heap.size ≤ w1.heap.size := hb0.size
  clear hb2 R0 hb1 c0 z1 z2 K0 hb0
  go_upto_region 2 with fail
  have T := Bk.new w2 43 (A4 (wd0 t) (wd1 t) (wd2 t) (wd3 t))
  have R1 := R.alloc (.cells (A4 (wd0 t) (wd1 t) (wd2 t) (wd3 t)) 43)
  have hB1 := hB.alloc hB.size (.cells (A4 (wd0 t) (wd1 t) (wd2 t) (wd3 t)) 43)
  change Bk (w2.alloc (.cells #[.int .u64 ((wd0 t : Nat) : Int), .int .u64 ((wd1 t : Nat) : Int), .int .u64 ((wd2 t : Nat) : Int), .int .u64 ((wd3 t : Nat) : Int)] 43)) w2.heap.size 43 _ at T
  refine wp_any (fun W => Below w.heap.size w W ∧ Bk W w1.heap.size 43 #[.int .u64 0, .int .u64 0, .int .u64 0, .int .u64 0] ∧ Bk W w2.heap.size 43 (A4 (wd0 t) (wd1 t) (wd2 t) (wd3 t))) ⟨hB1, R1, T⟩ ?_
  clear hB R T R1 hB1 hw1
  generalize w2.heap.size = g2 at *
  generalize w1.heap.size = g1 at *
  clear w2 w1
  rintro W ⟨hB, R, T⟩
  obtain ⟨t0, t1, t2, t3, t4, t5, t6, t7, zt⟩ := T.f4
  go_wp2_with fail
  refine (HW.out _).mono ?_
  rintro e w3 ⟨rfl, hb3⟩
  have hB := below_step hB hB.size hb3
  have R := R.keep hb3
  obtain ⟨r0, r1, r2, r3, r4, r5, r6, r7, zr⟩ := R.f4
  clear hb3 T t0 t1 t2 t3 t4 t5 t6 t7 zt
  go_wp2_with fail
  exact num_ret rfl rfl rfl rfl (R.set4 _ _ _ _) (Below.set4 hB (by omega) _ _ _ _)
end Go.Proofs.YtljfhabhenaapaaDoor
