/-
  The contract of package head's Proved.
-/
import Derived.Test.YtljfhabhenaapaaDoorHeaZ
import Derived.Test.YtljfhabhenaapaaDoorBitT
import Derived.Test.YtljfhabhenaapaaDoorNumHD
namespace Go.Proofs.YtljfhabhenaapaaDoor
open Go.RowKit
set_option maxRecDepth 100000
set_option linter.unusedVariables false

/-- Whether work stands behind a header: the error's number. -/
def provV (h : Hd) (l : Nat) : Nat := if tgtV h.b = 0 ∨ tgtV l = 0 ∨ tgtV l < tgtV h.b then 30 else if tgtV h.b < ofL (hID h) then 50 else 0
theorem ofL_id {x : List Nat} (hl : x.length = 32) (hx : ∀ y ∈ x, y < 256) : ofL x < M256 := by
  have h := ofL_lt _ hx
  rw [hl] at h
  rw [M256_256]; exact h
theorem cmp_gt {a b : Nat} (h : b < a) : decide (0 < cmpI a b) = true := by
  unfold cmpI; rw [if_neg (by omega), if_neg (by omega)]; rfl
theorem cmp_ngt {a b : Nat} (h : ¬ b < a) : decide (0 < cmpI a b) = false := by
  unfold cmpI; split
  · rfl
  · rw [if_pos (by omega)]; rfl
theorem hd_agg (w : World) : (isAgg 32).run Tryd.prog w = .ok true w := by kernel_rfl
theorem hd_size (w : World) : (sizeOf 32).run Tryd.prog w = .ok 68 w := by kernel_rfl
theorem hd_load {w : World} {g : Nat} {A : Array Value} (h : Bk w g 32 A) (hs : A.size = 68) : (loadCellsFrom ⟨g, 0, none⟩ 0 68 #[]).run Tryd.prog w = .ok A w := by
  have e := run_loadCells_list (P := Tryd.prog) w ⟨g, 0, none⟩ A.toList (fun j v hv => by rw [Addr.add_mid]; exact h.range0 j v hv)
  rw [Array.length_toList, hs] at e
  have e2 : A.toList.toArray = A := by simp
  rw [e2] at e
  exact e
set_option maxRecDepth 100000 in
set_option maxHeartbeats 4000000 in
theorem proved_any (h : Hd) (l : Nat) (w : World) (k : IsHd h) (hl : l < 4294967296) (hL : Laid w) :
    Calls Tryd.prog 31 #[hdv h, .int .u32 (l : Int)] w fun e w' => e = .returned (.int .i64 ((provV h l : Nat) : Int)) ∧ Below w.heap.size w w' := by
  have HID := Lib.hid (fun W (hLW : Laid W) => hid_any h W k hLW)
  change Hid (∀ W, Laid W → Calls Tryd.prog 29 #[.agg (hdA h)] W _) at HID
  show Calls Tryd.prog _ #[.agg (hdA h), _] w _
  have HV : Hid (provV h l = if tgtV h.b = 0 ∨ tgtV l = 0 ∨ tgtV l < tgtV h.b then 30 else if tgtV h.b < ofL (hID h) then 50 else 0) := rfl
  have has := hdA_size k
  have hcb := hdA_b k
  have HT := Lib.hid (fun W => target_any h.b W k.b)
  have HU := Lib.hid (fun W => target_any l W hl)
  have htM := tgtV_lt h.b
  have huM := tgtV_lt l
  have hoM := ofL_id (hID_length h) (hID_lt h)
  have HF := Lib.hid (fun W => fromID_any (hID h) (hID_length h) (hID_lt h) W)
  have HC1 := Lib.hid (fun W => cmp_any (tgtV h.b) (tgtV l) W htM huM)
  have HC2 := Lib.hid (fun W => cmp_any (ofL (hID h)) (tgtV h.b) W hoM htM)
  have HL := Lib.hid hL
  generalize provV h l = P at *
  generalize hdA h = A at *
  generalize ofL (hID h) = o at *
  change Hid (∀ W, Calls Tryd.prog _ #[.agg (idA (hID h))] W _) at HF
  change Hid (∀ W, Laid W → Calls Tryd.prog _ _ W fun e w' => e = .returned (.agg (idA (hID h))) ∧ _) at HID
  generalize idA (hID h) = I at *
  have hb := k.b
  generalize tgtV h.b = t at *
  generalize tgtV l = u at *
  generalize h.b = b at *
  clear k hL htM huM hoM
  have hout : t = 0 ∨ (¬ t = 0 ∧ u = 0) ∨ (¬ t = 0 ∧ ¬ u = 0 ∧ u < t) → Calls Tryd.prog 31 #[.agg A, .int .u32 (l : Int)] w fun e w' => e = .returned (.int .i64 (30 : Int)) ∧ Below w.heap.size w w' := by
    have hgt : u < t → decide (0 < cmpI t u) = true := cmp_gt
    generalize cmpI t u = z1 at *
    rintro (h0 | ⟨h1, h0⟩ | ⟨h1, h2, h0⟩)
    · have ht0 : decide (t = 0) = true := decide_eq_true h0
      rw [ht0] at HT
      by_cases hu : u = 0
      all_goals
        try have hu0 : decide (u = 0) = true := decide_eq_true hu
        try have hu0 : decide (u = 0) = false := decide_eq_false hu
        rw [hu0] at HU
        clear ht0 hu0 hu h0 hgt
        go_enter Tryd.func31, Tryd.ntmps31
        have K0 : Bk (w.alloc (.cells A 32)) w.heap.size 32 A := Bk.new _ _ _
        have c0 := (K0.cell 66).trans hcb
        go_wp2_with fail
        refine (HT.out _).mono ?_
        rintro e w1 ⟨rfl, hb1⟩
        have hW := below_step ((Below.refl _ _).alloc (Nat.le_refl _) (.cells A 32)) (by simp) hb1
        have K := K0.keep hb1
        clear hb1 K0 c0
        go_upto_region 2 with fail
        have T := Bk.new w1 43 (A4 (wd0 t) (wd1 t) (wd2 t) (wd3 t))
        have K1 := K.alloc (.cells (A4 (wd0 t) (wd1 t) (wd2 t) (wd3 t)) 43)
        have hW1 := hW.alloc hW.size (.cells (A4 (wd0 t) (wd1 t) (wd2 t) (wd3 t)) 43)
        have hzk := K.lt
        change Bk (w1.alloc (.cells #[.int .u64 ((wd0 t : Nat) : Int), .int .u64 ((wd1 t : Nat) : Int), .int .u64 ((wd2 t : Nat) : Int), .int .u64 ((wd3 t : Nat) : Int)] 43)) w1.heap.size 43 _ at T
        refine wp_any (fun W => Below w.heap.size w W ∧ Bk W w.heap.size 32 A ∧ Bk W w1.heap.size 43 (A4 (wd0 t) (wd1 t) (wd2 t) (wd3 t))) ⟨hW1, K1, T⟩ ?_
        clear hW K T K1 hW1
        generalize w1.heap.size = g1 at *
        rintro W ⟨hW, K, T⟩
        go_upto_region 3 with fail
        refine (HU.out _).mono ?_
        rintro e w2 ⟨rfl, hb2⟩
        have hW := below_step hW hW.size hb2
        have K := K.keep hb2
        have T := T.keep hb2
        clear hb2
        go_upto_region 3 with fail
        have U := Bk.new w2 43 (A4 (wd0 u) (wd1 u) (wd2 u) (wd3 u))
        have K1 := K.alloc (.cells (A4 (wd0 u) (wd1 u) (wd2 u) (wd3 u)) 43)
        have T1 := T.alloc (.cells (A4 (wd0 u) (wd1 u) (wd2 u) (wd3 u)) 43)
        have hW1 := hW.alloc hW.size (.cells (A4 (wd0 u) (wd1 u) (wd2 u) (wd3 u)) 43)
        have hzt := T.lt
        change Bk (w2.alloc (.cells #[.int .u64 ((wd0 u : Nat) : Int), .int .u64 ((wd1 u : Nat) : Int), .int .u64 ((wd2 u : Nat) : Int), .int .u64 ((wd3 u : Nat) : Int)] 43)) w2.heap.size 43 _ at U
        refine wp_any (fun W => Below w.heap.size w W ∧ Bk W w.heap.size 32 A ∧ Bk W g1 43 (A4 (wd0 t) (wd1 t) (wd2 t) (wd3 t)) ∧ Bk W w2.heap.size 43 (A4 (wd0 u) (wd1 u) (wd2 u) (wd3 u))) ⟨hW1, K1, T1, U⟩ ?_
        clear hW K T K1 T1 U hW1
        generalize w2.heap.size = g2 at *
        rintro W ⟨hW, K, T, U⟩
        obtain ⟨t0, t1, t2, t3, t4, t5, t6, t7, zt⟩ := T.f4
        obtain ⟨u0, u1, u2, u3, u4, u5, u6, u7, zu⟩ := U.f4
        go_wp2_with fail
        go_ret
        exact ⟨rfl, hW⟩
    · have ht0 : decide (t = 0) = false := decide_eq_false h1
      have hu0 : decide (u = 0) = true := decide_eq_true h0
      rw [ht0] at HT
      rw [hu0] at HU
      clear ht0 hu0 h0 h1 hgt
      go_enter Tryd.func31, Tryd.ntmps31
      have K0 : Bk (w.alloc (.cells A 32)) w.heap.size 32 A := Bk.new _ _ _
      have c0 := (K0.cell 66).trans hcb
      go_wp2_with fail
      refine (HT.out _).mono ?_
      rintro e w1 ⟨rfl, hb1⟩
      have hW := below_step ((Below.refl _ _).alloc (Nat.le_refl _) (.cells A 32)) (by simp) hb1
      have K := K0.keep hb1
      clear hb1 K0 c0
      go_upto_region 2 with fail
      have T := Bk.new w1 43 (A4 (wd0 t) (wd1 t) (wd2 t) (wd3 t))
      have K1 := K.alloc (.cells (A4 (wd0 t) (wd1 t) (wd2 t) (wd3 t)) 43)
      have hW1 := hW.alloc hW.size (.cells (A4 (wd0 t) (wd1 t) (wd2 t) (wd3 t)) 43)
      have hzk := K.lt
      change Bk (w1.alloc (.cells #[.int .u64 ((wd0 t : Nat) : Int), .int .u64 ((wd1 t : Nat) : Int), .int .u64 ((wd2 t : Nat) : Int), .int .u64 ((wd3 t : Nat) : Int)] 43)) w1.heap.size 43 _ at T
      refine wp_any (fun W => Below w.heap.size w W ∧ Bk W w.heap.size 32 A ∧ Bk W w1.heap.size 43 (A4 (wd0 t) (wd1 t) (wd2 t) (wd3 t))) ⟨hW1, K1, T⟩ ?_
      clear hW K T K1 hW1
      generalize w1.heap.size = g1 at *
      rintro W ⟨hW, K, T⟩
      go_upto_region 3 with fail
      refine (HU.out _).mono ?_
      rintro e w2 ⟨rfl, hb2⟩
      have hW := below_step hW hW.size hb2
      have K := K.keep hb2
      have T := T.keep hb2
      clear hb2
      go_upto_region 3 with fail
      have U := Bk.new w2 43 (A4 (wd0 u) (wd1 u) (wd2 u) (wd3 u))
      have K1 := K.alloc (.cells (A4 (wd0 u) (wd1 u) (wd2 u) (wd3 u)) 43)
      have T1 := T.alloc (.cells (A4 (wd0 u) (wd1 u) (wd2 u) (wd3 u)) 43)
      have hW1 := hW.alloc hW.size (.cells (A4 (wd0 u) (wd1 u) (wd2 u) (wd3 u)) 43)
      have hzt := T.lt
      change Bk (w2.alloc (.cells #[.int .u64 ((wd0 u : Nat) : Int), .int .u64 ((wd1 u : Nat) : Int), .int .u64 ((wd2 u : Nat) : Int), .int .u64 ((wd3 u : Nat) : Int)] 43)) w2.heap.size 43 _ at U
      refine wp_any (fun W => Below w.heap.size w W ∧ Bk W w.heap.size 32 A ∧ Bk W g1 43 (A4 (wd0 t) (wd1 t) (wd2 t) (wd3 t)) ∧ Bk W w2.heap.size 43 (A4 (wd0 u) (wd1 u) (wd2 u) (wd3 u))) ⟨hW1, K1, T1, U⟩ ?_
      clear hW K T K1 T1 U hW1
      generalize w2.heap.size = g2 at *
      rintro W ⟨hW, K, T, U⟩
      obtain ⟨t0, t1, t2, t3, t4, t5, t6, t7, zt⟩ := T.f4
      obtain ⟨u0, u1, u2, u3, u4, u5, u6, u7, zu⟩ := U.f4
      go_wp2_with fail
      go_ret
      exact ⟨rfl, hW⟩
    · have ht0 : decide (t = 0) = false := decide_eq_false h1
      have hu0 : decide (u = 0) = false := decide_eq_false h2
      have hd := hgt h0
      rw [ht0] at HT
      rw [hu0] at HU
      clear ht0 hu0 h0 h1 h2 hgt
      go_enter Tryd.func31, Tryd.ntmps31
      have K0 : Bk (w.alloc (.cells A 32)) w.heap.size 32 A := Bk.new _ _ _
      have c0 := (K0.cell 66).trans hcb
      go_wp2_with fail
      refine (HT.out _).mono ?_
      rintro e w1 ⟨rfl, hb1⟩
      have hW := below_step ((Below.refl _ _).alloc (Nat.le_refl _) (.cells A 32)) (by simp) hb1
      have K := K0.keep hb1
      clear hb1 K0 c0
      go_upto_region 2 with fail
      have T := Bk.new w1 43 (A4 (wd0 t) (wd1 t) (wd2 t) (wd3 t))
      have K1 := K.alloc (.cells (A4 (wd0 t) (wd1 t) (wd2 t) (wd3 t)) 43)
      have hW1 := hW.alloc hW.size (.cells (A4 (wd0 t) (wd1 t) (wd2 t) (wd3 t)) 43)
      have hzk := K.lt
      change Bk (w1.alloc (.cells #[.int .u64 ((wd0 t : Nat) : Int), .int .u64 ((wd1 t : Nat) : Int), .int .u64 ((wd2 t : Nat) : Int), .int .u64 ((wd3 t : Nat) : Int)] 43)) w1.heap.size 43 _ at T
      refine wp_any (fun W => Below w.heap.size w W ∧ Bk W w.heap.size 32 A ∧ Bk W w1.heap.size 43 (A4 (wd0 t) (wd1 t) (wd2 t) (wd3 t))) ⟨hW1, K1, T⟩ ?_
      clear hW K T K1 hW1
      generalize w1.heap.size = g1 at *
      rintro W ⟨hW, K, T⟩
      go_upto_region 3 with fail
      refine (HU.out _).mono ?_
      rintro e w2 ⟨rfl, hb2⟩
      have hW := below_step hW hW.size hb2
      have K := K.keep hb2
      have T := T.keep hb2
      clear hb2
      go_upto_region 3 with fail
      have U := Bk.new w2 43 (A4 (wd0 u) (wd1 u) (wd2 u) (wd3 u))
      have K1 := K.alloc (.cells (A4 (wd0 u) (wd1 u) (wd2 u) (wd3 u)) 43)
      have T1 := T.alloc (.cells (A4 (wd0 u) (wd1 u) (wd2 u) (wd3 u)) 43)
      have hW1 := hW.alloc hW.size (.cells (A4 (wd0 u) (wd1 u) (wd2 u) (wd3 u)) 43)
      have hzt := T.lt
      change Bk (w2.alloc (.cells #[.int .u64 ((wd0 u : Nat) : Int), .int .u64 ((wd1 u : Nat) : Int), .int .u64 ((wd2 u : Nat) : Int), .int .u64 ((wd3 u : Nat) : Int)] 43)) w2.heap.size 43 _ at U
      refine wp_any (fun W => Below w.heap.size w W ∧ Bk W w.heap.size 32 A ∧ Bk W g1 43 (A4 (wd0 t) (wd1 t) (wd2 t) (wd3 t)) ∧ Bk W w2.heap.size 43 (A4 (wd0 u) (wd1 u) (wd2 u) (wd3 u))) ⟨hW1, K1, T1, U⟩ ?_
      clear hW K T K1 T1 U hW1
      generalize w2.heap.size = g2 at *
      rintro W ⟨hW, K, T, U⟩
      obtain ⟨t0, t1, t2, t3, t4, t5, t6, t7, zt⟩ := T.f4
      obtain ⟨u0, u1, u2, u3, u4, u5, u6, u7, zu⟩ := U.f4
      go_wp2_with fail
      refine (HC1.out _).mono ?_
      rintro e w3 ⟨rfl, hb3⟩
      have hW := below_step hW hW.size hb3
      clear hb3
      go_wp2_with fail
      go_ret
      exact ⟨rfl, hW⟩
  have hin : ¬ (t = 0 ∨ u = 0 ∨ u < t) → ∀ r : Nat, r = (if t < o then 50 else 0) → Calls Tryd.prog 31 #[.agg A, .int .u32 (l : Int)] w fun e w' => e = .returned (.int .i64 (r : Int)) ∧ Below w.heap.size w w' := by
    intro hn r hr
    have ht0 : decide (t = 0) = false := decide_eq_false (by omega)
    have hu0 : decide (u = 0) = false := decide_eq_false (by omega)
    have hut := cmp_ngt (a := t) (b := u) (by omega)
    rw [ht0] at HT
    rw [hu0] at HU
    have HR := Lib.hid hr
    generalize cmpI t u = z1 at *
    have hgt : t < o → decide (0 < cmpI o t) = true := cmp_gt
    have hgf : ¬ t < o → decide (0 < cmpI o t) = false := cmp_ngt
    generalize cmpI o t = z2 at *
    clear ht0 hu0 hn hr
    go_enter Tryd.func31, Tryd.ntmps31
    have K0 : Bk (w.alloc (.cells A 32)) w.heap.size 32 A := Bk.new _ _ _
    have c0 := (K0.cell 66).trans hcb
    go_wp2_with fail
    refine (HT.out _).mono ?_
    rintro e w1 ⟨rfl, hb1⟩
    have hW := below_step ((Below.refl _ _).alloc (Nat.le_refl _) (.cells A 32)) (by simp) hb1
    have K := K0.keep hb1
    clear hb1 K0 c0
    go_upto_region 2 with fail
    have T := Bk.new w1 43 (A4 (wd0 t) (wd1 t) (wd2 t) (wd3 t))
    have K1 := K.alloc (.cells (A4 (wd0 t) (wd1 t) (wd2 t) (wd3 t)) 43)
    have hW1 := hW.alloc hW.size (.cells (A4 (wd0 t) (wd1 t) (wd2 t) (wd3 t)) 43)
    have hzk := K.lt
    change Bk (w1.alloc (.cells #[.int .u64 ((wd0 t : Nat) : Int), .int .u64 ((wd1 t : Nat) : Int), .int .u64 ((wd2 t : Nat) : Int), .int .u64 ((wd3 t : Nat) : Int)] 43)) w1.heap.size 43 _ at T
    refine wp_any (fun W => Below w.heap.size w W ∧ Bk W w.heap.size 32 A ∧ Bk W w1.heap.size 43 (A4 (wd0 t) (wd1 t) (wd2 t) (wd3 t))) ⟨hW1, K1, T⟩ ?_
    clear hW K T K1 hW1
    generalize w1.heap.size = g1 at *
    rintro W ⟨hW, K, T⟩
    go_upto_region 3 with fail
    refine (HU.out _).mono ?_
    rintro e w2 ⟨rfl, hb2⟩
    have hW := below_step hW hW.size hb2
    have K := K.keep hb2
    have T := T.keep hb2
    clear hb2
    go_upto_region 3 with fail
    have U := Bk.new w2 43 (A4 (wd0 u) (wd1 u) (wd2 u) (wd3 u))
    have K1 := K.alloc (.cells (A4 (wd0 u) (wd1 u) (wd2 u) (wd3 u)) 43)
    have T1 := T.alloc (.cells (A4 (wd0 u) (wd1 u) (wd2 u) (wd3 u)) 43)
    have hW1 := hW.alloc hW.size (.cells (A4 (wd0 u) (wd1 u) (wd2 u) (wd3 u)) 43)
    have hzt := T.lt
    change Bk (w2.alloc (.cells #[.int .u64 ((wd0 u : Nat) : Int), .int .u64 ((wd1 u : Nat) : Int), .int .u64 ((wd2 u : Nat) : Int), .int .u64 ((wd3 u : Nat) : Int)] 43)) w2.heap.size 43 _ at U
    refine wp_any (fun W => Below w.heap.size w W ∧ Bk W w.heap.size 32 A ∧ Bk W g1 43 (A4 (wd0 t) (wd1 t) (wd2 t) (wd3 t)) ∧ Bk W w2.heap.size 43 (A4 (wd0 u) (wd1 u) (wd2 u) (wd3 u))) ⟨hW1, K1, T1, U⟩ ?_
    clear hW K T K1 T1 U hW1
    generalize w2.heap.size = g2 at *
    rintro W ⟨hW, K, T, U⟩
    obtain ⟨t0, t1, t2, t3, t4, t5, t6, t7, zt⟩ := T.f4
    obtain ⟨u0, u1, u2, u3, u4, u5, u6, u7, zu⟩ := U.f4
    go_wp2_with fail
    refine (HC1.out _).mono ?_
    rintro e w3 ⟨rfl, hb3⟩
    have hW := below_step hW hW.size hb3
    have K := K.keep hb3
    have T := T.keep hb3
    clear hb3 t0 t1 t2 t3 t4 t5 t6 t7 zt u0 u1 u2 u3 u4 u5 u6 u7 zu U HC1 HU HT
    go_upto_region 5 with fail
    obtain ⟨tl, htl⟩ : ∃ tl : TypeId, tl = 32 := ⟨_, rfl⟩
    obtain ⟨sz, hsz0⟩ : ∃ sz : Nat, sz = 68 := ⟨_, rfl⟩
    have hag : ∀ w, (isAgg tl).run Tryd.prog w = .ok true w := by rw [htl]; exact hd_agg
    have hsz : ∀ w, (sizeOf tl).run Tryd.prog w = .ok sz w := by rw [htl, hsz0]; exact hd_size
    have hlA : (loadCellsFrom ⟨w.heap.size, 0, none⟩ 0 sz #[]).run Tryd.prog w3.drew = .ok A w3.drew := by rw [hsz0]; exact hd_load K.drew has
    simp only [show ∀ z, Op.load 32 z = Op.load tl z from fun z => by rw [htl]]
    have hW0 := Lib.hid hW.drew
    have hLD := Lib.hid (HL.out.below hW0.out HL.out.size)
    have T0 := T.drew
    obtain ⟨a0, a1, a2, a3, a4, a5, a6, a7, za⟩ := T0.f4
    clear htl hsz0 T hW
    by_cases hto : t < o
    · have hd := hgt hto
      have hr : r = 50 := by rw [HR.out, if_pos hto]
      subst hr
      clear hgt hgf
      go_region_law (first
        | (go_simp; go_at_call 29; refine (HID.out _ hLD.out).mono ?_; rintro e w6 ⟨rfl, hb6⟩; have T6 := T0.keep hb6; have hE6 := hW0.out.trans (hb6.mono hW0.out.size); obtain ⟨b0, b1, b2, b3, b4, b5, b6, b7, zb⟩ := T6.f4)
        | (go_simp; go_at_call 52; refine (HF.out _).mono ?_; rintro e w7 ⟨rfl, hb7⟩; have T7 := T6.keep hb7; have hE7 := hE6.trans (hb7.mono hE6.size); obtain ⟨d0, d1, d2, d3, d4, d5, d6, d7, zd⟩ := T7.f4)
        | (go_simp; go_at_call 51; refine (HC2.out _).mono ?_; rintro e w8 ⟨rfl, hb8⟩; have hE8 := hE7.trans (hb8.mono hE7.size)))
      all_goals
        have hE8 := Lib.hid hE8
        go_wp2_with fail
        go_ret
        exact ⟨rfl, hE8.out⟩
    · have hd := hgf hto
      have hr : r = 0 := by rw [HR.out, if_neg hto]
      subst hr
      clear hgt hgf
      go_region_law (first
        | (go_simp; go_at_call 29; refine (HID.out _ hLD.out).mono ?_; rintro e w6 ⟨rfl, hb6⟩; have T6 := T0.keep hb6; have hE6 := hW0.out.trans (hb6.mono hW0.out.size); obtain ⟨b0, b1, b2, b3, b4, b5, b6, b7, zb⟩ := T6.f4)
        | (go_simp; go_at_call 52; refine (HF.out _).mono ?_; rintro e w7 ⟨rfl, hb7⟩; have T7 := T6.keep hb7; have hE7 := hE6.trans (hb7.mono hE6.size); obtain ⟨d0, d1, d2, d3, d4, d5, d6, d7, zd⟩ := T7.f4)
        | (go_simp; go_at_call 51; refine (HC2.out _).mono ?_; rintro e w8 ⟨rfl, hb8⟩; have hE8 := hE7.trans (hb8.mono hE7.size)))
      all_goals
        have hE8 := Lib.hid hE8
        go_wp2_with fail
        go_ret
        exact ⟨rfl, hE8.out⟩
  rw [HV.out]
  by_cases hc : t = 0 ∨ u = 0 ∨ u < t
  · rw [if_pos hc]
    exact hout (by omega)
  · rw [if_neg hc]
    exact hin hc _ rfl
end Go.Proofs.YtljfhabhenaapaaDoor
