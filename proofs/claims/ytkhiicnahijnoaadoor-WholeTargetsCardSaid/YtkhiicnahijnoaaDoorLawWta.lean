/-
  What is proved: for every list of names and every two short bits the law WholeTargets returns true, and its arguments read behind the call as they read before; the two listed tables of package hash are taken to hold what the program's text lays in them, and the card ties them to it.
-/
import Derived.Test.YtkhiicnahijnoaaDoorWtaA
import Derived.Test.YtkhiicnahijnoaaDoorWtaB
import Derived.Test.YtkhiicnahijnoaaDoorIdArg
import Derived.Test.YtkhiicnahijnoaaDoorOpen
import Derived.Test.YtkhiicnahijnoaaDoorBitW
import Derived.Test.YtkhiicnahijnoaaDoorTie
import Derived.Test.YtkhiicnahijnoaaDoorCards
import Derived.Stop.Joined
namespace Go.Proofs.YtkhiicnahijnoaaDoor.wholeTargets
open Go.ChangeShapes Go.WideShapes Go.ChangeAt Go.RowKit
set_option linter.unusedVariables false

theorem own : ownKnob Tryd.prog.godebug = none := by kernel_rfl
theorem laidOut : laidOutB Tryd.prog = true := by kernel_rfl
theorem wf_i64 {z : Int} (h : (Lit.int .i64 z).wf = true) : -9223372036854775808 ≤ z ∧ z ≤ 9223372036854775807 := by
  simp [Lit.wf, IntKind.min, IntKind.max, IntKind.signed, IntKind.bits] at h
  omega

theorem M_big : 8 < M256 := by decide +kernel
theorem work_form (t : Nat) (ht : t < M256) (h1 : 1 ≤ t) : workV t = if M256 ≤ t + 1 then 1 else (M256 - 1 - t) / (t + 1) + 1 := by
  have hM := M_big
  unfold workV
  split
  · rfl
  · apply Nat.mod_eq_of_lt
    have h2 : (M256 - 1 - t) / (t + 1) ≤ (M256 - 1 - t) / 2 := Nat.div_le_div_left (by omega) (by omega)
    have h3 : (M256 - 1 - t) / 2 + 1 < M256 := by
      clear h2
      generalize M256 = M at *
      omega
    exact Nat.lt_of_le_of_lt (Nat.add_le_add_right h2 1) h3
theorem work_pos (t : Nat) (ht : t < M256) (h1 : 1 ≤ t) : workV t ≠ 0 := by
  rw [work_form t ht h1]
  split
  · exact Nat.one_ne_zero
  · exact Nat.succ_ne_zero _
theorem work_lt (t : Nat) : workV t < M256 := by
  have hM := M_big
  unfold workV
  split
  · omega
  · exact Nat.mod_lt _ (by omega)
theorem work_mono (p q : Nat) (hq : q < M256) (h1 : 1 ≤ p) (h : p ≤ q) : workV q ≤ workV p := by
  rw [work_form p (by omega) h1, work_form q hq (by omega)]
  split
  · split
    · exact Nat.le_refl _
    · exact Nat.le_add_left 1 _
  · rename_i h2
    rw [if_neg (by omega)]
    exact Nat.add_le_add_right (Nat.div_le_div (by omega) (by omega) (by omega)) 1
theorem cmp_le {a b : Nat} (h : a ≤ b) : decide (cmpI a b ≤ 0) = true := by
  unfold cmpI
  split
  · rfl
  · rw [if_pos (by omega)]; rfl
theorem cmp_nle {a b : Nat} (h : ¬ a ≤ b) : decide (cmpI a b ≤ 0) = false := by
  unfold cmpI; rw [if_neg (by omega), if_neg (by omega)]; rfl
theorem cmp_ge {a b : Nat} (h : b ≤ a) : decide (0 ≤ cmpI a b) = true := by
  unfold cmpI; rw [if_neg (by omega)]; split <;> rfl
theorem wf_u32 {z : Int} (h : (Lit.int .u32 z).wf = true) : 0 ≤ z ∧ z < 4294967296 := by
  simp [Lit.wf, IntKind.min, IntKind.max, IntKind.signed, IntKind.bits] at h
  omega
set_option maxRecDepth 100000 in
set_option maxHeartbeats 8000000 in
theorem walk_long (s : Option Addr) (n c l m : Nat) (w : World) (hn : 30 < n) :
    Calls Tryd.prog 12 #[.slice s n c, .agg #[.int .u32 (l : Int), .int .u32 (m : Int)]] w fun e w' => e = .returned (.bool true) ∧ Below w.heap.size w w' := by
  have HT0 := Lib.hid (fun W => target_any 545259519 W (by omega))
  have hT2 : workV (tgtV 545259519) = 2 := by decide +kernel
  have hT0 : decide (tgtV 545259519 = 0) = false := by decide +kernel
  have HW0 := Lib.hid (fun W => work_any (tgtV 545259519) W (tgtV_lt _))
  rw [hT2] at HW0
  rw [hT0] at HT0
  have HO2 := Lib.hid (fun W => of_any 2 W (by decide))
  have heq2 : ∀ W, (Op.equalIn 10000 34 (nv 2) (nv 2)).run Tryd.prog W = .ok true W := fun W => by
    have h := nv_eql 2 2 (by decide +kernel) (by decide +kernel) W
    rwa [decide_eq_true rfl] at h
  generalize tgtV 545259519 = T0 at *
  clear hT2 hT0
  have hd1 : decide ((30 : Int) < (n : Int)) = true := decide_eq_true (by omega)
  have hd2 : decide (30 < n) = true := decide_eq_true hn
  go_enter Tryd.func12, Tryd.ntmps12
  have hA : Below w.heap.size w (w.alloc (.cells #[.int .u32 (l : Int), .int .u32 (m : Int)] 31)) := (Below.refl _ _).alloc (Nat.le_refl _) _
  have KS : Bk (w.alloc (.cells #[.int .u32 (l : Int), .int .u32 (m : Int)] 31)) w.heap.size 31 #[.int .u32 (l : Int), .int .u32 (m : Int)] := Bk.new _ _ _
  obtain ⟨gs, hgs⟩ : ∃ gs, gs = w.heap.size := ⟨_, rfl⟩
  rw [← hgs] at KS
  go_wp2_with fail
  rw [← hgs]
  have HGS := Lib.hid hgs
  clear hgs
  refine (HT0.out _).mono ?_
  rintro e w1 ⟨rfl, hb1⟩
  have KS := KS.keep hb1
  have hW := Lib.hid (below_step hA (by simp) hb1)
  clear hb1 hA
  go_upto_region 2 with fail
  refine wp_any (fun V => Below w.heap.size w V ∧ Bk V gs 31 #[.int .u32 (l : Int), .int .u32 (m : Int)] ∧ Bk V w1.heap.size 34 (A4 (wd0 T0) (wd1 T0) (wd2 T0) (wd3 T0))) ⟨hW.out.alloc hW.out.size _, KS.alloc _, Bk.new _ _ _⟩ ?_
  have hlo5 := hW.out.size
  clear hW KS
  generalize w1.heap.size = g5 at *
  rintro V ⟨hW, KS, K5⟩
  have hW := Lib.hid hW
  obtain ⟨a0, a1, a2, a3, a4, a5, a6, a7, za⟩ := K5.f4
  go_wp2_with fail
  refine (HW0.out _).mono ?_
  rintro e w2 ⟨rfl, hb2⟩
  have KS := KS.keep hb2
  have hW := Lib.hid (below_step hW.out hW.out.size hb2)
  clear hb2 a0 a1 a2 a3 a4 a5 a6 a7 za K5
  go_wp2_with fail
  refine (HO2.out _).mono ?_
  rintro e w3 ⟨rfl, hb3⟩
  have KS := KS.keep hb3
  have hW := Lib.hid (below_step hW.out hW.out.size hb3)
  clear hb3
  go_wp2_with fail
  go_ret
  exact ⟨rfl, hW.out⟩
set_option maxRecDepth 100000 in
set_option maxHeartbeats 8000000 in
theorem walk_none (s : Option Addr) (n c l m : Nat) (w : World) (hn : ¬ 30 < n) (hl : l < 4294967296) (hm : m < 4294967296) (h : tgtV l = 0 ∨ (tgtV l ≠ 0 ∧ tgtV m = 0)) :
    Calls Tryd.prog 12 #[.slice s n c, .agg #[.int .u32 (l : Int), .int .u32 (m : Int)]] w fun e w' => e = .returned (.bool true) ∧ Below w.heap.size w w' := by
  have HT0 := Lib.hid (fun W => target_any 545259519 W (by omega))
  have hT2 : workV (tgtV 545259519) = 2 := by decide +kernel
  have hT0 : decide (tgtV 545259519 = 0) = false := by decide +kernel
  have HW0 := Lib.hid (fun W => work_any (tgtV 545259519) W (tgtV_lt _))
  rw [hT2] at HW0
  rw [hT0] at HT0
  have HO2 := Lib.hid (fun W => of_any 2 W (by decide))
  have heq2 : ∀ W, (Op.equalIn 10000 34 (nv 2) (nv 2)).run Tryd.prog W = .ok true W := fun W => by
    have h := nv_eql 2 2 (by decide +kernel) (by decide +kernel) W
    rwa [decide_eq_true rfl] at h
  generalize tgtV 545259519 = T0 at *
  clear hT2 hT0
  have hd1 : decide ((30 : Int) < (n : Int)) = false := decide_eq_false (by omega)
  have hd2 : decide (30 < n) = false := decide_eq_false hn
  have HTL := Lib.hid (fun W => target_any l W hl)
  have HTM := Lib.hid (fun W => target_any m W hm)
  generalize tgtV l = a at *
  generalize tgtV m = b at *
  obtain ⟨ba, hba⟩ : ∃ ba, ba = decide (a = 0) := ⟨_, rfl⟩
  obtain ⟨bb, hbb⟩ : ∃ bb, bb = decide (b = 0) := ⟨_, rfl⟩
  rw [← hba] at HTL
  rw [← hbb] at HTM
  have hor : ba = true ∨ (ba = false ∧ bb = true) := by
    rcases h with h | ⟨h1, h2⟩
    · exact .inl (by rw [hba]; exact decide_eq_true h)
    · exact .inr ⟨by rw [hba]; exact decide_eq_false h1, by rw [hbb]; exact decide_eq_true h2⟩
  clear hba hbb h
  rcases hor with rfl | ⟨rfl, rfl⟩
  all_goals
    go_enter Tryd.func12, Tryd.ntmps12
    have hA : Below w.heap.size w (w.alloc (.cells #[.int .u32 (l : Int), .int .u32 (m : Int)] 31)) := (Below.refl _ _).alloc (Nat.le_refl _) _
    have KS : Bk (w.alloc (.cells #[.int .u32 (l : Int), .int .u32 (m : Int)] 31)) w.heap.size 31 #[.int .u32 (l : Int), .int .u32 (m : Int)] := Bk.new _ _ _
    obtain ⟨gs, hgs⟩ : ∃ gs, gs = w.heap.size := ⟨_, rfl⟩
    rw [← hgs] at KS
    go_wp2_with fail
    rw [← hgs]
    have HGS := Lib.hid hgs
    clear hgs
    refine (HT0.out _).mono ?_
    rintro e w1 ⟨rfl, hb1⟩
    have KS := KS.keep hb1
    have hW := Lib.hid (below_step hA (by simp) hb1)
    clear hb1 hA
    go_upto_region 2 with fail
    refine wp_any (fun V => Below w.heap.size w V ∧ Bk V gs 31 #[.int .u32 (l : Int), .int .u32 (m : Int)] ∧ Bk V w1.heap.size 34 (A4 (wd0 T0) (wd1 T0) (wd2 T0) (wd3 T0))) ⟨hW.out.alloc hW.out.size _, KS.alloc _, Bk.new _ _ _⟩ ?_
    have hlo5 := hW.out.size
    clear hW KS
    generalize w1.heap.size = g5 at *
    rintro V ⟨hW, KS, K5⟩
    have hW := Lib.hid hW
    obtain ⟨a0, a1, a2, a3, a4, a5, a6, a7, za⟩ := K5.f4
    go_wp2_with fail
    refine (HW0.out _).mono ?_
    rintro e w2 ⟨rfl, hb2⟩
    have KS := KS.keep hb2
    have hW := Lib.hid (below_step hW.out hW.out.size hb2)
    clear hb2 a0 a1 a2 a3 a4 a5 a6 a7 za K5
    go_wp2_with fail
    refine (HO2.out _).mono ?_
    rintro e w3 ⟨rfl, hb3⟩
    have KS := KS.keep hb3
    have hW := Lib.hid (below_step hW.out hW.out.size hb3)
    clear hb3
    have c0 := KS.cell 0
    have c1 := KS.cell 1
    have zs := KS.lt
    go_wp2_with fail
    refine (HTL.out _).mono ?_
    rintro e w4 ⟨rfl, hb4⟩
    have KS := KS.keep hb4
    have hW := Lib.hid (below_step hW.out hW.out.size hb4)
    clear hb4 c0 c1 zs
    go_upto_region 7 with fail
    refine wp_any (fun V => Below w.heap.size w V ∧ Bk V gs 31 #[.int .u32 (l : Int), .int .u32 (m : Int)] ∧ Bk V w4.heap.size 34 (A4 (wd0 a) (wd1 a) (wd2 a) (wd3 a))) ⟨hW.out.alloc hW.out.size _, KS.alloc _, Bk.new _ _ _⟩ ?_
    have hlo7 := hW.out.size
    clear hW KS
    generalize w4.heap.size = g7 at *
    rintro V ⟨hW, KS, K7⟩
    have hW := Lib.hid hW
    have c0 := KS.cell 0
    have c1 := KS.cell 1
    have zs := KS.lt
    go_wp2_with fail
    refine (HTM.out _).mono ?_
    rintro e w5 ⟨rfl, hb5⟩
    have KS := KS.keep hb5
    have K7 := K7.keep hb5
    have hW := Lib.hid (below_step hW.out hW.out.size hb5)
    clear hb5 c0 c1 zs
    have z7 := K7.lt
    go_upto_region 8 with fail
    refine wp_any (fun V => Below w.heap.size w V ∧ Bk V gs 31 #[.int .u32 (l : Int), .int .u32 (m : Int)] ∧ Bk V g7 34 (A4 (wd0 a) (wd1 a) (wd2 a) (wd3 a)) ∧ Bk V w5.heap.size 34 (A4 (wd0 b) (wd1 b) (wd2 b) (wd3 b))) ⟨hW.out.alloc hW.out.size _, KS.alloc _, K7.alloc _, Bk.new _ _ _⟩ ?_
    have hlo9 := hW.out.size
    clear hW KS K7
    generalize w5.heap.size = g9 at *
    rintro V ⟨hW, KS, K7, K9⟩
    have hW := Lib.hid hW
    go_wp2_with fail
    go_ret
    exact ⟨rfl, hW.out⟩
set_option maxRecDepth 100000 in
set_option maxHeartbeats 8000000 in
theorem walk_inn (L : List (List Nat)) (s : Option Addr) (c l m : Nat) (w : World) (hL : Laid w) (hv : IdsV w w.heap.size (.slice s L.length c) L) (hn : ¬ 30 < L.length) (hl : l < 4294967296) (hm : m < 4294967296) (h1 : tgtV l ≠ 0) (h2 : tgtV m ≠ 0) :
    Calls Tryd.prog 12 #[.slice s L.length c, .agg #[.int .u32 (l : Int), .int .u32 (m : Int)]] w fun e w' => e = .returned (.bool true) ∧ Below w.heap.size w w' := by
  have HT0 := Lib.hid (fun W => target_any 545259519 W (by omega))
  have hT2 : workV (tgtV 545259519) = 2 := by decide +kernel
  have hT0 : decide (tgtV 545259519 = 0) = false := by decide +kernel
  have HW0 := Lib.hid (fun W => work_any (tgtV 545259519) W (tgtV_lt _))
  rw [hT2] at HW0
  rw [hT0] at HT0
  have HO2 := Lib.hid (fun W => of_any 2 W (by decide))
  have heq2 : ∀ W, (Op.equalIn 10000 34 (nv 2) (nv 2)).run Tryd.prog W = .ok true W := fun W => by
    have h := nv_eql 2 2 (by decide +kernel) (by decide +kernel) W
    rwa [decide_eq_true rfl] at h
  generalize tgtV 545259519 = T0 at *
  clear hT2 hT0
  have HL := Lib.hid hL
  have HV := Lib.hid hv
  have hids := hv.ids
  have hrid := rootV_id L hids
  have HROOT := Lib.hid (fun W (hw : Laid W) (hb : IdsV W W.heap.size (.slice s L.length c) L) => root_any _ L W hw hb (by omega))
  have HTL := Lib.hid (fun W => target_any l W hl)
  have HTM := Lib.hid (fun W => target_any m W hm)
  rw [decide_eq_false h1] at HTL
  rw [decide_eq_false h2] at HTM
  have ha := tgtV_lt l
  have hb := tgtV_lt m
  have HCAB := Lib.hid (fun W => cmp_any (tgtV l) (tgtV m) W ha hb)
  generalize tgtV l = a at *
  generalize tgtV m = b at *
  have HA := Lib.hid ha
  have HBm := Lib.hid hb
  have HIDS := Lib.hid hids
  have HRID := Lib.hid hrid
  obtain ⟨n, hnn⟩ : ∃ n, n = L.length := ⟨_, rfl⟩
  have HN := Lib.hid hnn
  rw [← hnn] at hn HROOT HV ⊢
  have hd1 : decide ((30 : Int) < (n : Int)) = false := decide_eq_false (by omega)
  have hd2 : decide (30 < n) = false := decide_eq_false hn
  clear hL hv hids hrid ha hb hnn
  by_cases hab : b < a
  · have hz := cmp_gt hab
    have HAB : Hid (b ≤ a) := Nat.le_of_lt hab
    have H1 : Hid (1 ≤ b) := (show 1 ≤ b by omega)
    generalize cmpI a b = zab at *
    clear hab h1 h2
    go_enter Tryd.func12, Tryd.ntmps12
    have hA : Below w.heap.size w (w.alloc (.cells #[.int .u32 (l : Int), .int .u32 (m : Int)] 31)) := (Below.refl _ _).alloc (Nat.le_refl _) _
    have KS : Bk (w.alloc (.cells #[.int .u32 (l : Int), .int .u32 (m : Int)] 31)) w.heap.size 31 #[.int .u32 (l : Int), .int .u32 (m : Int)] := Bk.new _ _ _
    obtain ⟨gs, hgs⟩ : ∃ gs, gs = w.heap.size := ⟨_, rfl⟩
    rw [← hgs] at KS
    go_wp2_with fail
    rw [← hgs]
    have HGS := Lib.hid hgs
    clear hgs
    refine (HT0.out _).mono ?_
    rintro e w1 ⟨rfl, hb1⟩
    have KS := KS.keep hb1
    have hW := Lib.hid (below_step hA (by simp) hb1)
    clear hb1 hA
    go_upto_region 2 with fail
    refine wp_any (fun V => Below w.heap.size w V ∧ Bk V gs 31 #[.int .u32 (l : Int), .int .u32 (m : Int)] ∧ Bk V w1.heap.size 34 (A4 (wd0 T0) (wd1 T0) (wd2 T0) (wd3 T0))) ⟨hW.out.alloc hW.out.size _, KS.alloc _, Bk.new _ _ _⟩ ?_
    have hlo5 := hW.out.size
    clear hW KS
    generalize w1.heap.size = g5 at *
    rintro V ⟨hW, KS, K5⟩
    have hW := Lib.hid hW
    obtain ⟨a0, a1, a2, a3, a4, a5, a6, a7, za⟩ := K5.f4
    go_wp2_with fail
    refine (HW0.out _).mono ?_
    rintro e w2 ⟨rfl, hb2⟩
    have KS := KS.keep hb2
    have hW := Lib.hid (below_step hW.out hW.out.size hb2)
    clear hb2 a0 a1 a2 a3 a4 a5 a6 a7 za K5
    go_wp2_with fail
    refine (HO2.out _).mono ?_
    rintro e w3 ⟨rfl, hb3⟩
    have KS := KS.keep hb3
    have hW := Lib.hid (below_step hW.out hW.out.size hb3)
    clear hb3
    have c0 := KS.cell 0
    have c1 := KS.cell 1
    have zs := KS.lt
    go_wp2_with fail
    refine (HTL.out _).mono ?_
    rintro e w4 ⟨rfl, hb4⟩
    have KS := KS.keep hb4
    have hW := Lib.hid (below_step hW.out hW.out.size hb4)
    clear hb4 c0 c1 zs
    go_upto_region 7 with fail
    refine wp_any (fun V => Below w.heap.size w V ∧ Bk V gs 31 #[.int .u32 (l : Int), .int .u32 (m : Int)] ∧ Bk V w4.heap.size 34 (A4 (wd0 a) (wd1 a) (wd2 a) (wd3 a))) ⟨hW.out.alloc hW.out.size _, KS.alloc _, Bk.new _ _ _⟩ ?_
    have hlo7 := hW.out.size
    clear hW KS
    generalize w4.heap.size = g7 at *
    rintro V ⟨hW, KS, K7⟩
    have hW := Lib.hid hW
    have c0 := KS.cell 0
    have c1 := KS.cell 1
    have zs := KS.lt
    go_wp2_with fail
    refine (HTM.out _).mono ?_
    rintro e w5 ⟨rfl, hb5⟩
    have KS := KS.keep hb5
    have K7 := K7.keep hb5
    have hW := Lib.hid (below_step hW.out hW.out.size hb5)
    clear hb5 c0 c1 zs
    have z7 := K7.lt
    go_upto_region 8 with fail
    refine wp_any (fun V => Below w.heap.size w V ∧ Bk V gs 31 #[.int .u32 (l : Int), .int .u32 (m : Int)] ∧ Bk V g7 34 (A4 (wd0 a) (wd1 a) (wd2 a) (wd3 a)) ∧ Bk V w5.heap.size 34 (A4 (wd0 b) (wd1 b) (wd2 b) (wd3 b))) ⟨hW.out.alloc hW.out.size _, KS.alloc _, K7.alloc _, Bk.new _ _ _⟩ ?_
    have hlo9 := hW.out.size
    clear hW KS K7
    generalize w5.heap.size = g9 at *
    rintro V ⟨hW, KS, K7, K9⟩
    have hW := Lib.hid hW
    go_upto_region 10 with fail
    obtain ⟨a0, a1, a2, a3, a4, a5, a6, a7, za⟩ := K7.f4
    obtain ⟨b0, b1, b2, b3, b4, b5, b6, b7, zb⟩ := K9.f4
    go_wp2_with fail
    refine (HCAB.out _).mono ?_
    rintro e w6 ⟨rfl, hb6⟩
    have hW := Lib.hid (below_step hW.out hW.out.size hb6)
    have K7 := K7.keep hb6
    have K9 := K9.keep hb6
    clear hb6 a0 a1 a2 a3 a4 a5 a6 a7 za b0 b1 b2 b3 b4 b5 b6 b7 zb KS
    obtain ⟨a0, a1, a2, a3, a4, a5, a6, a7, za⟩ := K7.f4
    obtain ⟨b0, b1, b2, b3, b4, b5, b6, b7, zb⟩ := K9.f4
    have hne : g7 ≠ g9 := by omega
    have hgw0 : w.heap.size ≤ g7 ∧ w.heap.size ≤ g9 := ⟨hlo7, hlo9⟩
    go_upto_region 12 with fail
    have hW6 := hW.out.size
    have zb6 := K9.lt
    have za6 := K7.lt
    have HW6 := hW
    clear hW
    refine wp_any (fun V => Below w.heap.size w V ∧ Bk V g7 34 (A4 (wd0 b) (wd1 b) (wd2 b) (wd3 b)) ∧ Bk V g9 34 (A4 (wd0 a) (wd1 a) (wd2 a) (wd3 a))) ⟨Below.set4 (Below.set4 HW6.out (by omega) _ _ _ _) (by omega) _ _ _ _, (K7.set4 _ _ _ _).far4 hne _ _ _ _, (K9.far4 (Ne.symm hne) _ _ _ _).set4 _ _ _ _⟩ ?_
    clear K7 K9 HW6
    rintro V ⟨hW, K7, K9⟩
    have hW := Lib.hid hW
    have HCP := Lib.hid (fun x W (hx : x < M256) => cmp_any x b W hx HBm.out)
    have HCQ := Lib.hid (fun x W (hx : x < M256) => cmp_any x a W hx HA.out)
    have HRT := Lib.hid (HROOT.out V (HL.out.below hW.out HL.out.size) ((HV.out.keep hW.out (Nat.le_refl _)).mono hW.out.size))
    obtain ⟨r, hr⟩ : ∃ r, r = (rootV L).1 := ⟨_, rfl⟩
    obtain ⟨tw, htw⟩ : ∃ tw, tw = (rootV L).2 := ⟨_, rfl⟩
    rw [← hr, ← htw] at HRT
    have HRI : Hid (IsId r) := by rw [hr]; exact HRID.out
    have hrl := HRI.out.1
    clear hr htw HROOT
    change Hid (Calls _ _ _ _ fun e w' => e = .returned (.tuple #[.agg (idA r), .bool tw]) ∧ _) at HRT
    go_wp2_with fail
    refine HRT.out.mono ?_
    rintro e w7 ⟨rfl, hb7⟩
    have hW := Lib.hid (below_step hW.out hW.out.size hb7)
    have K7 := K7.keep hb7
    have K9 := K9.keep hb7
    clear hb7 HRT
    have z7 := K7.lt
    have z9 := K9.lt
    have N7 := Bk.new w7 24 (idA (zeros 32))
    go_upto_region 13 with (refine wpList_store_mid rfl 24 (.tmp 11) (.tmp 60) rfl w7.heap.size 0 (idA r) rfl rfl (by rw [idA_size, hrl]; exact N7.there 32 (by rw [idA_size]; decide)) (by rw [idA_size, hrl]; exact id_info') (id_ones _) ?_)
    refine wp_any (fun V => Below w.heap.size w V ∧ Bk V g7 34 (A4 (wd0 b) (wd1 b) (wd2 b) (wd3 b)) ∧ Bk V g9 34 (A4 (wd0 a) (wd1 a) (wd2 a) (wd3 a)) ∧ Bk V w7.heap.size 24 (idA r)) ⟨Below.setCells hW.out.size _ _ _ (hW.out.alloc hW.out.size _), rowFar (K7.alloc _) (by omega) _ _, rowFar (K9.alloc _) (by omega) _ _, N7.setAll (by rw [idA_size, idA_size, hrl]; rfl)⟩ ?_
    clear hW K7 K9 N7
    generalize w7.heap.size = g11 at *
    rintro V ⟨hW, K7, K9, K11⟩
    have hW := Lib.hid hW
    have BL := (HV.out.keep hW.out (Nat.le_refl _)).mono hW.out.size
    go_upto_region 14 with fail
    refine region14 g11 n c s V L r HN.out (by omega) HRI.out K11 BL _ _ _ _ _ _ _ _ _ _ _ _ _ _ _ _ _ _ _ _ _ _ _ _ _ _ _ _ _ _ _ _ _ _ _ _ _ _ _ _ _ _ _ _ _ _ _ _ _ _ _ _ _ _ _ _ _ _ _ _ _ _ _ _ _ _ _ _ _ _ _ _ _ _ _ _ _ _ _ _ _ _ _ _ _ _ _ _ _ _ _ _ _ _ _ _ _ _ _ _ _ _ _ _ _ (fun x62 x63 x64 x65 x66 s7 c7 wc hbc HI => ?_)
    have K7 := K7.keep hbc
    have K9 := K9.keep hbc
    have hW := Lib.hid (below_step hW.out hW.out.size hbc)
    obtain ⟨LL, hLL⟩ : ∃ LL, LL = L ++ [r] := ⟨_, rfl⟩
    have HLI : Hid (IsIds LL) := by rw [hLL]; exact HIDS.out.app (IsIds.one HRI.out)
    obtain ⟨N1, hN1⟩ : ∃ N1, N1 = n + 1 := ⟨_, rfl⟩
    have HLN : Hid (LL.length = N1) := by show _ = _; rw [hLL, List.length_append, ← HN.out, hN1]; rfl
    have eN : ((n : Int) + 1) = (N1 : Int) := by omega
    rw [← hLL, ← hN1] at HI
    rw [← hN1, eN]
    have hN30 : N1 ≤ 31 := by omega
    have h7c := K7.lt
    have h9c := K9.lt
    obtain ⟨gw, hgw⟩ : ∃ gw, gw = wc.heap.size := ⟨_, rfl⟩
    rw [← hgw] at HI h7c h9c
    have hgw2 : gw ≤ wc.heap.size := by omega
    have HI := Lib.hid HI
    clear hbc BL hLL hN1 eN K11 hgw HV
    go_wp2_with fail
    go_loopw [13, 14, 69] (fun ma mb i wr => ∃ j x y : Nat, j ≤ N1 ∧ i = .int .i64 j ∧ ma = .int .i64 x ∧ mb = .int .i64 y ∧ x ≤ y ∧ y ≤ j ∧ Hid (Below w.heap.size w wr) ∧ Bk wr g7 34 (A4 (wd0 b) (wd1 b) (wd2 b) (wd3 b)) ∧ Bk wr g9 34 (A4 (wd0 a) (wd1 a) (wd2 a) (wd3 a)) ∧ gw ≤ wr.heap.size ∧ Hid (IdsV wr gw (.slice s7 N1 c7) LL)) (fun _ _ i _ => N1 - (intOf i).toNat)
    case atStart => exact ⟨0, 0, 0, Nat.zero_le _, rfl, rfl, rfl, Nat.le_refl _, Nat.le_refl _, hW.out, K7, K9, hgw2, HI.out⟩
    case round =>
      obtain ⟨j, x, y, hj, rfl, rfl, rfl, hxy, hyj, hB, K7, K9, hgwr, HIr⟩ := hrel
      clear hW hgw2 HI
      by_cases hlt : j < N1
      · have hdj : decide ((j : Int) < (N1 : Int)) = true := decide_eq_true (by omega)
        have hjn : (j : Int) < (N1 : Int) := by omega
        obtain ⟨b0, o0, e0, hbl, hdead, hrange⟩ := HIr.out.at_ (by intro h; have := HLN.out; rw [h] at this; simp at this; omega)
        subst e0
        clear hdead
        have hrx := hrange j _ (nthI_get (by rw [HLN.out]; exact hlt))
        have HXI := Lib.hid (nthI_id HLI.out (i := j) (by rw [HLN.out]; exact hlt))
        obtain ⟨ix, hix⟩ : ∃ ix, ix = nthI LL j := ⟨_, rfl⟩
        rw [← hix] at hrx HXI
        have hxl := HXI.out.1
        have HF := Lib.hid (fun W => fromID_any ix hxl HXI.out.2 W)
        change Hid (∀ W, Calls Tryd.prog _ #[.agg (idA ix)] W _) at HF
        have hvM : ofL ix < M256 := ofL_id hxl HXI.out.2
        have HC1 := Lib.hid (fun W => HCP.out (ofL ix) W hvM)
        have HC2 := Lib.hid (fun W => HCQ.out (ofL ix) W hvM)
        have hc1t := @cmp_le (ofL ix) b
        have hc1f := @cmp_nle (ofL ix) b
        have hc2t := @cmp_le (ofL ix) a
        have hc2f := @cmp_nle (ofL ix) a
        generalize cmpI (ofL ix) b = z1 at *
        generalize cmpI (ofL ix) a = z2 at *
        generalize ofL ix = v at *
        have HT1 := Lib.hid hc1t
        have HF1 := Lib.hid hc1f
        have HT2 := Lib.hid hc2t
        have HF2 := Lib.hid hc2f
        clear hrange hix hvM hc1t hc1f hc2t hc2f
        have N8 := Bk.new wr 24 (idA (zeros 32))
        have zr7 := K7.lt
        have zr9 := K9.lt
        go_upto_region 17 with (first
          | (refine wpList_load_mid rfl 24 (.tmp 71) rfl b0 (o0 + j * 32) rfl (idA ix).toList _ hrx Tryd.underlying24 rfl (by rw [Array.length_toList, idA_size, hxl]; exact id_info') ?_)
          | (refine wpList_store_mid rfl 24 (.tmp 16) (.tmp 72) rfl wr.heap.size 0 (idA ix) rfl rfl (by rw [idA_size, hxl]; exact N8.there 32 (by rw [idA_size]; decide)) (by rw [idA_size, hxl]; exact id_info') (id_ones _) ?_))
        have hst := Below.setCells (Nat.le_refl _) (idA ix).toList 0 _ ((Below.refl wr.heap.size wr).alloc (Nat.le_refl _) (.cells (idA (zeros 32)) 24))
        refine wp_any (fun V => Below wr.heap.size wr V ∧ Bk V wr.heap.size 24 (idA ix)) ⟨hst, N8.setAll (by rw [idA_size, idA_size, hxl]; rfl)⟩ ?_
        clear hst N8
        rintro V ⟨hV, K16⟩
        go_wp2_with (refine wpList_load_mid rfl 24 (.tmp 16) rfl wr.heap.size 0 rfl (idA ix).toList _ K16.range0 Tryd.underlying24 rfl (by rw [Array.length_toList, idA_size, hxl]; exact id_info') ?_)
        refine (HF.out _).mono ?_
        rintro e w8 ⟨rfl, hb8⟩
        have hV := below_step hV hV.size hb8
        clear hb8 K16
        go_upto_region 18 with fail
        refine wp_any (fun V => Below wr.heap.size wr V ∧ Bk V w8.heap.size 34 (A4 (wd0 v) (wd1 v) (wd2 v) (wd3 v))) ⟨hV.alloc hV.size _, Bk.new _ _ _⟩ ?_
        have h8 := hV.size
        clear hV
        generalize w8.heap.size = g17 at *
        rintro V ⟨hV, K17⟩
        have HVV := Lib.hid hV
        have K7v := K7.keep hV
        have K9v := K9.keep hV
        obtain ⟨a0, a1, a2, a3, a4, a5, a6, a7, za⟩ := K7v.f4
        obtain ⟨q0, q1, q2, q3, q4, q5, q6, q7, zq⟩ := K17.f4
        clear hV
        have hpq := HAB.out
        by_cases hvp : v ≤ b
        · have d1 := HT1.out hvp
          have d2 := HT2.out (Nat.le_trans hvp hpq)
          clear hpq hvp
          go_wp2_with fail
          refine (HC1.out _).mono ?_
          rintro e w9 ⟨rfl, hb9⟩
          have K17 := K17.keep hb9
          have K9v := K9v.keep hb9
          have HVV := Lib.hid (below_step HVV.out HVV.out.size hb9)
          clear hb9 a0 a1 a2 a3 a4 a5 a6 a7 za q0 q1 q2 q3 q4 q5 q6 q7 zq K7v
          obtain ⟨a0, a1, a2, a3, a4, a5, a6, a7, za⟩ := K9v.f4
          obtain ⟨q0, q1, q2, q3, q4, q5, q6, q7, zq⟩ := K17.f4
          go_wp2_with fail
          refine (HC2.out _).mono ?_
          rintro e w10 ⟨rfl, hb10⟩
          have HVV := Lib.hid (below_step HVV.out HVV.out.size hb10)
          have K7z := K7.keep HVV.out
          have K9z := K9.keep HVV.out
          have HIz := Lib.hid (HIr.out.keep HVV.out hgwr)
          have hBz := Lib.hid (hB.out.trans (HVV.out.mono hB.out.size))
          have hgz : gw ≤ w10.heap.size := Nat.le_trans hgwr HVV.out.size
          clear hb10 a0 a1 a2 a3 a4 a5 a6 a7 za q0 q1 q2 q3 q4 q5 q6 q7 zq K9v K17
          go_wp2_with fail
          have hj1 : Value.int .i64 ((j : Int) + 1) = .int .i64 ((j + 1 : Nat) : Int) := by go_num
          have hx1 : Value.int .i64 ((x : Int) + 1) = .int .i64 ((x + 1 : Nat) : Int) := by go_num
          have hy1 : Value.int .i64 ((y : Int) + 1) = .int .i64 ((y + 1 : Nat) : Int) := by go_num
          go_roundw
          have hrelz : x + 1 ≤ y + 1 ∧ y + 1 ≤ j + 1 ∧ j + 1 ≤ N1 := by omega
          case rel => exact ⟨j + 1, x + 1, y + 1, hrelz.2.2, hj1, hx1, hy1, hrelz.1, hrelz.2.1, hBz.out, K7z, K9z, hgz, HIz.out⟩
          case measure => simp [intOf]; omega
        · have d1 := HF1.out hvp
          by_cases hvq : v ≤ a
          · have d2 := HT2.out hvq
            clear hpq hvp hvq
            go_wp2_with fail
            refine (HC1.out _).mono ?_
            rintro e w9 ⟨rfl, hb9⟩
            have K17 := K17.keep hb9
            have K9v := K9v.keep hb9
            have HVV := Lib.hid (below_step HVV.out HVV.out.size hb9)
            clear hb9 a0 a1 a2 a3 a4 a5 a6 a7 za q0 q1 q2 q3 q4 q5 q6 q7 zq K7v
            obtain ⟨a0, a1, a2, a3, a4, a5, a6, a7, za⟩ := K9v.f4
            obtain ⟨q0, q1, q2, q3, q4, q5, q6, q7, zq⟩ := K17.f4
            go_wp2_with fail
            refine (HC2.out _).mono ?_
            rintro e w10 ⟨rfl, hb10⟩
            have HVV := Lib.hid (below_step HVV.out HVV.out.size hb10)
            have K7z := K7.keep HVV.out
            have K9z := K9.keep HVV.out
            have HIz := Lib.hid (HIr.out.keep HVV.out hgwr)
            have hBz := Lib.hid (hB.out.trans (HVV.out.mono hB.out.size))
            have hgz : gw ≤ w10.heap.size := Nat.le_trans hgwr HVV.out.size
            clear hb10 a0 a1 a2 a3 a4 a5 a6 a7 za q0 q1 q2 q3 q4 q5 q6 q7 zq K9v K17
            go_wp2_with fail
            have hj1 : Value.int .i64 ((j : Int) + 1) = .int .i64 ((j + 1 : Nat) : Int) := by go_num
            have hy1 : Value.int .i64 ((y : Int) + 1) = .int .i64 ((y + 1 : Nat) : Int) := by go_num
            go_roundw
            have hrelz : x ≤ y + 1 ∧ y + 1 ≤ j + 1 ∧ j + 1 ≤ N1 := by omega
            case rel => exact ⟨j + 1, x, y + 1, hrelz.2.2, hj1, rfl, hy1, hrelz.1, hrelz.2.1, hBz.out, K7z, K9z, hgz, HIz.out⟩
            case measure => simp [intOf]; omega
          · have d2 := HF2.out hvq
            clear hpq hvp hvq
            go_wp2_with fail
            refine (HC1.out _).mono ?_
            rintro e w9 ⟨rfl, hb9⟩
            have K17 := K17.keep hb9
            have K9v := K9v.keep hb9
            have HVV := Lib.hid (below_step HVV.out HVV.out.size hb9)
            clear hb9 a0 a1 a2 a3 a4 a5 a6 a7 za q0 q1 q2 q3 q4 q5 q6 q7 zq K7v
            obtain ⟨a0, a1, a2, a3, a4, a5, a6, a7, za⟩ := K9v.f4
            obtain ⟨q0, q1, q2, q3, q4, q5, q6, q7, zq⟩ := K17.f4
            go_wp2_with fail
            refine (HC2.out _).mono ?_
            rintro e w10 ⟨rfl, hb10⟩
            have HVV := Lib.hid (below_step HVV.out HVV.out.size hb10)
            have K7z := K7.keep HVV.out
            have K9z := K9.keep HVV.out
            have HIz := Lib.hid (HIr.out.keep HVV.out hgwr)
            have hBz := Lib.hid (hB.out.trans (HVV.out.mono hB.out.size))
            have hgz : gw ≤ w10.heap.size := Nat.le_trans hgwr HVV.out.size
            clear hb10 a0 a1 a2 a3 a4 a5 a6 a7 za q0 q1 q2 q3 q4 q5 q6 q7 zq K9v K17
            go_wp2_with fail
            have hj1 : Value.int .i64 ((j : Int) + 1) = .int .i64 ((j + 1 : Nat) : Int) := by go_num
            go_roundw
            have hrelz : x ≤ y ∧ y ≤ j + 1 ∧ j + 1 ≤ N1 := by omega
            case rel => exact ⟨j + 1, x, y, hrelz.2.2, hj1, rfl, rfl, hrelz.1, hrelz.2.1, hBz.out, K7z, K9z, hgz, HIz.out⟩
            case measure => simp [intOf]; omega
      · have hjN : j = N1 := by omega
        have hdj : decide ((j : Int) < (N1 : Int)) = false := decide_eq_false (by omega)
        have HWA := Lib.hid (fun W => work_any b W HBm.out)
        have HWB := Lib.hid (fun W => work_any a W HA.out)
        have hm := work_mono b a HA.out H1.out HAB.out
        have hp0 := work_pos b HBm.out H1.out
        have HC1 := Lib.hid (fun W => cmp_any (workV b) (workV a) W (work_lt _) (work_lt _))
        have HC2 := Lib.hid (fun W => cmp_any (workV b) 0 W (work_lt _) M256_pos')
        have hz1 := cmp_ge hm
        have hz2 := cmp_gt (a := workV b) (b := 0) (by omega)
        have e0 : nv 0 = .agg #[.int .u64 0, .int .u64 0, .int .u64 0, .int .u64 0] := by rw [nv_small 0 B64_pos]; rfl
        rw [e0] at HC2
        generalize cmpI (workV b) (workV a) = z1 at *
        generalize cmpI (workV b) 0 = z2 at *
        generalize workV b = wa at *
        generalize workV a = wb at *
        clear hm hp0 e0 hjN
        go_upto_region 23 with fail
        refine region23 g7 g9 b a wa wb x y z1 z2 wr K7 K9 hxy hz1 hz2 HWA HWB HC1 HC2 _ _ _ _ _ _ _ _ _ _ _ _ _ _ _ _ _ _ _ _ _ _ _ _ _ _ _ _ _ _ _ _ _ _ _ _ _ _ _ _ _ _ _ _ _ _ _ _ _ _ _ _ _ _ _ _ _ _ _ _ _ _ _ _ _ _ _ _ _ _ _ _ _ _ _ _ _ _ _ _ _ _ _ _ _ _ _ _ _ _ _ _ _ _ _ _ _ _ _ _ _ _ _ (fun y88 y89 y90 y91 y92 y93 y94 y95 y96 y97 y98 y99 y100 y101 y102 y103 y104 wd hbd => ?_)
        have hW := Lib.hid (below_step hB.out hB.out.size hbd)
        go_wp2_with fail
        go_ret
        exact ⟨rfl, hW.out⟩
  · have hz := cmp_ngt hab
    have HAB : Hid (a ≤ b) := (show a ≤ b by omega)
    have H1 : Hid (1 ≤ a) := (show 1 ≤ a by omega)
    generalize cmpI a b = zab at *
    clear hab h1 h2
    go_enter Tryd.func12, Tryd.ntmps12
    have hA : Below w.heap.size w (w.alloc (.cells #[.int .u32 (l : Int), .int .u32 (m : Int)] 31)) := (Below.refl _ _).alloc (Nat.le_refl _) _
    have KS : Bk (w.alloc (.cells #[.int .u32 (l : Int), .int .u32 (m : Int)] 31)) w.heap.size 31 #[.int .u32 (l : Int), .int .u32 (m : Int)] := Bk.new _ _ _
    obtain ⟨gs, hgs⟩ : ∃ gs, gs = w.heap.size := ⟨_, rfl⟩
    rw [← hgs] at KS
    go_wp2_with fail
    rw [← hgs]
    have HGS := Lib.hid hgs
    clear hgs
    refine (HT0.out _).mono ?_
    rintro e w1 ⟨rfl, hb1⟩
    have KS := KS.keep hb1
    have hW := Lib.hid (below_step hA (by simp) hb1)
    clear hb1 hA
    go_upto_region 2 with fail
    refine wp_any (fun V => Below w.heap.size w V ∧ Bk V gs 31 #[.int .u32 (l : Int), .int .u32 (m : Int)] ∧ Bk V w1.heap.size 34 (A4 (wd0 T0) (wd1 T0) (wd2 T0) (wd3 T0))) ⟨hW.out.alloc hW.out.size _, KS.alloc _, Bk.new _ _ _⟩ ?_
    have hlo5 := hW.out.size
    clear hW KS
    generalize w1.heap.size = g5 at *
    rintro V ⟨hW, KS, K5⟩
    have hW := Lib.hid hW
    obtain ⟨a0, a1, a2, a3, a4, a5, a6, a7, za⟩ := K5.f4
    go_wp2_with fail
    refine (HW0.out _).mono ?_
    rintro e w2 ⟨rfl, hb2⟩
    have KS := KS.keep hb2
    have hW := Lib.hid (below_step hW.out hW.out.size hb2)
    clear hb2 a0 a1 a2 a3 a4 a5 a6 a7 za K5
    go_wp2_with fail
    refine (HO2.out _).mono ?_
    rintro e w3 ⟨rfl, hb3⟩
    have KS := KS.keep hb3
    have hW := Lib.hid (below_step hW.out hW.out.size hb3)
    clear hb3
    have c0 := KS.cell 0
    have c1 := KS.cell 1
    have zs := KS.lt
    go_wp2_with fail
    refine (HTL.out _).mono ?_
    rintro e w4 ⟨rfl, hb4⟩
    have KS := KS.keep hb4
    have hW := Lib.hid (below_step hW.out hW.out.size hb4)
    clear hb4 c0 c1 zs
    go_upto_region 7 with fail
    refine wp_any (fun V => Below w.heap.size w V ∧ Bk V gs 31 #[.int .u32 (l : Int), .int .u32 (m : Int)] ∧ Bk V w4.heap.size 34 (A4 (wd0 a) (wd1 a) (wd2 a) (wd3 a))) ⟨hW.out.alloc hW.out.size _, KS.alloc _, Bk.new _ _ _⟩ ?_
    have hlo7 := hW.out.size
    clear hW KS
    generalize w4.heap.size = g7 at *
    rintro V ⟨hW, KS, K7⟩
    have hW := Lib.hid hW
    have c0 := KS.cell 0
    have c1 := KS.cell 1
    have zs := KS.lt
    go_wp2_with fail
    refine (HTM.out _).mono ?_
    rintro e w5 ⟨rfl, hb5⟩
    have KS := KS.keep hb5
    have K7 := K7.keep hb5
    have hW := Lib.hid (below_step hW.out hW.out.size hb5)
    clear hb5 c0 c1 zs
    have z7 := K7.lt
    go_upto_region 8 with fail
    refine wp_any (fun V => Below w.heap.size w V ∧ Bk V gs 31 #[.int .u32 (l : Int), .int .u32 (m : Int)] ∧ Bk V g7 34 (A4 (wd0 a) (wd1 a) (wd2 a) (wd3 a)) ∧ Bk V w5.heap.size 34 (A4 (wd0 b) (wd1 b) (wd2 b) (wd3 b))) ⟨hW.out.alloc hW.out.size _, KS.alloc _, K7.alloc _, Bk.new _ _ _⟩ ?_
    have hlo9 := hW.out.size
    clear hW KS K7
    generalize w5.heap.size = g9 at *
    rintro V ⟨hW, KS, K7, K9⟩
    have hW := Lib.hid hW
    go_upto_region 10 with fail
    obtain ⟨a0, a1, a2, a3, a4, a5, a6, a7, za⟩ := K7.f4
    obtain ⟨b0, b1, b2, b3, b4, b5, b6, b7, zb⟩ := K9.f4
    go_upto_region 12 with fail
    refine (HCAB.out _).mono ?_
    rintro e w6 ⟨rfl, hb6⟩
    have hW := Lib.hid (below_step hW.out hW.out.size hb6)
    have K7 := K7.keep hb6
    have K9 := K9.keep hb6
    clear hb6 a0 a1 a2 a3 a4 a5 a6 a7 za b0 b1 b2 b3 b4 b5 b6 b7 zb KS
    go_upto_region 12 with fail
    have hW6 := hW.out.size
    have zb6 := K9.lt
    have za6 := K7.lt
    refine wp_any (fun V => Below w.heap.size w V ∧ Bk V g7 34 (A4 (wd0 a) (wd1 a) (wd2 a) (wd3 a)) ∧ Bk V g9 34 (A4 (wd0 b) (wd1 b) (wd2 b) (wd3 b))) ⟨hW.out, K7, K9⟩ ?_
    clear hW K7 K9
    rintro V ⟨hW, K7, K9⟩
    have hW := Lib.hid hW
    have HCP := Lib.hid (fun x W (hx : x < M256) => cmp_any x a W hx HA.out)
    have HCQ := Lib.hid (fun x W (hx : x < M256) => cmp_any x b W hx HBm.out)
    have HRT := Lib.hid (HROOT.out V (HL.out.below hW.out HL.out.size) ((HV.out.keep hW.out (Nat.le_refl _)).mono hW.out.size))
    obtain ⟨r, hr⟩ : ∃ r, r = (rootV L).1 := ⟨_, rfl⟩
    obtain ⟨tw, htw⟩ : ∃ tw, tw = (rootV L).2 := ⟨_, rfl⟩
    rw [← hr, ← htw] at HRT
    have HRI : Hid (IsId r) := by rw [hr]; exact HRID.out
    have hrl := HRI.out.1
    clear hr htw HROOT
    change Hid (Calls _ _ _ _ fun e w' => e = .returned (.tuple #[.agg (idA r), .bool tw]) ∧ _) at HRT
    go_wp2_with fail
    refine HRT.out.mono ?_
    rintro e w7 ⟨rfl, hb7⟩
    have hW := Lib.hid (below_step hW.out hW.out.size hb7)
    have K7 := K7.keep hb7
    have K9 := K9.keep hb7
    clear hb7 HRT
    have z7 := K7.lt
    have z9 := K9.lt
    have N7 := Bk.new w7 24 (idA (zeros 32))
    go_upto_region 13 with (refine wpList_store_mid rfl 24 (.tmp 11) (.tmp 60) rfl w7.heap.size 0 (idA r) rfl rfl (by rw [idA_size, hrl]; exact N7.there 32 (by rw [idA_size]; decide)) (by rw [idA_size, hrl]; exact id_info') (id_ones _) ?_)
    refine wp_any (fun V => Below w.heap.size w V ∧ Bk V g7 34 (A4 (wd0 a) (wd1 a) (wd2 a) (wd3 a)) ∧ Bk V g9 34 (A4 (wd0 b) (wd1 b) (wd2 b) (wd3 b)) ∧ Bk V w7.heap.size 24 (idA r)) ⟨Below.setCells hW.out.size _ _ _ (hW.out.alloc hW.out.size _), rowFar (K7.alloc _) (by omega) _ _, rowFar (K9.alloc _) (by omega) _ _, N7.setAll (by rw [idA_size, idA_size, hrl]; rfl)⟩ ?_
    clear hW K7 K9 N7
    generalize w7.heap.size = g11 at *
    rintro V ⟨hW, K7, K9, K11⟩
    have hW := Lib.hid hW
    have BL := (HV.out.keep hW.out (Nat.le_refl _)).mono hW.out.size
    go_upto_region 14 with fail
    refine region14 g11 n c s V L r HN.out (by omega) HRI.out K11 BL _ _ _ _ _ _ _ _ _ _ _ _ _ _ _ _ _ _ _ _ _ _ _ _ _ _ _ _ _ _ _ _ _ _ _ _ _ _ _ _ _ _ _ _ _ _ _ _ _ _ _ _ _ _ _ _ _ _ _ _ _ _ _ _ _ _ _ _ _ _ _ _ _ _ _ _ _ _ _ _ _ _ _ _ _ _ _ _ _ _ _ _ _ _ _ _ _ _ _ _ _ _ _ _ _ (fun x62 x63 x64 x65 x66 s7 c7 wc hbc HI => ?_)
    have K7 := K7.keep hbc
    have K9 := K9.keep hbc
    have hW := Lib.hid (below_step hW.out hW.out.size hbc)
    obtain ⟨LL, hLL⟩ : ∃ LL, LL = L ++ [r] := ⟨_, rfl⟩
    have HLI : Hid (IsIds LL) := by rw [hLL]; exact HIDS.out.app (IsIds.one HRI.out)
    obtain ⟨N1, hN1⟩ : ∃ N1, N1 = n + 1 := ⟨_, rfl⟩
    have HLN : Hid (LL.length = N1) := by show _ = _; rw [hLL, List.length_append, ← HN.out, hN1]; rfl
    have eN : ((n : Int) + 1) = (N1 : Int) := by omega
    rw [← hLL, ← hN1] at HI
    rw [← hN1, eN]
    have hN30 : N1 ≤ 31 := by omega
    have h7c := K7.lt
    have h9c := K9.lt
    obtain ⟨gw, hgw⟩ : ∃ gw, gw = wc.heap.size := ⟨_, rfl⟩
    rw [← hgw] at HI h7c h9c
    have hgw2 : gw ≤ wc.heap.size := by omega
    have HI := Lib.hid HI
    clear hbc BL hLL hN1 eN K11 hgw HV
    go_wp2_with fail
    go_loopw [13, 14, 69] (fun ma mb i wr => ∃ j x y : Nat, j ≤ N1 ∧ i = .int .i64 j ∧ ma = .int .i64 x ∧ mb = .int .i64 y ∧ x ≤ y ∧ y ≤ j ∧ Hid (Below w.heap.size w wr) ∧ Bk wr g7 34 (A4 (wd0 a) (wd1 a) (wd2 a) (wd3 a)) ∧ Bk wr g9 34 (A4 (wd0 b) (wd1 b) (wd2 b) (wd3 b)) ∧ gw ≤ wr.heap.size ∧ Hid (IdsV wr gw (.slice s7 N1 c7) LL)) (fun _ _ i _ => N1 - (intOf i).toNat)
    case atStart => exact ⟨0, 0, 0, Nat.zero_le _, rfl, rfl, rfl, Nat.le_refl _, Nat.le_refl _, hW.out, K7, K9, hgw2, HI.out⟩
    case round =>
      obtain ⟨j, x, y, hj, rfl, rfl, rfl, hxy, hyj, hB, K7, K9, hgwr, HIr⟩ := hrel
      clear hW hgw2 HI
      by_cases hlt : j < N1
      · have hdj : decide ((j : Int) < (N1 : Int)) = true := decide_eq_true (by omega)
        have hjn : (j : Int) < (N1 : Int) := by omega
        obtain ⟨b0, o0, e0, hbl, hdead, hrange⟩ := HIr.out.at_ (by intro h; have := HLN.out; rw [h] at this; simp at this; omega)
        subst e0
        clear hdead
        have hrx := hrange j _ (nthI_get (by rw [HLN.out]; exact hlt))
        have HXI := Lib.hid (nthI_id HLI.out (i := j) (by rw [HLN.out]; exact hlt))
        obtain ⟨ix, hix⟩ : ∃ ix, ix = nthI LL j := ⟨_, rfl⟩
        rw [← hix] at hrx HXI
        have hxl := HXI.out.1
        have HF := Lib.hid (fun W => fromID_any ix hxl HXI.out.2 W)
        change Hid (∀ W, Calls Tryd.prog _ #[.agg (idA ix)] W _) at HF
        have hvM : ofL ix < M256 := ofL_id hxl HXI.out.2
        have HC1 := Lib.hid (fun W => HCP.out (ofL ix) W hvM)
        have HC2 := Lib.hid (fun W => HCQ.out (ofL ix) W hvM)
        have hc1t := @cmp_le (ofL ix) a
        have hc1f := @cmp_nle (ofL ix) a
        have hc2t := @cmp_le (ofL ix) b
        have hc2f := @cmp_nle (ofL ix) b
        generalize cmpI (ofL ix) a = z1 at *
        generalize cmpI (ofL ix) b = z2 at *
        generalize ofL ix = v at *
        have HT1 := Lib.hid hc1t
        have HF1 := Lib.hid hc1f
        have HT2 := Lib.hid hc2t
        have HF2 := Lib.hid hc2f
        clear hrange hix hvM hc1t hc1f hc2t hc2f
        have N8 := Bk.new wr 24 (idA (zeros 32))
        have zr7 := K7.lt
        have zr9 := K9.lt
        go_upto_region 17 with (first
          | (refine wpList_load_mid rfl 24 (.tmp 71) rfl b0 (o0 + j * 32) rfl (idA ix).toList _ hrx Tryd.underlying24 rfl (by rw [Array.length_toList, idA_size, hxl]; exact id_info') ?_)
          | (refine wpList_store_mid rfl 24 (.tmp 16) (.tmp 72) rfl wr.heap.size 0 (idA ix) rfl rfl (by rw [idA_size, hxl]; exact N8.there 32 (by rw [idA_size]; decide)) (by rw [idA_size, hxl]; exact id_info') (id_ones _) ?_))
        have hst := Below.setCells (Nat.le_refl _) (idA ix).toList 0 _ ((Below.refl wr.heap.size wr).alloc (Nat.le_refl _) (.cells (idA (zeros 32)) 24))
        refine wp_any (fun V => Below wr.heap.size wr V ∧ Bk V wr.heap.size 24 (idA ix)) ⟨hst, N8.setAll (by rw [idA_size, idA_size, hxl]; rfl)⟩ ?_
        clear hst N8
        rintro V ⟨hV, K16⟩
        go_wp2_with (refine wpList_load_mid rfl 24 (.tmp 16) rfl wr.heap.size 0 rfl (idA ix).toList _ K16.range0 Tryd.underlying24 rfl (by rw [Array.length_toList, idA_size, hxl]; exact id_info') ?_)
        refine (HF.out _).mono ?_
        rintro e w8 ⟨rfl, hb8⟩
        have hV := below_step hV hV.size hb8
        clear hb8 K16
        go_upto_region 18 with fail
        refine wp_any (fun V => Below wr.heap.size wr V ∧ Bk V w8.heap.size 34 (A4 (wd0 v) (wd1 v) (wd2 v) (wd3 v))) ⟨hV.alloc hV.size _, Bk.new _ _ _⟩ ?_
        have h8 := hV.size
        clear hV
        generalize w8.heap.size = g17 at *
        rintro V ⟨hV, K17⟩
        have HVV := Lib.hid hV
        have K7v := K7.keep hV
        have K9v := K9.keep hV
        obtain ⟨a0, a1, a2, a3, a4, a5, a6, a7, za⟩ := K7v.f4
        obtain ⟨q0, q1, q2, q3, q4, q5, q6, q7, zq⟩ := K17.f4
        clear hV
        have hpq := HAB.out
        by_cases hvp : v ≤ a
        · have d1 := HT1.out hvp
          have d2 := HT2.out (Nat.le_trans hvp hpq)
          clear hpq hvp
          go_wp2_with fail
          refine (HC1.out _).mono ?_
          rintro e w9 ⟨rfl, hb9⟩
          have K17 := K17.keep hb9
          have K9v := K9v.keep hb9
          have HVV := Lib.hid (below_step HVV.out HVV.out.size hb9)
          clear hb9 a0 a1 a2 a3 a4 a5 a6 a7 za q0 q1 q2 q3 q4 q5 q6 q7 zq K7v
          obtain ⟨a0, a1, a2, a3, a4, a5, a6, a7, za⟩ := K9v.f4
          obtain ⟨q0, q1, q2, q3, q4, q5, q6, q7, zq⟩ := K17.f4
          go_wp2_with fail
          refine (HC2.out _).mono ?_
          rintro e w10 ⟨rfl, hb10⟩
          have HVV := Lib.hid (below_step HVV.out HVV.out.size hb10)
          have K7z := K7.keep HVV.out
          have K9z := K9.keep HVV.out
          have HIz := Lib.hid (HIr.out.keep HVV.out hgwr)
          have hBz := Lib.hid (hB.out.trans (HVV.out.mono hB.out.size))
          have hgz : gw ≤ w10.heap.size := Nat.le_trans hgwr HVV.out.size
          clear hb10 a0 a1 a2 a3 a4 a5 a6 a7 za q0 q1 q2 q3 q4 q5 q6 q7 zq K9v K17
          go_wp2_with fail
          have hj1 : Value.int .i64 ((j : Int) + 1) = .int .i64 ((j + 1 : Nat) : Int) := by go_num
          have hx1 : Value.int .i64 ((x : Int) + 1) = .int .i64 ((x + 1 : Nat) : Int) := by go_num
          have hy1 : Value.int .i64 ((y : Int) + 1) = .int .i64 ((y + 1 : Nat) : Int) := by go_num
          go_roundw
          have hrelz : x + 1 ≤ y + 1 ∧ y + 1 ≤ j + 1 ∧ j + 1 ≤ N1 := by omega
          case rel => exact ⟨j + 1, x + 1, y + 1, hrelz.2.2, hj1, hx1, hy1, hrelz.1, hrelz.2.1, hBz.out, K7z, K9z, hgz, HIz.out⟩
          case measure => simp [intOf]; omega
        · have d1 := HF1.out hvp
          by_cases hvq : v ≤ b
          · have d2 := HT2.out hvq
            clear hpq hvp hvq
            go_wp2_with fail
            refine (HC1.out _).mono ?_
            rintro e w9 ⟨rfl, hb9⟩
            have K17 := K17.keep hb9
            have K9v := K9v.keep hb9
            have HVV := Lib.hid (below_step HVV.out HVV.out.size hb9)
            clear hb9 a0 a1 a2 a3 a4 a5 a6 a7 za q0 q1 q2 q3 q4 q5 q6 q7 zq K7v
            obtain ⟨a0, a1, a2, a3, a4, a5, a6, a7, za⟩ := K9v.f4
            obtain ⟨q0, q1, q2, q3, q4, q5, q6, q7, zq⟩ := K17.f4
            go_wp2_with fail
            refine (HC2.out _).mono ?_
            rintro e w10 ⟨rfl, hb10⟩
            have HVV := Lib.hid (below_step HVV.out HVV.out.size hb10)
            have K7z := K7.keep HVV.out
            have K9z := K9.keep HVV.out
            have HIz := Lib.hid (HIr.out.keep HVV.out hgwr)
            have hBz := Lib.hid (hB.out.trans (HVV.out.mono hB.out.size))
            have hgz : gw ≤ w10.heap.size := Nat.le_trans hgwr HVV.out.size
            clear hb10 a0 a1 a2 a3 a4 a5 a6 a7 za q0 q1 q2 q3 q4 q5 q6 q7 zq K9v K17
            go_wp2_with fail
            have hj1 : Value.int .i64 ((j : Int) + 1) = .int .i64 ((j + 1 : Nat) : Int) := by go_num
            have hy1 : Value.int .i64 ((y : Int) + 1) = .int .i64 ((y + 1 : Nat) : Int) := by go_num
            go_roundw
            have hrelz : x ≤ y + 1 ∧ y + 1 ≤ j + 1 ∧ j + 1 ≤ N1 := by omega
            case rel => exact ⟨j + 1, x, y + 1, hrelz.2.2, hj1, rfl, hy1, hrelz.1, hrelz.2.1, hBz.out, K7z, K9z, hgz, HIz.out⟩
            case measure => simp [intOf]; omega
          · have d2 := HF2.out hvq
            clear hpq hvp hvq
            go_wp2_with fail
            refine (HC1.out _).mono ?_
            rintro e w9 ⟨rfl, hb9⟩
            have K17 := K17.keep hb9
            have K9v := K9v.keep hb9
            have HVV := Lib.hid (below_step HVV.out HVV.out.size hb9)
            clear hb9 a0 a1 a2 a3 a4 a5 a6 a7 za q0 q1 q2 q3 q4 q5 q6 q7 zq K7v
            obtain ⟨a0, a1, a2, a3, a4, a5, a6, a7, za⟩ := K9v.f4
            obtain ⟨q0, q1, q2, q3, q4, q5, q6, q7, zq⟩ := K17.f4
            go_wp2_with fail
            refine (HC2.out _).mono ?_
            rintro e w10 ⟨rfl, hb10⟩
            have HVV := Lib.hid (below_step HVV.out HVV.out.size hb10)
            have K7z := K7.keep HVV.out
            have K9z := K9.keep HVV.out
            have HIz := Lib.hid (HIr.out.keep HVV.out hgwr)
            have hBz := Lib.hid (hB.out.trans (HVV.out.mono hB.out.size))
            have hgz : gw ≤ w10.heap.size := Nat.le_trans hgwr HVV.out.size
            clear hb10 a0 a1 a2 a3 a4 a5 a6 a7 za q0 q1 q2 q3 q4 q5 q6 q7 zq K9v K17
            go_wp2_with fail
            have hj1 : Value.int .i64 ((j : Int) + 1) = .int .i64 ((j + 1 : Nat) : Int) := by go_num
            go_roundw
            have hrelz : x ≤ y ∧ y ≤ j + 1 ∧ j + 1 ≤ N1 := by omega
            case rel => exact ⟨j + 1, x, y, hrelz.2.2, hj1, rfl, rfl, hrelz.1, hrelz.2.1, hBz.out, K7z, K9z, hgz, HIz.out⟩
            case measure => simp [intOf]; omega
      · have hjN : j = N1 := by omega
        have hdj : decide ((j : Int) < (N1 : Int)) = false := decide_eq_false (by omega)
        have HWA := Lib.hid (fun W => work_any a W HA.out)
        have HWB := Lib.hid (fun W => work_any b W HBm.out)
        have hm := work_mono a b HBm.out H1.out HAB.out
        have hp0 := work_pos a HA.out H1.out
        have HC1 := Lib.hid (fun W => cmp_any (workV a) (workV b) W (work_lt _) (work_lt _))
        have HC2 := Lib.hid (fun W => cmp_any (workV a) 0 W (work_lt _) M256_pos')
        have hz1 := cmp_ge hm
        have hz2 := cmp_gt (a := workV a) (b := 0) (by omega)
        have e0 : nv 0 = .agg #[.int .u64 0, .int .u64 0, .int .u64 0, .int .u64 0] := by rw [nv_small 0 B64_pos]; rfl
        rw [e0] at HC2
        generalize cmpI (workV a) (workV b) = z1 at *
        generalize cmpI (workV a) 0 = z2 at *
        generalize workV a = wa at *
        generalize workV b = wb at *
        clear hm hp0 e0 hjN
        go_upto_region 23 with fail
        refine region23 g7 g9 a b wa wb x y z1 z2 wr K7 K9 hxy hz1 hz2 HWA HWB HC1 HC2 _ _ _ _ _ _ _ _ _ _ _ _ _ _ _ _ _ _ _ _ _ _ _ _ _ _ _ _ _ _ _ _ _ _ _ _ _ _ _ _ _ _ _ _ _ _ _ _ _ _ _ _ _ _ _ _ _ _ _ _ _ _ _ _ _ _ _ _ _ _ _ _ _ _ _ _ _ _ _ _ _ _ _ _ _ _ _ _ _ _ _ _ _ _ _ _ _ _ _ _ _ _ _ (fun y88 y89 y90 y91 y92 y93 y94 y95 y96 y97 y98 y99 y100 y101 y102 y103 y104 wd hbd => ?_)
        have hW := Lib.hid (below_step hB.out hB.out.size hbd)
        go_wp2_with fail
        go_ret
        exact ⟨rfl, hW.out⟩
theorem targets_walk (v : Value) (L : List (List Nat)) (zs : List Int) (w : World) (hL : Laid w) (hv : IdsV w w.heap.size v L) (hl : zs.length = 2) (hw : ∀ z ∈ zs, (Lit.int .u32 z).wf = true) :
    Calls Tryd.prog 12 #[v, .agg (zs.map (Value.int .u32)).toArray] w fun e w' => e = .returned (.bool true) ∧ Below w.heap.size w w' := by
  match zs, hl with
  | [t0, t1], _ =>
    have b0 := wf_u32 (hw t0 (by simp))
    have b1 := wf_u32 (hw t1 (by simp))
    obtain ⟨l, rfl⟩ := Int.eq_ofNat_of_zero_le b0.1
    obtain ⟨m, rfl⟩ := Int.eq_ofNat_of_zero_le b1.1
    obtain ⟨s, c, rfl⟩ := hv.slice
    by_cases hn : 30 < L.length
    · exact walk_long s _ c l m w hn
    · by_cases h : tgtV l = 0 ∨ (tgtV l ≠ 0 ∧ tgtV m = 0)
      · exact walk_none s _ c l m w hn (by omega) (by omega) h
      · exact walk_inn L s c l m w hL hv hn (by omega) (by omega) (by omega) (by omega)

/-- The door's own heap meets the condition. -/
theorem door_met (os : Os) (args : Array Value) : laidMetH Tryd.prog laidL ((World.doorLaid Tryd.prog 19 os).forCall (fun _ _ => 0) ⟨#[], args, []⟩).memory :=
  laidMetH_of_parts3 (fuel := 8) (laidMet_of_run' 8 (by kernel_rfl) (by kernel_rfl)) (by kernel_rfl) (by kernel_rfl)

set_option maxRecDepth 100000 in
theorem lifted (os : Os) (started : os.Started) (H : Type) (enc : TypeId × Value → H) :
    ReturnsInHanded {} Tryd.checked os 12 .any (fun w args => (Rows.wholeTargetsSpec.pre enc Tryd.prog Tryd.f12 [] false w args ∧ laidMetH Tryd.prog laidL w) ∧ sizedMet enc Tryd.prog Tryd.f12 (OpenSpec.ofChange Rows.wholeTargetsSpec) false w args)
      (Rows.wholeTargetsSpec.post enc Tryd.prog Tryd.f12 false true false false) := by
  refine returnsInHanded_of_change_and (C := Tryd.checked) (X := fun w _ => laidMetH Tryd.prog laidL w) (fun _ _ _ hh h => h.of_heap hh) own started (by kernel_rfl) Tryd.func12
    (ChangeSpec.witness_shaped (enc := enc) (C := Tryd.checked) (os := os) (X := fun w _ => laidMetH Tryd.prog laidL w) false (World.doorLaid Tryd.prog 19 os) #[.slice none 0 0, .agg #[.int .u32 0, .int .u32 0]] 8 rfl (World.shaped_of_RefB (by kernel_rfl) (by kernel_rfl)) (by kernel_rfl) (by kernel_rfl) (by kernel_rfl) (door_met os _)) ?_
  intro W base args ds gs before hval0 hW _ _ hL _
  have hval : ∀ (j : Nat) t v, Tryd.f12.params[j]? = some t → args[j]? = some v → Value.okWide Tryd.prog W .any base t v := hval0
  have hW' := hW
  obtain ⟨p, q, hA0, hV, rfl, hfz, hnd⟩ := hW
  have hA : DataW.TrodAll enc Tryd.prog W 0 (fun _ => true) true Tryd.f12.params.toList args.toList ds p := hA0
  rw [Tryd.params12] at hA hval
  obtain ⟨v0, vs0, d0, ds0, p0, q0, hargs, rfl, rfl, h0, r0⟩ := trodAll_cons hA
  obtain ⟨v1, vs1, d1, ds1, p1, q1, rfl, rfl, rfl, h1, r1⟩ := trodAll_cons r0
  obtain ⟨rfl, rfl, rfl⟩ := trodAll_nil r1
  obtain rfl : args = #[v0, v1] := by cases args; simp_all
  obtain ⟨rfl, rfl⟩ := trodVars_none hV
  have lt0 : ∀ x ∈ p0, x.block < W.heap.size := by obtain ⟨m, hm⟩ := h0; exact DataW.trod_lt m _ _ _ hm
  have lt1 : ∀ x ∈ p1, x.block < W.heap.size := by obtain ⟨m, hm⟩ := h1; exact DataW.trod_lt m _ _ _ hm
  obtain ⟨x0, hb0⟩ := ids_arg (hval 0 54 v0 rfl rfl) h0
  obtain ⟨z1, hl1, rfl, hw1⟩ := open_ints_arr (k := .u32) Tryd.underlying31 Tryd.underlying22 (by kernel_rfl) (by kernel_rfl) (hval 1 31 v1 rfl rfl) h1
  have hwalk := targets_walk v0 x0 z1 W (of_laid hL) hb0 hl1 hw1
  clear hA0 hval0
  refine hwalk.mono fun e W' ⟨he, bel⟩ => ?_
  subst he
  exact ⟨_, rfl, _, _, _, [], _, [], hW', trodAll_mk1 (shut_bool Tryd.underlying4 _), (trodAll_cons_mk (Below.trod laidOut (by kernel_rfl) (of_decide_eq_true (by kernel_rfl)) h0 bel lt0) (trodAll_cons_mk (Below.trod laidOut (by kernel_rfl) (of_decide_eq_true (by kernel_rfl)) h1 bel lt1) trodAll_mk0)), rfl, bel.frame _, fun h => by cases h⟩

theorem over : Rows.WholeTargetsSaid :=
  OpenClaim.holds_of_wide 12 Tryd.f12 rfl rfl rfl rfl rfl rfl rfl ⟨rfl, rfl, rfl, rfl, rfl⟩ rfl rfl rfl rfl rfl (by kernel_rfl) Tryd.func12 (by kernel_rfl)
    (of_decide_eq_true (by kernel_rfl)) (by unfold Func.isWrapper; first | (rw [if_pos (by decide +kernel)]; kernel_rfl) | (rw [if_neg (by decide +kernel)]; exact ⟨rfl, rfl⟩))
    (fun os started H enc _ => lifted os started H enc)

theorem proved : Rows.WholeTargetsCardSaid :=
  Claim7.holds_tied_plain_at .later [] [.data, .data] true Rows.wholeTargetsCard.stood.harness false
    over (fun _ h => by cases h) (by kernel_rfl) (fun _ h => by cases h) wholeTargets_row_tie rfl ⟨rfl, rfl⟩ (by kernel_rfl) rfl
    (fun f fn hf hfn => by
      obtain rfl : f = 12 := Option.some.inj ((show Tryd.prog.funcNamed "tallystick/tallysticktop.WholeTargets" = some 12 by kernel_rfl).symm.trans hf) |>.symm
      obtain rfl : fn = Tryd.f12 := (Option.some.inj (Tryd.func12.symm.trans hfn)).symm
      exact ⟨by kernel_rfl, fun j t ht => by
        rw [Tryd.params12] at ht
        have hm : t ∈ [54, 31] := by simpa using Array.mem_of_getElem? ht
        have hall : ([54, 31].all fun u => !Tryd.prog.wantsStandIn u) = true := by kernel_rfl
        exact (show Tryd.prog.wantsStandIn t = false by simpa using List.all_eq_true.1 hall t hm)⟩)
    (by kernel_rfl)
#print axioms proved
end Go.Proofs.YtkhiicnahijnoaaDoor.wholeTargets
