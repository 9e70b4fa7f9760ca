/-
  What is proved: for every header, every limit and every number of tries the law HeadMines returns true, and its arguments read behind the call as they read before; the two listed tables of package hash are taken to hold what the program's text lays in them, and the card ties them to it.
-/
import Derived.Test.YtkhiicnahijnoaaDoorHeaI
import Derived.Test.YtkhiicnahijnoaaDoorHdArg
import Derived.Test.YtkhiicnahijnoaaDoorHe5C
import Derived.Test.YtkhiicnahijnoaaDoorTie
import Derived.Test.YtkhiicnahijnoaaDoorCards
import Derived.Stop.Joined
namespace Go.Proofs.YtkhiicnahijnoaaDoor.headMines
open Go.ChangeShapes Go.WideShapes Go.ChangeAt Go.RowKit
set_option linter.unusedVariables false

theorem own : ownKnob Tryd.prog.godebug = none := by kernel_rfl
theorem laidOut : laidOutB Tryd.prog = true := by kernel_rfl
theorem wf_i64 {z : Int} (h : (Lit.int .i64 z).wf = true) : -9223372036854775808 ≤ z ∧ z ≤ 9223372036854775807 := by
  simp [Lit.wf, IntKind.min, IntKind.max, IntKind.signed, IntKind.bits] at h
  omega

theorem wf_u32 {z : Int} (h : (Lit.int .u32 z).wf = true) : 0 ≤ z ∧ z < 4294967296 := wf_u32' h
theorem hd_next {h : Hd} (i : IsHd h) (k : Nat) : (hdA (hAt h k)).setIfInBounds 67 (.int .u32 (((h.n + (k + 1)) % 4294967296 : Nat) : Int)) = hdA (hAt h (k + 1)) := by
  have e := hd_nonce (hAt_is i k) 1
  have e1 : ((hAt h k).n + 1) % 4294967296 = (h.n + (k + 1)) % 4294967296 := by
    show ((h.n + k) % 4294967296 + 1) % 4294967296 = (h.n + (k + 1)) % 4294967296
    omega
  have e2 : hAt (hAt h k) 1 = hAt h (k + 1) := by
    unfold hAt at e1 ⊢
    rw [hd_ext]
    exact ⟨rfl, rfl, rfl, rfl, rfl, e1⟩
  rw [e1, e2] at e
  exact e
theorem hAt_zero {h : Hd} (i : IsHd h) : hAt h 0 = h := by
  rw [hd_ext]
  exact ⟨rfl, rfl, rfl, rfl, rfl, Nat.mod_eq_of_lt i.n⟩
set_option maxRecDepth 100000 in
set_option maxHeartbeats 8000000 in
theorem walk_out (h : Hd) (l : Nat) (t : Int) (w : World) (hL : Laid w) (ht : 12 < t) :
    Calls Tryd.prog 8 #[hdv h, .int .u32 (l : Int), .int .i64 t] w fun e w' => e = .returned (.bool true) ∧ Below w.heap.size w w' := by
  have HL := Lib.hid hL
  have hd1 : decide (12 < t) = true := decide_eq_true ht
  show Calls Tryd.prog _ #[.agg (hdA h), _, _] w _
  generalize hdA h = A at *
  clear hL
  go_enter Tryd.func8, Tryd.ntmps8
  have hA : Below w.heap.size w (w.alloc (.cells A 26)) := (Below.refl _ _).alloc (Nat.le_refl _) _
  go_wp2_with fail
  refine (reads_any _ (HL.out.keep hA)).mono ?_
  rintro e w1 ⟨rfl, hb1⟩
  have KA : Bk w1 w.heap.size 26 A := Bk.keep (Bk.new _ _ _) hb1
  have hW := Lib.hid (below_step hA (by simp) hb1)
  clear hb1 hA
  go_wp2_with fail
  go_ret
  exact ⟨rfl, hW.out⟩
set_option maxRecDepth 100000 in
set_option maxHeartbeats 8000000 in
theorem walk_inn (h : Hd) (l : Nat) (t : Int) (w : World) (hL : Laid w) (i : IsHd h) (hl : l < 4294967296) (hlo : -9223372036854775808 ≤ t) (ht : ¬ 12 < t) :
    Calls Tryd.prog 8 #[hdv h, .int .u32 (l : Int), .int .i64 t] w fun e w' => e = .returned (.bool true) ∧ Below w.heap.size w w' := by
  have HM := Lib.hid (fun W (hw : Laid W) => mine_any h l t W i hl (by omega) hw)
  have HR := Lib.hid (fun k W => proved5_any (hAt h k) l W (hAt_is i k) hl)
  have HSZ := Lib.hid (fun k => hdA_size (hAt_is i k))
  have HCN := Lib.hid (show ∀ k, (hdA (hAt h k))[67]? = some (.int .u32 (((h.n + k) % 4294967296 : Nat) : Int)) from fun k => hdA_n (hAt_is i k))
  have HNX := Lib.hid (fun k => hd_next i k)
  have HEQ := Lib.hid (show ∀ k W, (Op.equalIn 10000 26 (.agg (hdA (hAt h k))) (.agg (hdA (hAt h k)))).run Tryd.prog W = .ok true W from fun k W => by
    have h := hd_eql (hAt_is i k) (hAt_is i k) W
    rwa [(hdEq_iff _ _).2 rfl] at h)
  have heq0 : ∀ W, (Op.equalIn 10000 26 (.agg (hdA hd0)) (.agg (hdA hd0))).run Tryd.prog W = .ok true W := fun W => by
    have h := hd_eql hd0_is hd0_is W
    rwa [(hdEq_iff _ _).2 rfl] at h
  have HL := Lib.hid hL
  have hd1 : decide (12 < t) = false := decide_eq_false ht
  have hzv := zero_hd
  have hne := hd_ne
  have s0 := hdA_size hd0_is
  obtain ⟨T, hT⟩ : ∃ T, T = mineN t := ⟨_, rfl⟩
  have hTt : ∀ k : Nat, (k : Int) < t ↔ k < T := fun k => by rw [hT]; unfold mineN; omega
  have hT12 : T ≤ 12 := by rw [hT]; unfold mineN; omega
  rw [← hT] at HM
  have HTT := Lib.hid hTt
  obtain ⟨R, hR⟩ : ∃ R, R = mineV h l 0 T := ⟨_, rfl⟩
  rw [← hR] at HM
  have HRR := Lib.hid hR
  have hRI : IsHd (R.getD hd0) := by
    have key : ∀ r k, (mineV h l k r = none ∨ ∃ x, mineV h l k r = some x ∧ IsHd x) := by
      intro r
      induction r with
      | zero => intro k; exact .inl rfl
      | succ r ih =>
        intro k
        unfold mineV
        by_cases hp : provV (hAt h k) l = 0
        · rw [if_pos hp]; exact .inr ⟨_, rfl, hAt_is i k⟩
        · rw [if_neg hp]; exact ih (k + 1)
    rw [hR]
    rcases key T 0 with e | ⟨x, e, hx⟩
    · rw [e]; exact hd0_is
    · rw [e]; exact hx
  have sm := hdA_size hRI
  have onem := hdA_one (R.getD hd0)
  change Hid (∀ W, Laid W → Calls Tryd.prog _ #[.agg (hdA h), _, _] W fun e w' => e = .returned (.tuple #[.agg (hdA (R.getD hd0)), .bool R.isSome]) ∧ _) at HM
  have h0 := hAt_zero i
  have HA0 : Hid (hdA h = hdA (hAt h 0)) := by show _ = _; rw [h0]
  have sa := hdA_size i
  have HSTEP : Hid (∀ k, k < T → mineV h l k (T - k) = if provV (hAt h k) l = 0 then some (hAt h k) else mineV h l (k + 1) (T - (k + 1))) := fun k hk => by
    rw [show T - k = (T - (k + 1)) + 1 by omega]
    rfl
  show Calls Tryd.prog _ #[.agg (hdA h), _, _] w _
  obtain ⟨Am, hAm⟩ : ∃ Am, Am = hdA (R.getD hd0) := ⟨_, rfl⟩
  rw [← hAm] at HM sm onem
  obtain ⟨bm, hbm⟩ : ∃ bm, bm = R.isSome := ⟨_, rfl⟩
  rw [← hbm] at HM
  have HAM := Lib.hid hAm
  have HBM := Lib.hid hbm
  obtain ⟨A0, hA0⟩ : ∃ A0, A0 = hdA hd0 := ⟨_, rfl⟩
  rw [← hA0] at heq0 hzv hne s0
  have HZ := Lib.hid hA0
  obtain ⟨A, hA⟩ : ∃ A, A = hdA h := ⟨_, rfl⟩
  rw [← hA] at HA0 HM sa ⊢
  obtain ⟨tl, htl⟩ : ∃ tl : TypeId, tl = 26 := ⟨_, rfl⟩
  obtain ⟨sz, hsz0⟩ : ∃ sz : Nat, sz = 68 := ⟨_, rfl⟩
  have hag : ∀ w, (isAgg tl).run Tryd.prog w = .ok true w := by rw [htl]; exact hd_agg
  have hsz : ∀ w, (sizeOf tl).run Tryd.prog w = .ok sz w := by rw [htl, hsz0]; exact hd_size
  have HLD := Lib.hid (show ∀ (B : Array Value) (w : World) (g : Nat), B.size = 68 → Bk w g 26 B → (loadCellsFrom ⟨g, 0, none⟩ 0 sz #[]).run Tryd.prog w = .ok B w by rw [hsz0]; exact fun B w g hs h => hd_load h hs)
  have HTL := Lib.hid (show ∀ z, Op.load 26 z = Op.load tl z from fun z => by rw [htl])
  clear htl hsz0 hL i h0 hAm hbm hA0 hA hR hT hTt hRI
  go_enter Tryd.func8, Tryd.ntmps8
  have hA : Below w.heap.size w (w.alloc (.cells A 26)) := (Below.refl _ _).alloc (Nat.le_refl _) _
  go_wp2_with fail
  refine (reads_any _ (HL.out.keep hA)).mono ?_
  rintro e w1 ⟨rfl, hb1⟩
  have KA : Bk w1 w.heap.size 26 A := Bk.keep (Bk.new _ _ _) hb1
  have hW := Lib.hid (below_step hA (by simp) hb1)
  clear hb1 hA
  have l0 := HLD.out _ _ _ sa KA
  have htl := HTL.out
  go_upto_region 5 with fail
  simp only [htl]
  clear htl
  go_wp2_with fail
  refine (HM.out _ (HL.out.below hW.out HL.out.size)).mono ?_
  rintro e w2 ⟨rfl, hb2⟩
  have hW := Lib.hid (below_step hW.out hW.out.size hb2)
  have KA := KA.keep hb2
  clear hb2 l0 HM
  have zk := KA.lt
  have N2 := Bk.new w2 26 A0
  go_upto_region 6 with (refine wpList_store_mid rfl 26 (.tmp 7) (.tmp 19) rfl w2.heap.size 0 Am rfl rfl (by rw [sm]; exact N2.there 68 (by rw [s0]; exact Nat.le_refl _)) (by rw [sm]; exact hd_info) onem ?_)
  refine wp_any (fun V => Below w.heap.size w V ∧ Bk V w.heap.size 26 (hdA (hAt h 0)) ∧ Bk V w2.heap.size 26 Am) ⟨Below.setCells hW.out.size _ _ _ (hW.out.alloc hW.out.size _), by rw [← HA0.out]; exact rowFar (KA.alloc _) (by omega) _ _, N2.setAll (by rw [sm, s0])⟩ ?_
  clear hW KA N2
  generalize w2.heap.size = g7 at *
  rintro V ⟨hW, KA, KM⟩
  have hW := Lib.hid hW
  go_wp2_with fail
  go_loopw [9] (fun i wr => ∃ k : Nat, k ≤ T ∧ i = .int .i64 k ∧ Hid (Below w.heap.size w wr) ∧ Bk wr w.heap.size 26 (hdA (hAt h k)) ∧ Bk wr g7 26 Am ∧ Hid (R = mineV h l k (T - k))) (fun i _ => T - (intOf i).toNat)
  case atStart => exact ⟨0, Nat.zero_le _, rfl, hW.out, KA, KM, by rw [Nat.sub_zero]; exact HRR.out⟩
  case round =>
    obtain ⟨k, hk, rfl, hB, K, KM, HRk⟩ := hrel
    clear hW KA
    have sk := HSZ.out k
    by_cases hlt : k < T
    · have hdk : decide ((k : Int) < t) = true := decide_eq_true ((HTT.out k).2 hlt)
      have hst := HSTEP.out k hlt
      rw [hst] at HRk
      clear hst
      have hr := Lib.hid (HR.out k)
      change Hid (∀ W, Calls Tryd.prog _ #[.agg (hdA (hAt h k)), _] W _) at hr
      have hcn := HCN.out k
      have hnx := HNX.out k
      have heqk := HEQ.out k
      obtain ⟨p, hp⟩ : ∃ p, p = provV (hAt h k) l := ⟨_, rfl⟩
      rw [← hp] at HRk hr
      clear hp
      by_cases h0 : p = 0
      · have hAk : Am = hdA (hAt h k) := by rw [HAM.out, HRk.out, if_pos h0]; rfl
        have hbk : bm = true := by rw [HBM.out, HRk.out, if_pos h0]; rfl
        subst h0
        clear HRk hnx hcn
        subst hbk
        subst hAk
        generalize hdA (hAt h k) = Ak at *
        have l3 := HLD.out _ _ _ sk K
        have l7 := HLD.out _ _ _ sk KM
        have htl := HTL.out
        go_upto_region 9 with fail
        simp only [htl]
        clear htl
        go_wp2_with fail
        refine (hr.out _).mono ?_
        rintro e w3 ⟨rfl, hb3⟩
        have hB := Lib.hid (below_step hB.out hB.out.size hb3)
        have l3 := HLD.out _ _ _ sk (K.keep hb3)
        have l7 := HLD.out _ _ _ sk (KM.keep hb3)
        clear hb3
        have htl := HTL.out
        go_upto_region 10 with fail
        simp only [htl]
        clear htl
        go_wp2_with fail
        go_ret
        exact ⟨rfl, hB.out⟩
      · have hp0 : decide (p = 0) = false := decide_eq_false h0
        have hp1 : decide ((p : Int) = 0) = false := decide_eq_false (by omega)
        rw [if_neg h0] at HRk
        have l3 := HLD.out _ _ _ sk K
        have hset : ((hdA (hAt h k)).setIfInBounds 67 (.int .u32 (((((h.n + k) % 4294967296 : Nat) : Int) + 1) % 4294967296))) = hdA (hAt h (k + 1)) := by
          rw [← hnx]
          congr 2
          omega
        obtain ⟨q, hq⟩ : ∃ q, q = (h.n + k) % 4294967296 := ⟨_, rfl⟩
        rw [← hq] at hset hcn
        have hql : q < 4294967296 := by rw [hq]; exact Nat.mod_lt _ (by omega)
        obtain ⟨A2, hA2⟩ : ∃ A2, A2 = hdA (hAt h (k + 1)) := ⟨_, rfl⟩
        rw [← hA2] at hset
        have HA2 := Lib.hid hA2
        generalize hdA (hAt h k) = Ak at *
        clear hnx heqk hA2 hq
        have htl := HTL.out
        go_upto_region 9 with fail
        simp only [htl]
        clear htl
        go_wp2_with fail
        refine (hr.out _).mono ?_
        rintro e w3 ⟨rfl, hb3⟩
        have hB := Lib.hid (below_step hB.out hB.out.size hb3)
        have K := K.keep hb3
        have KM := KM.keep hb3
        clear hb3 l3 hr
        have c67 := (K.cell 67).trans hcn
        have f67 := K.frozen 67
        have z67 := K.lt
        have K2 := K.set_ 67 (.int .u32 (((q : Int) + 1) % 4294967296))
        rw [hset] at K2
        have KM2 := KM.far (p := ⟨w.heap.size, 67, none⟩) (by show g7 ≠ w.heap.size; omega) (.int .u32 (((q : Int) + 1) % 4294967296))
        have hB2 := Lib.hid (hB.out.setCell (p := ⟨w.heap.size, 67, none⟩) (Nat.le_refl _) (.int .u32 (((q : Int) + 1) % 4294967296)))
        rw [HA2.out] at K2
        clear hset hcn HA2
        go_wp2_with fail
        go_roundw
        case rel => first | exact ⟨k + 1, by omega, by go_num, hB2.out, K2, KM2, HRk.out⟩ | ((repeat apply Exists.intro); exact ⟨⟨k + 1, by omega, by go_num, hB2.out, K2, KM2, HRk.out⟩, rfl⟩)
        case measure => simp [intOf]; omega
    · have hkT : k = T := by omega
      have hdk : decide ((k : Int) < t) = false := decide_eq_false (by rw [HTT.out k]; exact hlt)
      have hRn : R = none := by rw [HRk.out, hkT, Nat.sub_self]; rfl
      have hAk : Am = A0 := by rw [HAM.out, hRn, HZ.out]; rfl
      have hbk : bm = false := by rw [HBM.out, hRn]; rfl
      subst hAk hbk
      clear HRk hkT hlt
      have l7 := HLD.out _ _ _ s0 KM
      have htl := HTL.out
      go_upto_region 12 with fail
      simp only [htl]
      clear htl
      go_wp2_with fail
      go_ret
      exact ⟨rfl, hB.out⟩
theorem mines_walk (h : Hd) (l : Nat) (t : Int) (w : World) (hL : Laid w) (i : IsHd h) (hl : l < 4294967296) (ht : -9223372036854775808 ≤ t ∧ t ≤ 9223372036854775807) :
    Calls Tryd.prog 8 #[hdv h, .int .u32 (l : Int), .int .i64 t] w fun e w' => e = .returned (.bool true) ∧ Below w.heap.size w w' := by
  by_cases h1 : 12 < t
  · exact walk_out h l t w hL h1
  · exact walk_inn h l t w hL i hl ht.1 h1

/-- The door's own heap meets the condition. -/
theorem door_met (os : Os) (args : Array Value) : laidMetH Tryd.prog laidL ((World.doorLaid Tryd.prog 19 os).forCall (fun _ _ => 0) ⟨#[], args, []⟩).memory :=
  laidMetH_of_parts3 (fuel := 8) (laidMet_of_run' 8 (by kernel_rfl) (by kernel_rfl)) (by kernel_rfl) (by kernel_rfl)

set_option maxRecDepth 100000 in
theorem lifted (os : Os) (started : os.Started) (H : Type) (enc : TypeId × Value → H) :
    ReturnsInHanded {} Tryd.checked os 8 .any (fun w args => (Rows.headMinesSpec.pre enc Tryd.prog Tryd.f8 [] false w args ∧ laidMetH Tryd.prog laidL w) ∧ sizedMet enc Tryd.prog Tryd.f8 (OpenSpec.ofChange Rows.headMinesSpec) false w args)
      (Rows.headMinesSpec.post enc Tryd.prog Tryd.f8 false true false false) := by
  refine returnsInHanded_of_change_and (C := Tryd.checked) (X := fun w _ => laidMetH Tryd.prog laidL w) (fun _ _ _ hh h => h.of_heap hh) own started (by kernel_rfl) Tryd.func8
    (ChangeSpec.witness_shaped (enc := enc) (C := Tryd.checked) (os := os) (X := fun w _ => laidMetH Tryd.prog laidL w) false (World.doorLaid Tryd.prog 19 os) #[hdv hd0, .int .u32 0, .int .i64 0] 8 rfl (World.shaped_of_RefB (by kernel_rfl) (by kernel_rfl)) (by kernel_rfl) (by kernel_rfl) (by kernel_rfl) (door_met os _)) ?_
  intro W base args ds gs before hval0 hW _ _ hL _
  have hval : ∀ (j : Nat) t v, Tryd.f8.params[j]? = some t → args[j]? = some v → Value.okWide Tryd.prog W .any base t v := hval0
  have hW' := hW
  obtain ⟨p, q, hA0, hV, rfl, hfz, hnd⟩ := hW
  have hA : DataW.TrodAll enc Tryd.prog W 0 (fun _ => true) true Tryd.f8.params.toList args.toList ds p := hA0
  rw [Tryd.params8] at hA hval
  obtain ⟨v0, vs0, d0, ds0, p0, q0, hargs, rfl, rfl, h0, r0⟩ := trodAll_cons hA
  obtain ⟨v1, vs1, d1, ds1, p1, q1, rfl, rfl, rfl, h1, r1⟩ := trodAll_cons r0
  obtain ⟨v2, vs2, d2, ds2, p2, q2, rfl, rfl, rfl, h2, r2⟩ := trodAll_cons r1
  obtain ⟨rfl, rfl, rfl⟩ := trodAll_nil r2
  obtain rfl : args = #[v0, v1, v2] := by cases args; simp_all
  obtain ⟨rfl, rfl⟩ := trodVars_none hV
  have lt0 : ∀ x ∈ p0, x.block < W.heap.size := by obtain ⟨m, hm⟩ := h0; exact DataW.trod_lt m _ _ _ hm
  have lt1 : ∀ x ∈ p1, x.block < W.heap.size := by obtain ⟨m, hm⟩ := h1; exact DataW.trod_lt m _ _ _ hm
  have lt2 : ∀ x ∈ p2, x.block < W.heap.size := by obtain ⟨m, hm⟩ := h2; exact DataW.trod_lt m _ _ _ hm
  obtain ⟨x0, hb0, rfl⟩ := hd_arg (hval 0 26 v0 rfl rfl) h0
  obtain ⟨y1, rfl, _, _, hwf1⟩ := open_int (k := .u32) Tryd.underlying22 (hval 1 22 v1 rfl rfl) h1
  have hy1 := wf_u32 hwf1
  obtain ⟨x1, rfl⟩ := Int.eq_ofNat_of_zero_le hy1.1
  obtain ⟨y2, rfl, _, _, hwf2⟩ := open_int (k := .i64) Tryd.underlying3 (hval 2 3 v2 rfl rfl) h2
  have hy2 := wf_i64 hwf2
  have hwalk := mines_walk x0 x1 y2 W (of_laid hL) hb0 (by omega) hy2
  clear hA0 hval0
  refine hwalk.mono fun e W' ⟨he, bel⟩ => ?_
  subst he
  exact ⟨_, rfl, _, _, _, [], _, [], hW', trodAll_mk1 (shut_bool Tryd.underlying4 _), (trodAll_cons_mk (Below.trod laidOut (by kernel_rfl) (of_decide_eq_true (by kernel_rfl)) h0 bel lt0) (trodAll_cons_mk (Below.trod laidOut (by kernel_rfl) (of_decide_eq_true (by kernel_rfl)) h1 bel lt1) (trodAll_cons_mk (Below.trod laidOut (by kernel_rfl) (of_decide_eq_true (by kernel_rfl)) h2 bel lt2) trodAll_mk0))), rfl, bel.frame _, fun h => by cases h⟩

theorem over : Rows.HeadMinesSaid :=
  OpenClaim.holds_of_wide 8 Tryd.f8 rfl rfl rfl rfl rfl rfl rfl ⟨rfl, rfl, rfl, rfl, rfl⟩ rfl rfl rfl rfl rfl (by kernel_rfl) Tryd.func8 (by kernel_rfl)
    (of_decide_eq_true (by kernel_rfl)) (by unfold Func.isWrapper; first | (rw [if_pos (by decide +kernel)]; kernel_rfl) | (rw [if_neg (by decide +kernel)]; exact ⟨rfl, rfl⟩))
    (fun os started H enc _ => lifted os started H enc)

theorem proved : Rows.HeadMinesCardSaid :=
  Claim7.holds_tied_plain_at .later [] [.data, .data] true Rows.headMinesCard.stood.harness false
    over (fun _ h => by cases h) (by kernel_rfl) (fun _ h => by cases h) headMines_row_tie rfl ⟨rfl, rfl⟩ (by kernel_rfl) rfl
    (fun f fn hf hfn => by
      obtain rfl : f = 8 := Option.some.inj ((show Tryd.prog.funcNamed "tallystick/tallysticklaw05.HeadMines" = some 8 by kernel_rfl).symm.trans hf) |>.symm
      obtain rfl : fn = Tryd.f8 := (Option.some.inj (Tryd.func8.symm.trans hfn)).symm
      exact ⟨by kernel_rfl, fun j t ht => by
        rw [Tryd.params8] at ht
        have hm : t ∈ [26, 22, 3] := by simpa using Array.mem_of_getElem? ht
        have hall : ([26, 22, 3].all fun u => !Tryd.prog.wantsStandIn u) = true := by kernel_rfl
        exact (show Tryd.prog.wantsStandIn t = false by simpa using List.all_eq_true.1 hall t hm)⟩)
    (by kernel_rfl)
#print axioms proved
end Go.Proofs.YtkhiicnahijnoaaDoor.headMines
