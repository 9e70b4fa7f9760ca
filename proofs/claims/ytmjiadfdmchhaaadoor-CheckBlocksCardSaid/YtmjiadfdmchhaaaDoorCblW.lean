/-
  What is proved: CheckBlocks holds for every input; the two listed tables of package hash are taken to hold what the program's text lays in them, and the card ties them to it.
-/
import Derived.Test.YtmjiadfdmchhaaaDoorRkZ
import Derived.Test.YtmjiadfdmchhaaaDoorTie
import Derived.Test.YtmjiadfdmchhaaaDoorCards
import Derived.Stop.Joined
namespace Go.Proofs.YtmjiadfdmchhaaaDoor.checkBlocks
open Go.ChangeShapes Go.WideShapes Go.ChangeAt Go.RowKit
set_option linter.unusedVariables false

theorem own : ownKnob Tryd.prog.godebug = none := by kernel_rfl
theorem laidOut : laidOutB Tryd.prog = true := by kernel_rfl
theorem wf_i64 {z : Int} (h : (Lit.int .i64 z).wf = true) : -9223372036854775808 ≤ z ∧ z ≤ 9223372036854775807 := by
  simp [Lit.wf, IntKind.min, IntKind.max, IntKind.signed, IntKind.bits] at h
  omega
set_option maxRecDepth 100000 in
set_option maxHeartbeats 8000000 in
theorem region16 {t0 t1 t3 t4 t5 t6 t7 t8 t9 t10 t11 t12 t13 t14 t15 t16 t17 t18 t19 t20 t21 t22 t23 t24 t25 t26 t27 t28 t29 t30 t31 t32 t33 t34 t35 t36 t37 t38 t39 t40 t41 t42 t43 t44 t45 t46 t47 t48 t49 t50 t51 t52 t53 t54 : Value} {Q : Exit → Act → World → Prop} (V : World) (g E : Nat) (A : Array Value) (hA : A.size = 69) (K : Bk V g 40 A)
    (HC1 : Hid (∀ W, Below V.heap.size V W → Calls Tryd.prog 10 #[.agg A] W fun e w' => e = .returned (.int .i64 (E : Nat)) ∧ Below W.heap.size W w'))
    (HC2 : Hid (∀ W, Below V.heap.size V W → Calls Tryd.prog 13 #[.agg A] W fun e w' => e = .returned (.int .i64 (E : Nat)) ∧ Below W.heap.size W w'))
    (hQ : ∀ (x50 x51 x52 x53 x54 : Value) (w' : World), Below V.heap.size V w' → Q .normal { tmps := List.toArray (t0 :: t1 :: .pointer (some ⟨g, 0, none⟩) :: t3 :: .bool true :: t5 :: t6 :: t7 :: t8 :: t9 :: t10 :: t11 :: t12 :: t13 :: t14 :: t15 :: t16 :: t17 :: t18 :: t19 :: t20 :: t21 :: t22 :: t23 :: t24 :: t25 :: t26 :: t27 :: t28 :: t29 :: t30 :: t31 :: t32 :: t33 :: t34 :: t35 :: t36 :: t37 :: t38 :: t39 :: t40 :: t41 :: t42 :: t43 :: t44 :: t45 :: t46 :: t47 :: t48 :: t49 :: x50 :: x51 :: x52 :: x53 :: x54 :: []), defers := [] } w') :
    Code.wp Tryd.prog (Code.region 16 #[{ dst := some 50, op := Op.load 40 (Operand.tmp 2), type := 40, pos := "law.go:72", after := #[], guard := none },
{ dst := some 51, op := Op.call { callee := Callee.value (Operand.func 10), args := #[Operand.tmp 50], argTypes := #[40] }, type := 29, pos := "law.go:72", after := #[{ on := 0, ground := Ground.data }], guard := none },
{ dst := some 52, op := Op.load 40 (Operand.tmp 2), type := 40, pos := "law.go:72", after := #[], guard := none },
{ dst := some 53, op := Op.call { callee := Callee.value (Operand.func 13), args := #[Operand.tmp 52], argTypes := #[40] }, type := 3, pos := "law.go:72", after := #[{ on := 2, ground := Ground.data }, { on := 1, ground := Ground.chain }], guard := none },
{ dst := some 54, op := Op.binOp BinOp.eql 3 (Operand.tmp 51) (Operand.tmp 53) 3, type := 4, pos := "law.go:72", after := #[{ on := 1, ground := Ground.data }, { on := 3, ground := Ground.data }], guard := none },
{ dst := some 4, op := Op.assign (Operand.tmp 54), type := 4, pos := "law.go:72", after := #[{ on := 4, ground := Ground.data }, { on := 3, ground := Ground.chain }, { on := 0, ground := Ground.phase }, { on := 1, ground := Ground.phase }, { on := 2, ground := Ground.phase }, { on := 3, ground := Ground.phase }, { on := 4, ground := Ground.phase }], guard := none }] true) Q { tmps := List.toArray (t0 :: t1 :: .pointer (some ⟨g, 0, none⟩) :: t3 :: t4 :: t5 :: t6 :: t7 :: t8 :: t9 :: t10 :: t11 :: t12 :: t13 :: t14 :: t15 :: t16 :: t17 :: t18 :: t19 :: t20 :: t21 :: t22 :: t23 :: t24 :: t25 :: t26 :: t27 :: t28 :: t29 :: t30 :: t31 :: t32 :: t33 :: t34 :: t35 :: t36 :: t37 :: t38 :: t39 :: t40 :: t41 :: t42 :: t43 :: t44 :: t45 :: t46 :: t47 :: t48 :: t49 :: t50 :: t51 :: t52 :: t53 :: t54 :: []), defers := [] } V := by
  have HQ := Lib.hid hQ
  have zg := K.lt
  obtain ⟨tl, htl⟩ : ∃ tl : TypeId, tl = 40 := ⟨_, rfl⟩
  obtain ⟨sz, hsz0⟩ : ∃ sz : Nat, sz = 69 := ⟨_, rfl⟩
  have hag : ∀ w, (isAgg tl).run Tryd.prog w = .ok true w := by rw [htl]; exact blk_agg
  have hsz : ∀ w, (sizeOf tl).run Tryd.prog w = .ok sz w := by rw [htl, hsz0]; exact blk_sizeC
  have hlA : ∀ w', Below V.heap.size V w' → (loadCellsFrom ⟨g, 0, none⟩ 0 sz #[]).run Tryd.prog w' = .ok A w' := fun w' h => by
    rw [hsz0]
    exact blk_load hA (K.keep h)
  simp only [show ∀ z, Op.load 40 z = Op.load tl z from fun z => by rw [htl]]
  clear htl hsz0 hQ K hA
  refine wp_region_noPanic ?_
  go_region_held (fun w' => Below V.heap.size V w')
    ((repeat' (first | with_reducible assumption | with_reducible exact Below.refl _ _ | with_reducible exact (Below.refl _ _).drew | with_reducible refine Below.drew ?_ | exact Nat.le_refl _)))
    (first
      | (go_at_call 10
         with_reducible refine (HC1.out _ ?_).mono ?_
         · repeat' (first | with_reducible assumption | with_reducible exact Below.refl _ _ | with_reducible exact (Below.refl _ _).drew | with_reducible refine Below.drew ?_)
         rintro e w6 ⟨rfl, hb6⟩
         have hE6 : Below V.heap.size V w6 := by
           refine below_step ?_ ?_ hb6
           · repeat' (first | with_reducible assumption | with_reducible exact Below.refl _ _ | with_reducible exact (Below.refl _ _).drew | with_reducible refine Below.drew ?_)
           · first | exact Below.size (by with_reducible assumption) | (simp [World.drew]; done) | exact Nat.le_refl _
         clear hb6)
      | (go_at_call 13
         with_reducible refine (HC2.out _ ?_).mono ?_
         · repeat' (first | with_reducible assumption | with_reducible exact Below.refl _ _ | with_reducible exact (Below.refl _ _).drew | with_reducible refine Below.drew ?_)
         rintro e w7 ⟨rfl, hb7⟩
         have hE7 : Below V.heap.size V w7 := by
           refine below_step ?_ ?_ hb7
           · repeat' (first | with_reducible assumption | with_reducible exact Below.refl _ _ | with_reducible exact (Below.refl _ _).drew | with_reducible refine Below.drew ?_)
           · first | exact Below.size (by with_reducible assumption) | (simp [World.drew]; done) | exact Nat.le_refl _
         clear hb7))
  all_goals first
    | exact NoPanic.normal (HQ.out _ _ _ _ _ _ hE7)
    | exact NoPanic.normal (HQ.out _ _ _ _ _ _ hE6)
set_option maxRecDepth 100000 in
set_option maxHeartbeats 8000000 in
theorem walk (b : BlkM) (f : Bool) (w : World) (hLd : Laid w) (hV : BlkV w w.heap.size b) :
    Calls Tryd.prog 4 #[.agg (blkL b).toArray, .bool f] w fun e w' => e = .returned (.bool true) ∧ Below w.heap.size w w' := by
  have HV := Lib.hid hV
  have HLD := Lib.hid hLd
  obtain ⟨n, hn⟩ : ∃ n, n = b.txs.length := ⟨_, rfl⟩
  have HN := Lib.hid hn
  obtain ⟨ls, hls⟩ : ∃ ls, ls = b.ls := ⟨_, rfl⟩
  obtain ⟨lc, hlc⟩ : ∃ lc, lc = b.lc := ⟨_, rfl⟩
  have HLS := Lib.hid hls
  have HLC := Lib.hid hlc
  have h63 : n < 9223372036854775808 := by
    obtain ⟨_, _, e, h1, h2, _⟩ := hV.2.1
    have : n = b.txs.length := hn
    omega
  have hb68 := blk_68 hV.1
  unfold BlkM.lv at hb68
  have hrv : RowV txR w w.heap.size (.slice b.ls b.txs.length b.lc) b.txs := hV.2.1
  rw [← hls, ← hlc, ← hn] at hb68 hrv
  have HRV := Lib.hid hrv
  have HL := Lib.hid (row_at (show RowV txR w w.heap.size (.slice ls b.txs.length lc) b.txs from by rw [← hn]; exact hrv))
  obtain ⟨A, hA⟩ : ∃ A, A = (blkL b).toArray := ⟨_, rfl⟩
  have hA69 : A.size = 69 := by rw [hA, List.size_toArray]; exact blkL_len hV.1
  rw [← hA] at hb68 ⊢
  have HA := Lib.hid hA
  have H68 := Lib.hid hb68
  have HA69 := Lib.hid hA69
  clear hV hLd hn hls hlc hrv hA hb68 hA69
  go_enter Tryd.func4, Tryd.ntmps4
  go_upto_region 1 with fail
  refine wp_any (fun W => Below w.heap.size w W ∧ Bk W w.heap.size 40 A) ⟨(Below.refl _ _).alloc (Nat.le_refl _) _, Bk.new _ _ _⟩ ?_
  obtain ⟨p2, hp2⟩ : ∃ p, p = w.heap.size := ⟨_, rfl⟩
  have HP2 := Lib.hid hp2
  rw [← hp2]
  rintro W ⟨hB, K2⟩
  have HB := Lib.hid (show Below w.heap.size w W from by rw [hp2] at hB; exact hB)
  have HK2 := Lib.hid K2
  clear hB K2 hp2
  go_wp2_with fail
  refine (asks_any W (HLD.out.keep HB.out)).mono ?_
  rintro e w1 ⟨rfl, hb1⟩
  have HB1 := Lib.hid (below_step HB.out HB.out.size hb1)
  have HK21 := Lib.hid (HK2.out.keep hb1)
  have c68 := (HK21.out.cell 68).trans H68.out
  have z2 := HK21.out.lt
  clear hb1 HB HK2
  by_cases h6 : 34 < n
  · have d6 : decide ((34 : Int) < (n : Int)) = true := decide_eq_true (by omega)
    go_wp2_with fail
    go_ret
    exact ⟨rfl, HB1.out⟩
  have d6 : decide ((34 : Int) < (n : Int)) = false := decide_eq_false (by omega)
  go_wp2_with fail
  clear c68 z2 d6
  go_loopw [5, 19] (fun sv i wr => ∃ (k s : Nat), k ≤ n ∧ s ≤ 200 ∧ sv = .int .i64 s ∧ i = .int .i64 k ∧ Hid (∀ t ∈ b.txs.take k, TxFit t) ∧ Hid (Below w.heap.size w wr) ∧ Hid (Bk wr p2 40 A)) (fun _ i _ => n - (intOf i).toNat)
  case atStart => exact ⟨0, 0, Nat.zero_le _, Nat.zero_le _, rfl, rfl, (fun t ht => by cases ht), HB1.out, HK21.out⟩
  case round =>
    clear HB1 HK21
    obtain ⟨k, s, hk, hs, rfl, rfl, HF, HB, HK2⟩ := hrel
    by_cases hlt : k < n
    · obtain ⟨t, bb, oo, hkt, hse, hbw, hrg⟩ := HL.out k (by have := HN.out; omega)
      subst hse
      have j1 : decide ((k : Int) < (n : Int)) = true := decide_eq_true (by omega)
      have hrg := rr_below hrg HB.out hbw
      have r0 := hrg 0 _ rfl
      have r1 := hrg 1 _ rfl
      change wr.cell? ⟨bb, oo + k * 2 + 0, none⟩ = some t.iv at r0
      change wr.cell? ⟨bb, oo + k * 2 + 1, none⟩ = some t.ov at r1
      rw [Nat.add_zero] at r0
      have hmem := List.mem_of_getElem? hkt
      have HX := Lib.hid hkt
      have HTV := Lib.hid (HV.out.2.2 t hmem)
      obtain ⟨sa, na, ca, ea, hna⟩ : ∃ s n c, t.iv = .slice s n c ∧ n = t.ins.length := ⟨_, _, _, rfl, rfl⟩
      obtain ⟨sb, nb, cb, eb, hnb⟩ : ∃ s n c, t.ov = .slice s n c ∧ n = t.outs.length := ⟨_, _, _, rfl, rfl⟩
      rw [ea] at r0
      rw [eb] at r1
      have HEA := Lib.hid ea
      have HEB := Lib.hid eb
      have HFI : Hid (fitB t = true → TxFit t ∧ na ≤ 40 ∧ nb ≤ 40) := fun h => by
        have h2 := (fitB_iff t).1 h
        exact ⟨h2, by rw [hna]; exact h2.1, by rw [hnb]; exact h2.2.1⟩
      clear hrg hkt hmem ea eb hna hnb
      go_upto_region 9 with fail
      refine wp_any (fun W => Below wr.heap.size wr W ∧ Bk W wr.heap.size 28 #[.slice sa na ca, .slice sb nb cb]) ⟨(Below.refl _ _).alloc (Nat.le_refl _) _, Bk.new _ _ _⟩ ?_
      clear r0 r1
      rintro W ⟨hb, K6⟩
      have HB7 := Lib.hid (below_step HB.out HB.out.size hb)
      have HK27 := Lib.hid (HK2.out.keep hb)
      have c0 := K6.cell 0
      have c1 := K6.cell 1
      have z6 := K6.lt
      have HK6 := Lib.hid K6
      generalize wr.heap.size = p6 at *
      have hft := fits_any t W ((HTV.out.keep HB7.out (Nat.le_refl _)).mono HB7.out.size)
      change Calls _ _ #[.agg #[t.iv, t.ov]] _ _ at hft
      rw [HEA.out, HEB.out] at hft
      generalize fitB t = fb at *
      clear hb K6 HB HK2
      cases fb
      · go_wp2_with fail
        refine hft.mono ?_
        rintro e w8 ⟨rfl, hb8⟩
        have HB8 := Lib.hid (below_step HB7.out HB7.out.size hb8)
        clear hb8 hft
        go_wp2_with fail
        go_ret
        exact ⟨rfl, HB8.out⟩
      · have hfi := HFI.out rfl
        have HFT := Lib.hid hfi.1
        have ha4 := hfi.2.1
        have hb4 := hfi.2.2
        have HA4 := Lib.hid ha4
        have HB4 := Lib.hid hb4
        clear hfi
        go_upto_region 10 with fail
        have hsum : ((s : Int) + ((na : Int) + (nb : Int))) = ((s + (na + nb) : Nat) : Int) := by omega
        simp only [hsum]
        obtain ⟨s2, hs2⟩ : ∃ s2, s2 = s + (na + nb) := ⟨_, rfl⟩
        rw [← hs2]
        clear hsum hs2 ha4 hb4 hs
        go_wp2_with fail
        refine hft.mono ?_
        rintro e w8 ⟨rfl, hb8⟩
        have HB8 := Lib.hid (below_step HB7.out HB7.out.size hb8)
        have HK28 := Lib.hid (HK27.out.keep hb8)
        clear hb8 hft c0 c1 z6
        by_cases h2 : 200 < s2
        · have d2 : decide ((200 : Int) < (s2 : Int)) = true := decide_eq_true (by omega)
          go_wp2_with fail
          go_ret
          exact ⟨rfl, HB8.out⟩
        have d2 : decide ((200 : Int) < (s2 : Int)) = false := decide_eq_false (by omega)
        go_wp2_with fail
        go_roundw
        case rel =>
          refine ⟨k + 1, s2, by omega, by omega, rfl, by go_num, (show ∀ t ∈ b.txs.take (k + 1), _ from fun x hx => ?_), HB8.out, HK28.out⟩
          rw [List.take_add_one, HX.out] at hx
          rcases List.mem_append.1 hx with h | h
          · exact HF.out x h
          · have : x = t := by simpa using h
            rw [this]
            exact HFT.out
        case measure => simp [intOf]; omega
    · have j1 : decide ((k : Int) < (n : Int)) = false := decide_eq_false (by omega)
      have HFA : Hid (∀ t ∈ b.txs, TxFit t) := by
        have h := HF.out
        rw [List.take_of_length_le (by have := HN.out; omega)] at h
        exact h
      have H34 : Hid (b.txs.length ≤ 40) := (by show _ ≤ _; have := HN.out; omega)
      clear HF h6 hs hk
      cases f
      · go_upto_region 16 with fail
        obtain ⟨E, hE⟩ : ∃ E, E = blkE b := ⟨_, rfl⟩
        refine region16 wr p2 E A HA69.out HK2.out ?_ ?_ (fun x50 x51 x52 x53 x54 w' hb => ?_)
        · show ∀ _, _
          intro W h
          have h2 := HB.out.trans (h.mono HB.out.size)
          rw [HA.out, hE]
          exact cblock_any b W ⟨HV.out.1, (HV.out.2.1.keep h2 (Nat.le_refl _)).mono h2.size, fun t ht => ((HV.out.2.2 t ht).keep h2 (Nat.le_refl _)).mono h2.size⟩ HFA.out H34.out (HLD.out.keep h2)
        · show ∀ _, _
          intro W h
          have h2 := HB.out.trans (h.mono HB.out.size)
          rw [HA.out, hE]
          exact rblock_any b W ⟨HV.out.1, (HV.out.2.1.keep h2 (Nat.le_refl _)).mono h2.size, fun t ht => ((HV.out.2.2 t ht).keep h2 (Nat.le_refl _)).mono h2.size⟩ HFA.out H34.out
        have HB9 := Lib.hid (below_step HB.out HB.out.size hb)
        clear hb
        go_wp2_with fail
        go_ret
        exact ⟨rfl, HB9.out⟩
      · have c68 := (HK2.out.cell 68).trans H68.out
        have z2 := HK2.out.lt
        obtain ⟨R, hR⟩ : ∃ R, R = (rootV (b.txs.map tID)).1 := ⟨_, rfl⟩
        obtain ⟨tw, htw⟩ : ∃ tw, tw = (rootV (b.txs.map tID)).2 := ⟨_, rfl⟩
        have hRid : IsId R := by rw [hR]; exact (rootV_id (b.txs.map tID) (tIDs_is b.txs))
        have hroot := r7root_any ls n lc b.txs wr ((HRV.out.keep HB.out (Nat.le_refl _)).mono HB.out.size) HN.out (fun t ht => ⟨((HV.out.2.2 t ht).keep HB.out (Nat.le_refl _)).mono HB.out.size, HFA.out t ht⟩) (by rw [HN.out]; exact H34.out)
        rw [← hR, ← htw] at hroot
        obtain ⟨RA, hRA⟩ : ∃ RA, RA = idA R := ⟨_, rfl⟩
        rw [← hRA] at hroot
        have HRI := Lib.hid hRid
        have HRA := Lib.hid hRA
        have hra32 : RA.size = 32 := by rw [hRA, idA_size, hRid.1]
        have ho1 : RA.all (·.oneCell') = true := by rw [hRA]; exact id_ones _
        clear hR htw hRid hRA
        go_wp2_with fail
        refine hroot.mono ?_
        rintro e w5 ⟨rfl, hb5⟩
        have HB5 := Lib.hid (below_step HB.out HB.out.size hb5)
        have HK25 := Lib.hid (HK2.out.keep hb5)
        have K7 : Bk (w5.alloc (.cells #[.int .u8 0, .int .u8 0, .int .u8 0, .int .u8 0, .int .u8 0, .int .u8 0, .int .u8 0, .int .u8 0, .int .u8 0, .int .u8 0, .int .u8 0, .int .u8 0, .int .u8 0, .int .u8 0, .int .u8 0, .int .u8 0, .int .u8 0, .int .u8 0, .int .u8 0, .int .u8 0, .int .u8 0, .int .u8 0, .int .u8 0, .int .u8 0, .int .u8 0, .int .u8 0, .int .u8 0, .int .u8 0, .int .u8 0, .int .u8 0, .int .u8 0, .int .u8 0] 22)) w5.heap.size 22 #[.int .u8 0, .int .u8 0, .int .u8 0, .int .u8 0, .int .u8 0, .int .u8 0, .int .u8 0, .int .u8 0, .int .u8 0, .int .u8 0, .int .u8 0, .int .u8 0, .int .u8 0, .int .u8 0, .int .u8 0, .int .u8 0, .int .u8 0, .int .u8 0, .int .u8 0, .int .u8 0, .int .u8 0, .int .u8 0, .int .u8 0, .int .u8 0, .int .u8 0, .int .u8 0, .int .u8 0, .int .u8 0, .int .u8 0, .int .u8 0, .int .u8 0, .int .u8 0] := Bk.new _ _ _
        have hth : (w5.alloc (.cells #[.int .u8 0, .int .u8 0, .int .u8 0, .int .u8 0, .int .u8 0, .int .u8 0, .int .u8 0, .int .u8 0, .int .u8 0, .int .u8 0, .int .u8 0, .int .u8 0, .int .u8 0, .int .u8 0, .int .u8 0, .int .u8 0, .int .u8 0, .int .u8 0, .int .u8 0, .int .u8 0, .int .u8 0, .int .u8 0, .int .u8 0, .int .u8 0, .int .u8 0, .int .u8 0, .int .u8 0, .int .u8 0, .int .u8 0, .int .u8 0, .int .u8 0, .int .u8 0] 22)).there w5.heap.size 0 RA.size := Bk.there K7 _ (by rw [hra32]; decide)
        have hinr : (Tryd.prog.info? 22).map (·.size) = some RA.size := by rw [hra32]; kernel_rfl
        have K7' : Bk ((w5.alloc (.cells #[.int .u8 0, .int .u8 0, .int .u8 0, .int .u8 0, .int .u8 0, .int .u8 0, .int .u8 0, .int .u8 0, .int .u8 0, .int .u8 0, .int .u8 0, .int .u8 0, .int .u8 0, .int .u8 0, .int .u8 0, .int .u8 0, .int .u8 0, .int .u8 0, .int .u8 0, .int .u8 0, .int .u8 0, .int .u8 0, .int .u8 0, .int .u8 0, .int .u8 0, .int .u8 0, .int .u8 0, .int .u8 0, .int .u8 0, .int .u8 0, .int .u8 0, .int .u8 0] 22)).setCells w5.heap.size 0 RA.toList) w5.heap.size 22 RA := Bk.setAll K7 (by rw [hra32]; rfl)
        have hB7 : Below w5.heap.size w5 ((w5.alloc (.cells #[.int .u8 0, .int .u8 0, .int .u8 0, .int .u8 0, .int .u8 0, .int .u8 0, .int .u8 0, .int .u8 0, .int .u8 0, .int .u8 0, .int .u8 0, .int .u8 0, .int .u8 0, .int .u8 0, .int .u8 0, .int .u8 0, .int .u8 0, .int .u8 0, .int .u8 0, .int .u8 0, .int .u8 0, .int .u8 0, .int .u8 0, .int .u8 0, .int .u8 0, .int .u8 0, .int .u8 0, .int .u8 0, .int .u8 0, .int .u8 0, .int .u8 0, .int .u8 0] 22)).setCells w5.heap.size 0 RA.toList) := Below.setCells (Nat.le_refl _) _ _ _ ((Below.refl _ _).alloc (Nat.le_refl _) _)
        clear hb5 hroot c68 z2 HB HK2 K7
        go_upto_region 15 with (refine wpList_store_mid rfl 22 (.tmp 8) (.tmp 45) rfl w5.heap.size 0 RA rfl rfl hth hinr ho1 ?_)
        refine wp_any (fun W => Below w5.heap.size w5 W ∧ Bk W w5.heap.size 22 RA) ⟨hB7, K7'⟩ ?_
        clear hth hinr K7' hB7
        rintro W7 ⟨hB7, hK7⟩
        have HB7 := Lib.hid (below_step HB5.out HB5.out.size hB7)
        have HK27 := Lib.hid (HK25.out.keep hB7)
        have HK77 := Lib.hid hK7
        clear hB7 hK7 HB5 HK25
        generalize w5.heap.size = p7 at *
        have hth : W7.there p2 33 RA.size := there_at HK27.out 33 _ (by rw [hra32, HA69.out]; decide)
        have hin : (Tryd.prog.info? 23).map (·.size) = some RA.size := by rw [hra32]; kernel_rfl
        have hinl : (Tryd.prog.info? 22).map (·.size) = some RA.size := by rw [hra32]; kernel_rfl
        have K7 := HK77.out
        go_upto_region 16 with (first | (refine wpList_load_row rfl 22 (.tmp 8) rfl p7 rfl 22 RA (0, 0) _ K7 Tryd.underlying22 rfl hinl ?_) | (refine wpList_store_mid rfl 23 (.tmp 49) (.tmp 47) rfl p2 33 RA rfl rfl hth hin ho1 ?_))
        obtain ⟨A1, hA1⟩ : ∃ A, A = (blkL ⟨withR b.hd R, b.ls, b.lc, b.txs⟩).toArray := ⟨_, rfl⟩
        have K2n : Bk (W7.setCells p2 33 RA.toList) p2 40 A1 := by
          rw [hA1, show RA.toList = R.map byteV from by rw [HRA.out, idA_toList']]
          have hk := HK27.out
          rw [HA.out] at hk
          exact set_root HV.out.1 HRI.out hk
        have hB8 : Below w.heap.size w (W7.setCells p2 33 RA.toList) := Below.setCells (by rw [HP2.out]; exact Nat.le_refl _) _ _ _ HB7.out
        have hA169 : A1.size = 69 := by rw [hA1, List.size_toArray]; exact blkL_len (withR_is HV.out.1 HRI.out)
        have HB8 := Lib.hid hB8
        have HK8 := Lib.hid K2n
        clear hth hin hinl K7 K2n hB8 HB7 HK27 HK77
        generalize W7.setCells p2 33 RA.toList = W8 at *
        obtain ⟨E, hE⟩ : ∃ E, E = blkE ⟨withR b.hd R, b.ls, b.lc, b.txs⟩ := ⟨_, rfl⟩
        refine region16 W8 p2 E A1 hA169 HK8.out ?_ ?_ (fun x50 x51 x52 x53 x54 w' hb => ?_)
        · show ∀ _, _
          intro W h
          have h2 := HB8.out.trans (h.mono HB8.out.size)
          rw [hA1, hE]
          exact cblock_any ⟨withR b.hd R, b.ls, b.lc, b.txs⟩ W ⟨withR_is HV.out.1 HRI.out, (HV.out.2.1.keep h2 (Nat.le_refl _)).mono h2.size, fun t ht => ((HV.out.2.2 t ht).keep h2 (Nat.le_refl _)).mono h2.size⟩ HFA.out H34.out (HLD.out.keep h2)
        · show ∀ _, _
          intro W h
          have h2 := HB8.out.trans (h.mono HB8.out.size)
          rw [hA1, hE]
          exact rblock_any ⟨withR b.hd R, b.ls, b.lc, b.txs⟩ W ⟨withR_is HV.out.1 HRI.out, (HV.out.2.1.keep h2 (Nat.le_refl _)).mono h2.size, fun t ht => ((HV.out.2.2 t ht).keep h2 (Nat.le_refl _)).mono h2.size⟩ HFA.out H34.out
        have HB9 := Lib.hid (below_step HB8.out HB8.out.size hb)
        clear hb
        go_wp2_with fail
        go_ret
        exact ⟨rfl, HB9.out⟩
end Go.Proofs.YtmjiadfdmchhaaaDoor.checkBlocks
