/-
  What is proved: for every list of ticks, and whether pings are answered, the law PeerClock returns true, and its argument reads behind the call as it read before it; the three listed tables, two of package hash and one of package msg, are taken to hold what the program's text lays in them, and the card ties them to it.
-/
import Derived.Test.YtjnbdajdllpchaaDoorPcI
import Derived.Test.YtjnbdajdllpchaaDoorTie
import Derived.Test.YtjnbdajdllpchaaDoorCards
import Derived.Stop.Joined
namespace Go.Proofs.YtjnbdajdllpchaaDoor.peerClock
open Go.ChangeShapes Go.WideShapes Go.ChangeAt Go.RowKit
set_option linter.unusedVariables false

theorem own : ownKnob Tryd.prog.godebug = none := by kernel_rfl
theorem laidOut : laidOutB Tryd.prog = true := by kernel_rfl
theorem wf_i64 {z : Int} (h : (Lit.int .i64 z).wf = true) : -9223372036854775808 ≤ z ∧ z ≤ 9223372036854775807 := by
  simp [Lit.wf, IntKind.min, IntKind.max, IntKind.signed, IntKind.bits] at h
  omega
set_option maxRecDepth 100000 in
set_option maxHeartbeats 8000000 in
theorem clockR {t0 t1 t2 t3 t4 t5 t6 t7 t8 t10 t11 t12 t14 t15 t16 t17 t18 t19 t20 t21 t22 t23 t24 t25 t26 t27 t28 t29 t30 t31 t32 t33 t34 t35 t36 t37 t38 t39 t40 t41 t42 t43 t44 t45 t46 t47 t48 t49 t50 t51 t52 t53 t54 t55 t56 t57 t58 t59 t60 t61 t62 t63 t64 t65 t66 t67 t68 t69 t70 t71 t72 t73 t74 t75 t76 t77 t78 t79 t80 t81 t82 t83 t84 t85 t86 t87 t88 t89 t90 t91 t92 t93 t94 t95 t96 t97 t98 t99 t100 t101 : Value} {Q : Exit → Act → World → Prop} (V : World) (nw : Nat) (t : Int) (hn : nw ≤ 100000) (ht : -9223372036854775808 ≤ t ∧ t ≤ 9223372036854775807)
    (hQ : ∀ (x44 x45 x46 x47 x48 : Value) (z : Int), z = (nw : Int) + max 0 (min t 59) → Q .normal { tmps := List.toArray (t0 :: t1 :: t2 :: t3 :: t4 :: t5 :: t6 :: t7 :: t8 :: .int .i64 z :: t10 :: t11 :: t12 :: .int .i64 t :: t14 :: t15 :: t16 :: t17 :: t18 :: t19 :: t20 :: t21 :: t22 :: t23 :: t24 :: t25 :: t26 :: t27 :: t28 :: t29 :: t30 :: t31 :: t32 :: t33 :: t34 :: t35 :: t36 :: t37 :: t38 :: t39 :: t40 :: t41 :: t42 :: t43 :: x44 :: x45 :: x46 :: x47 :: x48 :: t49 :: t50 :: t51 :: t52 :: t53 :: t54 :: t55 :: t56 :: t57 :: t58 :: t59 :: t60 :: t61 :: t62 :: t63 :: t64 :: t65 :: t66 :: t67 :: t68 :: t69 :: t70 :: t71 :: t72 :: t73 :: t74 :: t75 :: t76 :: t77 :: t78 :: t79 :: t80 :: t81 :: t82 :: t83 :: t84 :: t85 :: t86 :: t87 :: t88 :: t89 :: t90 :: t91 :: t92 :: t93 :: t94 :: t95 :: t96 :: t97 :: t98 :: t99 :: t100 :: t101 :: []), defers := [] } V) :
    Code.wp Tryd.prog (Code.region 12 #[{ dst := some 44, op := Op.move (Operand.tmp 9), type := 3, pos := "law.go:316", after := #[], guard := none },
{ dst := some 45, op := Op.move (Operand.tmp 13), type := 3, pos := "law.go:316", after := #[], guard := none },
{ dst := some 46, op := Op.call { callee := Callee.builtin Builtin.min, args := #[Operand.tmp 45, Operand.const (Value.int IntKind.i64 59)], argTypes := #[3, 3] }, type := 3, pos := "law.go:316", after := #[{ on := 1, ground := Ground.data }], guard := none },
{ dst := some 47, op := Op.call { callee := Callee.builtin Builtin.max, args := #[Operand.const (Value.int IntKind.i64 0), Operand.tmp 46], argTypes := #[3, 3] }, type := 3, pos := "law.go:316", after := #[{ on := 2, ground := Ground.data }], guard := none },
{ dst := some 48, op := Op.binOp BinOp.add 3 (Operand.tmp 44) (Operand.tmp 47) 3, type := 3, pos := "law.go:316", after := #[{ on := 0, ground := Ground.data }, { on := 3, ground := Ground.data }], guard := none },
{ dst := some 9, op := Op.assign (Operand.tmp 48), type := 3, pos := "law.go:316", after := #[{ on := 4, ground := Ground.data }, { on := 0, ground := Ground.phase }, { on := 1, ground := Ground.phase }, { on := 2, ground := Ground.phase }, { on := 3, ground := Ground.phase }, { on := 4, ground := Ground.phase }], guard := none }] false) Q { tmps := List.toArray (t0 :: t1 :: t2 :: t3 :: t4 :: t5 :: t6 :: t7 :: t8 :: .int .i64 (nw : Int) :: t10 :: t11 :: t12 :: .int .i64 t :: t14 :: t15 :: t16 :: t17 :: t18 :: t19 :: t20 :: t21 :: t22 :: t23 :: t24 :: t25 :: t26 :: t27 :: t28 :: t29 :: t30 :: t31 :: t32 :: t33 :: t34 :: t35 :: t36 :: t37 :: t38 :: t39 :: t40 :: t41 :: t42 :: t43 :: t44 :: t45 :: t46 :: t47 :: t48 :: t49 :: t50 :: t51 :: t52 :: t53 :: t54 :: t55 :: t56 :: t57 :: t58 :: t59 :: t60 :: t61 :: t62 :: t63 :: t64 :: t65 :: t66 :: t67 :: t68 :: t69 :: t70 :: t71 :: t72 :: t73 :: t74 :: t75 :: t76 :: t77 :: t78 :: t79 :: t80 :: t81 :: t82 :: t83 :: t84 :: t85 :: t86 :: t87 :: t88 :: t89 :: t90 :: t91 :: t92 :: t93 :: t94 :: t95 :: t96 :: t97 :: t98 :: t99 :: t100 :: t101 :: []), defers := [] } V := by
  have HQ := Lib.hid hQ
  clear hQ
  go_wp2_with fail
  all_goals refine HQ.out _ _ _ _ _ _ ?_
  all_goals first | omega | (unfold wrap64; omega)
set_option maxRecDepth 100000 in
set_option maxHeartbeats 8000000 in
theorem walk (L : List Int) (f : Bool) (v : Value) (w : World) (hL : LaidM w) (hR : RowV intR w w.heap.size v L) (hI : ∀ z ∈ L, -9223372036854775808 ≤ z ∧ z ≤ 9223372036854775807) :
    Calls Tryd.prog 8 #[v, .bool f] w fun e w' => e = .returned (.bool true) ∧ Below w.heap.size w w' := by
  obtain ⟨s0, c, rfl⟩ := hR.slice
  obtain ⟨n, hnl⟩ : ∃ n, n = L.length := ⟨_, rfl⟩
  rw [← hnl] at hR ⊢
  have HN := Lib.hid hnl
  have HLD := Lib.hid hL
  have HI := Lib.hid hI
  have HROW : Hid (∀ k, k < n → ∃ x b o, L[k]? = some x ∧ s0 = some ⟨b, o, none⟩ ∧ b < w.heap.size ∧ w.rangeAt b (o + k * 1) [.int .i64 x]) := by
    show ∀ k, k < n → _
    rw [hnl]
    exact row_at hR
  have h63 : n < 9223372036854775808 := by
    obtain ⟨_, _, e, h1, h2, _⟩ := hR
    omega
  have hlo : 3 + 1 ≤ w.heap.size := hL.size
  have HLO := Lib.hid hlo
  have HSY := Lib.hid (greets_any w hL)
  clear hR hI hL hnl hlo
  go_enter Tryd.func8, Tryd.ntmps8
  go_wp2_with fail
  refine HSY.out.mono ?_
  rintro e w1 ⟨rfl, hb1⟩
  have HB1 := Lib.hid hb1
  clear hb1 HSY
  by_cases h60 : 60 < n
  · have d60 : decide ((60 : Int) < (n : Int)) = true := decide_eq_true (by omega)
    go_wp2_with fail
    go_ret
    exact ⟨rfl, HB1.out⟩
  have d60 : decide ((60 : Int) < (n : Int)) = false := decide_eq_false (by omega)
  have HNW : Hid (Calls Tryd.prog 11 #[.int .u64 9, .int .u32 1, .int .i64 0] w1 fun r w' => ∃ p b, r = .returned (.tuple #[.pointer (some ⟨p, 0, none⟩), .slice (some ⟨b, 0, none⟩) 1 1]) ∧ w1.heap.size ≤ p ∧ PeK w' p (pe0 9 0) (.slice none 0 0) ∧ w1.heap.size ≤ b ∧ Bk w' b 58 (msR.c (verM 9 1)).toArray ∧ Below w1.heap.size w1 w') := new_any 9 1 0 w1
  go_wp2_with fail
  refine HNW.out.mono ?_
  rintro r w2 ⟨p, b, rfl, hp, hK, hb, hKb, hB⟩
  have HP : Hid (w.heap.size ≤ p) := Nat.le_trans HB1.out.size hp
  have hb2 := below_step HB1.out HB1.out.size hB
  have R8 : RowV msR (w2.alloc (.cells (msR.flat [verM 6 0, vk2]).toArray 58)) (w2.alloc (.cells (msR.flat [verM 6 0, vk2]).toArray 58)).heap.size (.slice (some ⟨w2.heap.size, 0, none⟩) 2 2) [verM 6 0, vk2] := row_built msR_ok (n := 2) (Bk.new w2 58 _) rfl (by decide)
  have B8 : Below w2.heap.size w2 (w2.alloc (.cells (msR.flat [verM 6 0, vk2]).toArray 58)) := (Below.refl _ _).alloc (Nat.le_refl _) _
  have HBB := Lib.hid (below_step hb2 hb2.size B8)
  have HHK := Lib.hid (hK.keep B8)
  have hal := mall_any (some ⟨w2.heap.size, 0, none⟩) 2 2 [verM 6 0, vk2] _ R8 (fun x hx => by
    rcases List.mem_cons.1 hx with rfl | hx
    · exact ver_ok 6 0 (by decide) (by decide) _ _
    · rw [List.mem_singleton.1 hx]; exact vk2_ok _ _) (by decide) (HLD.out.below HBB.out HLO.out)
  rw [hel_all] at hal
  have HAL : Hid (Calls Tryd.prog 26 #[.slice (some ⟨w2.heap.size, 0, none⟩) 2 2] (w2.alloc (.cells (msR.flat [verM 6 0, vk2]).toArray 58)) fun r w' => ∃ v', r = .returned (.tuple #[v', .int .i64 0]) ∧ Below (w2.alloc (.cells (msR.flat [verM 6 0, vk2]).toArray 58)).heap.size (w2.alloc (.cells (msR.flat [verM 6 0, vk2]).toArray 58)) w' ∧ Mine w' (w2.alloc (.cells (msR.flat [verM 6 0, vk2]).toArray 58)).heap.size v' (helB 6 0)) := hal.mono fun r w' ⟨v', e, h1, h2, _⟩ => ⟨v', e, h1, h2 rfl⟩
  clear hp hK hb hKb hB hb2 R8 B8 hal HNW d60
  go_wp2_with (refine wpList_bsR2 msR_ok (by decide) rfl (.tmp 29) (.tmp 30) rfl (verM 6 0) vk2 (by show Value.agg ((Tryd.zeroCells58.setIfInBounds 0 (.int .i64 1)).setIfInBounds 1 (.int .u64 6)) = _; exact congrArg Value.agg (ver_cells0 6)) (by show Value.agg (Tryd.zeroCells58.setIfInBounds 0 (.int .i64 2)) = _; rw [m2_cells]; rfl) ?_)
  refine HAL.out.mono ?_
  rintro r w3 ⟨bv, rfl, hb3, hm3⟩
  obtain ⟨sb, cb, hbv⟩ := hm3.slice
  subst hbv
  have hK3 := HHK.out.keep hb3
  have hB3 := below_step HBB.out HBB.out.size hb3
  have hlt := HLO.out
  have hhe := hear_any p w.heap.size (pe0 9 0) (.slice none 0 0) (helB 6 0) sb (helB 6 0).length cb w3 (HLD.out.below hB3 hlt) hlt HP.out hK3 (.inl ⟨rfl, rfl⟩) (pe0_sc 9 0) (pe0_fs 9 0) hB3.size (bsn_mine hm3 (helB_lt 6 0) (fun k hk h => by
    rcases h with h | h
    · have := HHK.out.lt; omega
    · exact slb_none _ _ _ h)) (Nat.le_trans (helB_len 6 0) (by decide))
  have HHE := Lib.hid hhe
  have HB3 := Lib.hid hB3
  clear hm3 hK3 hB3 hlt hhe hb3 HAL HHK HBB
  go_wp2_with fail
  refine HHE.out.mono ?_
  rintro r w4 ⟨v', vs, va, S, A, rfl, hK4, hM4, hS4, hA4, hkS, hkA, hbt, hsl⟩
  rw [hear_hello 9 6 0 0 hel_d60.1 hel_d60.2.1 hel_d60.2.2 (by decide)] at hK4 hM4
  have HK4 := Lib.hid hK4
  have HM4 := Lib.hid hM4
  have HB4 : Hid (Below w.heap.size w w4) := HB3.out.trans (hbt.below HB3.out.size (fun k hk => by
    rcases hk with h | h
    · rw [h]; exact HP.out
    · exact absurd h (slb_none _ _ _)))
  have hn60 : n ≤ 60 := by omega
  clear hK4 hM4 hkS hkA hS4 hA4 hbt hsl HHE HB3 h60
  go_wp2_with fail
  go_loopw [9, 10, 11, 40] (fun nv sv wv i wr => ∃ (k nw si : Nat) (wt : Bool) (v' : Value), k ≤ n ∧ si ≤ nw ∧ nw ≤ 59 * k ∧ nv = .int .i64 nw ∧ sv = .int .i64 si ∧ wv = .bool wt ∧ i = .int .i64 k ∧ Hid (PeK wr p ⟨0, 9, (si : Int), wt, [], 0, true, true, 0⟩ v') ∧ Hid (Mine wr w.heap.size v' []) ∧ Hid (Below w.heap.size w wr)) (fun _ _ _ i _ => n - (intOf i).toNat)
  case atStart => exact ⟨0, 0, 0, false, v', Nat.zero_le _, Nat.le_refl _, Nat.zero_le _, rfl, rfl, rfl, rfl, HK4.out, HM4.out, HB4.out⟩
  case round =>
    clear HK4 HM4 HB4
    obtain ⟨k, nw, si, wt, v', hk, hsn, hnk, rfl, rfl, rfl, rfl, HK, HM, HB⟩ := hrel
    by_cases hlt : k < n
    · obtain ⟨t, bb, oo, hkt, hse, hbw, hrg⟩ := HROW.out k hlt
      subst hse
      have j1 : decide ((k : Int) < (n : Int)) = true := decide_eq_true (by omega)
      have hrg := rr_below hrg HB.out hbw
      have r0 : wr.cell? ⟨bb, oo + k * 1, none⟩ = some (.int .i64 t) := hrg 0 _ rfl
      rw [Nat.mul_one] at r0
      have hit := HI.out t (List.mem_of_getElem? hkt)
      have hkn : k ≤ 60 := by omega
      clear hrg hkt
      go_upto_region 12 with fail
      refine clockR wr nw t (by omega) hit (fun x44 x45 x46 x47 x48 z hz => ?_)
      obtain ⟨nw2, hz2, hn1, hn2⟩ : ∃ nw2 : Nat, z = (nw2 : Int) ∧ nw ≤ nw2 ∧ nw2 ≤ nw + 59 := ⟨z.toNat, by omega, by omega, by omega⟩
      subst hz2
      have hs2 : si ≤ nw2 := by omega
      have hnk2 : nw2 ≤ 59 * (k + 1) := by omega
      have HT := Lib.hid (tick_any p _ v' (nw2 : Int) wr HK.out ⟨by show (0 : Int) ≤ (si : Int); omega, by show (si : Int) ≤ (nw2 : Int); omega, by omega⟩ (by show 9 < _; decide))
      obtain ⟨dd, hdd⟩ : ∃ dd : Nat, dd = nw2 - si := ⟨_, rfl⟩
      have hsub : (nw2 : Int) - (si : Int) = (dd : Int) := by omega
      have HSUB := Lib.hid hsub
      have HDD := Lib.hid hdd
      clear hz hit r0 hdd hsub
      go_wp2_with fail
      refine HT.out.mono ?_
      rintro r w5 ⟨vl, L5, rfl, hK5, hM5, hk5, hb5⟩
      have hsub := HSUB.out
      have hwr : IntKind.i64.wrap (dd : Int) = (dd : Int) := IntWalk.i64_in _ (by omega)
      have HP5 : Hid (Below w.heap.size w w5) := HB.out.trans (hb5.below HB.out.size (fun j hj => by have e : j = p := hj; rw [e]; exact HP.out))
      have HM5 : Hid (Mine w5 w.heap.size v' []) := HM.out.but' hb5 HK.out (by decide)
      rcases Bool.eq_false_or_eq_true wt with rfl | rfl
      · have e5 : tickF ⟨0, 9, (si : Int), true, [], 0, true, true, 0⟩ (nw2 : Int) = (⟨0, 9, (si : Int), true, [], 0, true, true, 0⟩, [], decide ((dd : Int) < 60)) := by
          unfold tickF
          rw [if_neg (by simp), if_pos rfl]
          show (_, [], decide ((nw2 : Int) - (si : Int) < 60)) = _
          rw [hsub]
        rw [e5] at hK5 hk5 ⊢
        obtain rfl := keys_nil hk5
        obtain ⟨sl, cl, hvl⟩ := hM5.slice
        subst hvl
        have HK5 := Lib.hid hK5
        clear hK5 hM5 hk5 hb5 HT e5
        by_cases h6 : dd < 60
        · have d1 : decide ((dd : Int) < 60) = true := decide_eq_true (by omega)
          have d2 : decide ((60 : Int) ≤ (dd : Int)) = false := decide_eq_false (by omega)
          simp only [d1]
          go_wp2_with fail
          go_roundw
          case rel => exact ⟨k + 1, nw2, si, true, v', by omega, hs2, hnk2, rfl, rfl, rfl, by go_num, HK5, HM5, HP5⟩
          case measure => simp [intOf]; omega
        · have d1 : decide ((dd : Int) < 60) = false := decide_eq_false (by omega)
          have d2 : decide ((60 : Int) ≤ (dd : Int)) = true := decide_eq_true (by omega)
          simp only [d1]
          go_wp2_with fail
          go_ret
          exact ⟨rfl, HP5.out⟩
      · by_cases h12 : dd < 120
        · have d1 : decide ((120 : Int) ≤ (dd : Int)) = false := decide_eq_false (by omega)
          have e5 : tickF ⟨0, 9, (si : Int), false, [], 0, true, true, 0⟩ (nw2 : Int) = (⟨0, 9, (si : Int), false, [], 0, true, true, 0⟩, [], true) := by
            unfold tickF
            rw [if_neg (by simp), if_neg (by simp), if_pos (by show (nw2 : Int) - (si : Int) < 120; omega)]
          rw [e5] at hK5 hk5 ⊢
          obtain rfl := keys_nil hk5
          obtain ⟨sl, cl, hvl⟩ := hM5.slice
          subst hvl
          have HK5 := Lib.hid hK5
          clear hK5 hM5 hk5 hb5 HT e5
          go_wp2_with fail
          go_roundw
          case rel => exact ⟨k + 1, nw2, si, false, v', by omega, hs2, hnk2, rfl, rfl, rfl, by go_num, HK5, HM5, HP5⟩
          case measure => simp [intOf]; omega
        · have d1 : decide ((120 : Int) ≤ (dd : Int)) = true := decide_eq_true (by omega)
          have e5 : tickF ⟨0, 9, (si : Int), false, [], 0, true, true, 0⟩ (nw2 : Int) = (⟨0, 9, (nw2 : Int), true, [], 0, true, true, 0⟩, [pingK (9 + (nw2 : Int).toNat)], true) := by
            unfold tickF
            rw [if_neg (by simp), if_neg (by simp), if_neg (by show ¬ (nw2 : Int) - (si : Int) < 120; omega)]
          rw [e5] at hK5 hk5 ⊢
          obtain ⟨y, rfl, hy⟩ := keys_one hk5
          obtain ⟨NN, hNN⟩ : ∃ NN, NN = 9 + (nw2 : Int).toNat := ⟨_, rfl⟩
          rw [← hNN] at hy
          have HNN := Lib.hid hNN
          obtain ⟨sl, cl, hvl⟩ := hM5.slice
          subst hvl
          obtain ⟨x, b5, o5, hx0, hse, hbw5, hrg5⟩ := row_at (show RowV msR w5 w5.heap.size (.slice sl [y].length cl) [y] from hM5.rows msR_ok) 0 (by simp)
          have hxy : y = x := by simpa using hx0
          subst hxy
          subst hse
          have r1 : w5.cell? ⟨b5, o5 + 1, none⟩ = some (.int .u64 (y.1.nc : Int)) := hrg5 1 _ rfl
          rw [show y.1.nc = NN from congrArg (fun k : KeyM => k.2.1) hy] at r1
          have HK5 := Lib.hid hK5
          clear hK5 hM5 hk5 hb5 HT e5 hx0 hrg5 hy hNN
          cases f
          · go_wp2_with fail
            go_roundw
            case rel => exact ⟨k + 1, nw2, nw2, true, v', by omega, Nat.le_refl _, hnk2, rfl, rfl, rfl, by go_num, HK5, HM5, HP5⟩
            case measure => simp [intOf]; omega
          · have hnn : NN < 18446744073709551616 := by have := HNN.out; omega
            have hen := mencode_any (pongM NN).1 w5 (pong_ok NN hnn w5 w5.heap.size).1 (pong_ok NN hnn w5 w5.heap.size).2 (HLD.out.below HP5.out HLO.out)
            have HEN : Hid (Calls Tryd.prog 27 #[.agg ((Tryd.zeroCells58.setIfInBounds 0 (.int .i64 10)).setIfInBounds 1 (.int .u64 (NN : Int)))] w5 fun r w' => ∃ v', r = .returned (.tuple #[v', .int .i64 0]) ∧ Below w5.heap.size w5 w' ∧ Mine w' w5.heap.size v' (encL (kindL 10) (toL NN 8))) := by
              rw [ms10_cells]
              exact hen.mono fun r w' ⟨v', e, h1, h2, _⟩ => ⟨v', e, h1, h2 rfl⟩
            clear hen
            go_wp2_with fail
            refine HEN.out.mono ?_
            rintro r w6 ⟨bv, rfl, hb6, hm6⟩
            obtain ⟨sb6, cb6, hbv⟩ := hm6.slice
            subst hbv
            have hK6 := HK5.out.keep hb6
            have hB6 := below_step HP5.out HP5.out.size hb6
            have hM6 := HM5.out.keep hb6
            have hhe := hear_any p w.heap.size _ v' (encL (kindL 10) (toL NN 8)) sb6 (encL (kindL 10) (toL NN 8)).length cb6 w6 (HLD.out.below hB6 HLO.out) HLO.out HP.out hK6 hM6 (show ScOk _ from (by show (0 : Int) ≤ 0 ∧ (0 : Int) ≤ 100; decide)) ⟨FOk.zero [], (by intro x hx; cases hx), (by intro x hx; cases hx)⟩ hB6.size (bsn_mine hm6 (encL_lt _ _ (by decide) (toL_lt 8 NN)) (fun j hj h => by
              rcases h with h | h
              · have := HK5.out.lt; omega
              · have := (HM5.out.slb_lo h).2.1; omega)) (Nat.le_trans (encL_pong_len NN) (by decide))
            have HHE := Lib.hid hhe
            have HB6 := Lib.hid hB6
            have HM6 := Lib.hid hM6
            clear hm6 hK6 hB6 hM6 hhe hb6 HEN r1
            go_wp2_with fail
            refine HHE.out.mono ?_
            rintro r w7 ⟨v7, vs7, va7, S7, A7, rfl, hK7, hM7, hS7, hA7, hkS7, hkA7, hbt7, hsl7⟩
            have eh : hearM ⟨0, 9, (nw2 : Int), true, [], 0, true, true, 0⟩ (encL (kindL 10) (toL NN 8)) = (⟨0, 9, (nw2 : Int), false, [], 0, true, true, 0⟩, [], []) := by
              rw [pong_hear _ NN hnn rfl rfl rfl (by show (0 : Int) ≠ 100; decide)]
              unfold ansF
              rw [if_pos (by
                rw [beq_iff_eq, curI_of _ (by show (0 : Int) ≤ (nw2 : Int); omega) (by show (9 : Int) + (nw2 : Int) < _; omega), HNN.out])]
            rw [eh] at hK7 hM7
            have HK7 := Lib.hid hK7
            have HM7 := Lib.hid hM7
            have HB7 : Hid (Below w.heap.size w w7) := HB6.out.trans (hbt7.below HB6.out.size (fun j hj => by
              rcases hj with h | h
              · rw [h]; exact HP.out
              · exact (HM6.out.slb_lo h).1))
            clear hK7 hM7 hS7 hA7 hkS7 hkA7 hbt7 hsl7 HHE eh
            go_wp2_with fail
            go_roundw
            case rel => exact ⟨k + 1, nw2, nw2, false, v7, by omega, Nat.le_refl _, hnk2, rfl, rfl, rfl, by go_num, HK7, HM7, HB7⟩
            case measure => simp [intOf]; omega
    · obtain rfl : k = n := by omega
      have j1 : decide ((k : Int) < (k : Int)) = false := decide_eq_false (by omega)
      have HSC := Lib.hid (score_any p _ v' wr HK.out)
      have zp := HK.out.lt
      clear hlt
      go_wp2_with fail
      refine HSC.out.mono ?_
      rintro r w5 ⟨rfl, e5⟩
      subst w5
      go_wp2_with fail
      go_ret
      exact ⟨rfl, HB.out⟩
end Go.Proofs.YtjnbdajdllpchaaDoor.peerClock
