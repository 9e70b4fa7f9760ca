/-
  Texts in one: PsA, PsR.
-/
import Derived.Test.YtjnbdajdllpchaaDoorDeA
import Derived.Test.YtjnbdajdllpchaaDoorPeZ
import Derived.Test.YtjnbdajdllpchaaDoorMsL
import Derived.Test.YtjnbdajdllpchaaDoorStG
import Derived.Test.YtjnbdajdllpchaaDoorFrA
import Derived.Test.YtjnbdajdllpchaaDoorHrB
namespace Go.Proofs.YtjnbdajdllpchaaDoor
open Go.RowKit
set_option linter.unusedVariables false
set_option linter.unusedSimpArgs false
set_option maxRecDepth 100000
theorem MsFit_of_key {x : MsI} (h : MgFit x) (hk : ∀ t ∈ x.1.bk.txs, ∀ i ∈ t.ins, i.key.length ≤ 1100000) : MsFit x.1 :=
  ⟨Nat.le_trans h.1 (by decide), Nat.le_trans h.2.1 (by decide), fun _ => ⟨Nat.le_trans h.2.2.1 (by decide), fun t ht => ⟨Nat.le_trans (h.2.2.2 t ht).1 (by decide), Nat.le_trans (h.2.2.2 t ht).2 (by decide), fun i hi => hk t ht i hi⟩⟩⟩
/-- Encode, with a slice whatever comes. -/
theorem menc_slice (y : MsM) (w : World) (hV : MsV w w.heap.size y) (hF : MsFit y) (hL : LaidM w) :
    Calls Tryd.prog 27 #[.agg (msL y).toArray] w fun r w' => ∃ s c, r = .returned (.tuple #[.slice s (encB y).length c, .int .i64 ((msE y : Nat) : Int)]) ∧ Below w.heap.size w w' ∧ Mine w' w.heap.size (.slice s (encB y).length c) (encB y) := by
  refine (mencode_any y w hV hF hL).mono ?_
  rintro r w' ⟨v8, rfl, hb8, hg, hbad⟩
  by_cases hm : msE y = 0
  · have hM := hg hm
    have e : encB y = encL (kindL y.kd.toNat) (dataL y) := by unfold encB; rw [if_pos hm]
    rw [← e] at hM
    obtain ⟨s, c, rfl⟩ := hM.slice
    exact ⟨s, c, rfl, hb8, hM⟩
  · have e : encB y = [] := by unfold encB; rw [if_neg hm]
    rw [e, hbad hm]
    exact ⟨none, 0, rfl, hb8, .inl ⟨rfl, rfl⟩⟩
theorem allB_lt {w : World} {B : Nat} {L : List MsI} (hV : ∀ x ∈ L, MsV w B x.1) : ∀ x ∈ allB L, x < 256 := by
  intro x hx
  unfold allB at hx
  simp only [List.mem_flatten, List.mem_map] at hx
  obtain ⟨_, ⟨m, hm, rfl⟩, h⟩ := hx
  exact encB_lt (hV m hm) x h
set_option maxHeartbeats 8000000 in
theorem bytesL_any (s0 : Option Addr) (n c : Nat) (L : List MsI) (w : World) (hR : RowV msR w w.heap.size (.slice s0 n c) L) (hV : ∀ x ∈ L, MsV w w.heap.size x.1 ∧ MsFit x.1) (hn : n ≤ 10) (hL : LaidM w) :
    Calls Tryd.prog 12 #[.slice s0 n c] w fun r w' => ∃ v', r = .returned v' ∧ Mine w' w.heap.size v' (allB L) ∧ Below w.heap.size w w' := by
  have hnl : n = L.length := by obtain ⟨s, cap, e, _⟩ := hR; injection e
  have HN := Lib.hid hnl
  have HV := Lib.hid hV
  have HLD := Lib.hid hL
  have HL : Hid (∀ k, k < n → ∃ x b o, L[k]? = some x ∧ s0 = some ⟨b, o, none⟩ ∧ b < w.heap.size ∧ w.rangeAt b (o + k * 106) (msL x.1)) := by
    show ∀ k, k < n → _
    rw [hnl]
    exact row_at hR
  have hlo : 3 + 1 ≤ w.heap.size := hL.size
  have HLO := Lib.hid hlo
  clear hR hV hL hnl hlo
  go_enter Tryd.func12, Tryd.ntmps12
  go_wp2_with fail
  go_loopw [3, 10] (fun ov i wr => ∃ (k : Nat) (v' : Value), k ≤ n ∧ ov = v' ∧ i = .int .i64 k ∧ Hid (Mine wr w.heap.size v' (allB (L.take k))) ∧ Hid (Below w.heap.size w wr)) (fun _ i _ => n - (intOf i).toNat)
  case atStart => exact ⟨0, .slice none 0 0, Nat.zero_le _, rfl, rfl, .inl ⟨rfl, rfl⟩, Below.refl _ _⟩
  case round =>
    obtain ⟨k, ov, hk, hov, rfl, HM, HB⟩ := hrel
    replace hov := hov.symm
    subst hov
    by_cases hlt : k < n
    · obtain ⟨x, b, o, hkt, rfl, hbw, hrg⟩ := HL.out k hlt
      have j1 : decide ((k : Int) < (n : Int)) = true := decide_eq_true (by omega)
      replace hrg := rr_below hrg HB.out hbw
      have hbr : b < wr.heap.size := Nat.lt_of_lt_of_le hbw HB.out.size
      have hxm := List.mem_of_getElem? hkt
      have HXV := Lib.hid ((HV.out x hxm).1.keep HB.out (Nat.le_refl _))
      have HFT := Lib.hid (HV.out x hxm).2
      have HST := Lib.hid (allB_take L k x hkt)
      obtain ⟨hstc, K6, B6⟩ := row_made msR_ok x wr Tryd.zeroCells58 58 (by rw [msz]; exact msL_len hd0_is)
      change (storeCells ⟨wr.heap.size, 0, none⟩ (msL x.1)).run Tryd.prog _ = .ok () ((wr.alloc _).setCells wr.heap.size 0 (msL x.1)) at hstc
      change Bk ((wr.alloc _).setCells wr.heap.size 0 (msL x.1)) wr.heap.size 58 (msL x.1).toArray at K6
      change Below wr.heap.size wr ((wr.alloc _).setCells wr.heap.size 0 (msL x.1)) at B6
      have hpl : (msL x.1).length = 106 := msL_len x.2
      have hps : (Tryd.prog.info? 58).map (·.size) = some (msL x.1).length := by rw [hpl]; exact msi_r
      have hLM : (allB (L.take k)).length ≤ 8216 * 10 := by
        have h1 := allB_len (L.take k)
        have h2 := List.length_take_le k L
        have h3 : (L.take k).length ≤ 10 := by omega
        omega
      have HLM := Lib.hid hLM
      have HB6 := Lib.hid B6
      obtain ⟨Y, hY⟩ : ∃ Y, Y = allB (L.take k) := ⟨_, rfl⟩
      rw [← hY] at HST HLM HM
      obtain ⟨PL, hPL⟩ : ∃ PL, PL = msL x.1 := ⟨_, rfl⟩
      have HPL := Lib.hid hPL
      rw [← hPL] at hrg hstc K6 hpl hps HB6
      have HPS := Lib.hid hps
      clear hPL hkt hxm hLM hY B6
      go_upto_region 5 with (refine wpList_load_mid rfl 58 (.tmp 12) rfl b (o + k * 106) rfl PL _ hrg Tryd.underlying58 rfl hps ?_)
      refine wp_any (fun W => Below wr.heap.size wr W ∧ Bk W wr.heap.size 58 PL.toArray) ⟨HB6.out, K6⟩ ?_
      clear HB6 K6 hstc hpl hps hrg hbr
      rintro W6 ⟨hW6, K6⟩
      have HB6 := Lib.hid (below_step HB.out HB.out.size hW6)
      have HM6 := Lib.hid (HM.out.keep hW6)
      have HXV6 : Hid (MsV W6 W6.heap.size x.1) := (HXV.out.keep (hW6.mono HB.out.size) (Nat.le_refl _)).mono HB6.out.size
      have HK6 := Lib.hid K6
      have z6 := K6.lt
      generalize wr.heap.size = g6 at *
      clear hW6 K6 HB HM HXV
      have hps := HPS.out
      have hrg := hd_range HK6.out
      have HEN := Lib.hid (menc_slice x.1 W6 HXV6.out HFT.out (HLD.out.below HB6.out HLO.out))
      rw [← HPL.out] at HEN
      go_wp2_with (refine wpList_load_mid rfl 58 (.tmp 5) rfl g6 0 rfl PL _ hrg Tryd.underlying58 rfl hps ?_)
      refine HEN.out.mono ?_
      rintro e W7 ⟨s7, c7, rfl, hb7, hM7⟩
      have HB7 := Lib.hid (below_step HB6.out HB6.out.size hb7)
      have hxl := encB_lt HXV6.out
      have hen := encB_len x.1
      obtain ⟨v8, W8, hrun, M8, B8, O8⟩ := app3 Y (encB x.1) ov (.slice s7 (encB x.1).length c7) w.heap.size W7 (HM6.out.keep hb7) HB7.out.size (hM7.bs hxl) (by have := HLM.out; omega)
      have HM8 : Hid (Mine W8 w.heap.size v8 (allB (L.take (k + 1)))) := by rw [HST.out]; exact M8
      have HB8 : Hid (Below w.heap.size w W8) := HB7.out.trans (B8.below HB7.out.size (fun j hj => (HM6.out.slb_lo hj).1))
      obtain ⟨bl, hbl⟩ : ∃ bl, bl = (encB x.1).length := ⟨_, rfl⟩
      rw [← hbl] at hrun ⊢
      obtain ⟨so, co, hov⟩ := HM6.out.slice
      subst hov
      clear hrg hps hM7 hb7 HEN M8 B8 O8 hxl hen hbl z6
      go_wp2_with (at_builtin; refine wpList_app (v1 := .slice so Y.length co) (v2 := .slice s7 bl c7) (v := v8) rfl (.tmp 19) (.tmp 20) rfl rfl rfl rfl hrun ?_)
      go_roundw
      case rel => exact ⟨k + 1, v8, by omega, rfl, by go_num, HM8, HB8⟩
      case measure => simp [intOf]; omega
    · obtain rfl : k = n := by omega
      have j1 : decide ((k : Int) < (k : Int)) = false := decide_eq_false (by omega)
      have HR2 : Hid (Mine wr w.heap.size ov (allB L)) := by
        have h := HM.out
        rw [HN.out, List.take_length] at h
        exact h
      obtain ⟨so, co, hov⟩ := HR2.out.slice
      subst hov
      clear hlt HM
      go_wp2_with fail
      go_ret
      exact ⟨_, rfl, HR2.out, HB.out⟩
end Go.Proofs.YtjnbdajdllpchaaDoor
namespace Go.Proofs.YtjnbdajdllpchaaDoor
open Go.RowKit
set_option linter.unusedVariables false
set_option linter.unusedSimpArgs false
set_option maxRecDepth 100000
def smallA_ops : Array Oper := #[{ dst := some 23, op := Op.move (Operand.tmp 3), type := 26, pos := "law.go:237", after := #[], guard := none },
{ dst := some 24, op := Op.fieldAddr 39 (Operand.tmp 7) 2, type := 0, pos := "law.go:237", after := #[], guard := none },
{ dst := some 25, op := Op.load 27 (Operand.tmp 24), type := 27, pos := "law.go:237", after := #[{ on := 1, ground := Ground.data }], guard := none },
{ dst := some 26, op := Op.call { callee := Callee.value (Operand.func 12), args := #[Operand.tmp 25], argTypes := #[27] }, type := 32, pos := "law.go:237", after := #[{ on := 2, ground := Ground.data }], guard := none },
{ dst := some 27, op := Op.fieldAddr 39 (Operand.tmp 7) 3, type := 0, pos := "law.go:237", after := #[], guard := none },
{ dst := some 28, op := Op.load 32 (Operand.tmp 27), type := 32, pos := "law.go:237", after := #[{ on := 4, ground := Ground.data }], guard := none },
{ dst := some 29, op := Op.call { callee := Callee.builtin Builtin.append, args := #[Operand.tmp 26, Operand.tmp 28], argTypes := #[32, 32] }, type := 32, pos := "law.go:237", after := #[{ on := 3, ground := Ground.data }, { on := 5, ground := Ground.data }, { on := 3, ground := Ground.chain }], guard := none },
{ dst := some 30, op := Op.call { callee := Callee.value (Operand.func 13), args := #[Operand.tmp 23, Operand.tmp 29], argTypes := #[26, 32] }, type := 41, pos := "law.go:237", after := #[{ on := 0, ground := Ground.data }, { on := 6, ground := Ground.data }, { on := 6, ground := Ground.chain }], guard := none }]
set_option maxRecDepth 100000 in
set_option maxHeartbeats 4000000 in
theorem smallA_3_6_7 (p p6 lo nl xlc nd xdc m1 : Nat) (xk xn : Int) (xls xds : Option Addr) (Y D : List Nat) (m : PeM) (v : Value) (V : World) (t0 t1 t2 t4 t5 t6 t8 t9 t10 t11 t12 t13 t14 t15 t16 t17 t18 t19 t20 t21 t22 t23 t24 t25 t26 t27 t28 t29 t30 t31 t32 t33 t34 t35 t36 t37 t38 t39 t40 t41 t42 t43 t44 t45 t46 t47 t48 t49 t50 t51 t52 t53 t54 t55 t56 t57 t58 t59 : Value) (Q : Exit → Act → World → Prop) (HD : Hid (Bk V p6 39 #[.int .i64 xk, .int .i64 xn, .slice xls nl xlc, .slice xds nd xdc])) (HDA : Hid (BsV V V.heap.size (.slice xds nd xdc) D)) (hlen : Y.length + D.length ≤ 1048576) (HNE : Hid (¬ (p6 = p ∨ slb v p6))) (HBY : Hid (∀ W, Below V.heap.size V W → Calls Tryd.prog 12 #[.slice xls nl xlc] W fun r w' => ∃ u, r = .returned u ∧ ∃ s c, u = .slice s m1 c ∧ Mine w' W.heap.size (.slice s m1 c) Y ∧ Below W.heap.size W w')) (HHE : Hid (∀ W v8, Below V.heap.size V W → Mine W V.heap.size v8 (Y ++ D) → Calls Tryd.prog 13 #[.pointer (some ⟨p, 0, none⟩), v8] W fun r w' => ∃ u, r = .returned u ∧ HearP W w' p lo v m (Y ++ D) (.returned u))) (HQ : Hid (∀ (x23 x24 x25 x26 x27 x28 x29 x30 : Value) (u : Value)  (w' : World), Bk w' p6 39 #[.int .i64 xk, .int .i64 xn, .slice xls nl xlc, .slice xds nd xdc] → (∃ W, Below V.heap.size V W ∧ HearP W w' p lo v m (Y ++ D) (.returned u)) → Q .normal { tmps := List.toArray (t0 :: t1 :: t2 :: .pointer (some ⟨p, 0, none⟩) :: t4 :: t5 :: t6 :: .pointer (some ⟨p6, 0, none⟩) :: t8 :: t9 :: t10 :: t11 :: t12 :: t13 :: t14 :: t15 :: t16 :: t17 :: t18 :: t19 :: t20 :: t21 :: t22 :: x23 :: x24 :: x25 :: x26 :: x27 :: x28 :: x29 :: x30 :: t31 :: t32 :: t33 :: t34 :: t35 :: t36 :: t37 :: t38 :: t39 :: t40 :: t41 :: t42 :: t43 :: t44 :: t45 :: t46 :: t47 :: t48 :: t49 :: t50 :: t51 :: t52 :: t53 :: t54 :: t55 :: t56 :: t57 :: t58 :: t59 :: []), defers := [] } w')) (s1 : Option Addr) (c1 : Nat) (v8 : Value) (u : Value) (w : World) (hB : Bk w p6 39 #[.int .i64 xk, .int .i64 xn, .slice xls nl xlc, .slice xds nd xdc]) (hh : ∃ W, Below V.heap.size V W ∧ HearP W w p lo v m (Y ++ D) (.returned u)) :
    wpAnyH Tryd.prog .any smallA_ops (NoPanic Q) (fun w' => Bk w' p6 39 #[.int .i64 xk, .int .i64 xn, .slice xls nl xlc, .slice xds nd xdc]) 0 #[true, true, true, true, true, true, true, true] { tmps := List.toArray (t0 :: t1 :: t2 :: .pointer (some ⟨p, 0, none⟩) :: t4 :: t5 :: t6 :: .pointer (some ⟨p6, 0, none⟩) :: t8 :: t9 :: t10 :: t11 :: t12 :: t13 :: t14 :: t15 :: t16 :: t17 :: t18 :: t19 :: t20 :: t21 :: t22 :: .pointer (some ⟨p, 0, none⟩) :: .pointer (some ⟨p6, 2, none⟩) :: .slice xls nl xlc :: .slice s1 m1 c1 :: .pointer (some ⟨p6, 3, none⟩) :: .slice xds nd xdc :: v8 :: u :: t31 :: t32 :: t33 :: t34 :: t35 :: t36 :: t37 :: t38 :: t39 :: t40 :: t41 :: t42 :: t43 :: t44 :: t45 :: t46 :: t47 :: t48 :: t49 :: t50 :: t51 :: t52 :: t53 :: t54 :: t55 :: t56 :: t57 :: t58 :: t59 :: []), defers := [] } w := by
  refine wpAnyH_done (by kernel_rfl) ?_ _
  refine NoPanic.normal ?_
  have hEnd := HQ.out (.pointer (some ⟨p, 0, none⟩)) (.pointer (some ⟨p6, 2, none⟩)) (.slice xls nl xlc) (.slice s1 m1 c1) (.pointer (some ⟨p6, 3, none⟩)) (.slice xds nd xdc) (v8) (u) u w hB hh
  exact hEnd

set_option maxRecDepth 100000 in
set_option maxHeartbeats 4000000 in
theorem smallA_3_6 (p p6 lo nl xlc nd xdc m1 : Nat) (xk xn : Int) (xls xds : Option Addr) (Y D : List Nat) (m : PeM) (v : Value) (V : World) (t0 t1 t2 t4 t5 t6 t8 t9 t10 t11 t12 t13 t14 t15 t16 t17 t18 t19 t20 t21 t22 t23 t24 t25 t26 t27 t28 t29 t30 t31 t32 t33 t34 t35 t36 t37 t38 t39 t40 t41 t42 t43 t44 t45 t46 t47 t48 t49 t50 t51 t52 t53 t54 t55 t56 t57 t58 t59 : Value) (Q : Exit → Act → World → Prop) (HD : Hid (Bk V p6 39 #[.int .i64 xk, .int .i64 xn, .slice xls nl xlc, .slice xds nd xdc])) (HDA : Hid (BsV V V.heap.size (.slice xds nd xdc) D)) (hlen : Y.length + D.length ≤ 1048576) (HNE : Hid (¬ (p6 = p ∨ slb v p6))) (HBY : Hid (∀ W, Below V.heap.size V W → Calls Tryd.prog 12 #[.slice xls nl xlc] W fun r w' => ∃ u, r = .returned u ∧ ∃ s c, u = .slice s m1 c ∧ Mine w' W.heap.size (.slice s m1 c) Y ∧ Below W.heap.size W w')) (HHE : Hid (∀ W v8, Below V.heap.size V W → Mine W V.heap.size v8 (Y ++ D) → Calls Tryd.prog 13 #[.pointer (some ⟨p, 0, none⟩), v8] W fun r w' => ∃ u, r = .returned u ∧ HearP W w' p lo v m (Y ++ D) (.returned u))) (HQ : Hid (∀ (x23 x24 x25 x26 x27 x28 x29 x30 : Value) (u : Value)  (w' : World), Bk w' p6 39 #[.int .i64 xk, .int .i64 xn, .slice xls nl xlc, .slice xds nd xdc] → (∃ W, Below V.heap.size V W ∧ HearP W w' p lo v m (Y ++ D) (.returned u)) → Q .normal { tmps := List.toArray (t0 :: t1 :: t2 :: .pointer (some ⟨p, 0, none⟩) :: t4 :: t5 :: t6 :: .pointer (some ⟨p6, 0, none⟩) :: t8 :: t9 :: t10 :: t11 :: t12 :: t13 :: t14 :: t15 :: t16 :: t17 :: t18 :: t19 :: t20 :: t21 :: t22 :: x23 :: x24 :: x25 :: x26 :: x27 :: x28 :: x29 :: x30 :: t31 :: t32 :: t33 :: t34 :: t35 :: t36 :: t37 :: t38 :: t39 :: t40 :: t41 :: t42 :: t43 :: t44 :: t45 :: t46 :: t47 :: t48 :: t49 :: t50 :: t51 :: t52 :: t53 :: t54 :: t55 :: t56 :: t57 :: t58 :: t59 :: []), defers := [] } w')) (s1 : Option Addr) (c1 : Nat) (v8 : Value) (w : World) (hB : Bk w p6 39 #[.int .i64 xk, .int .i64 xn, .slice xls nl xlc, .slice xds nd xdc]) (m8 : Mine w V.heap.size v8 (Y ++ D)) (bl8 : Below V.heap.size V w) :
    wpAnyH Tryd.prog .any smallA_ops (NoPanic Q) (fun w' => Bk w' p6 39 #[.int .i64 xk, .int .i64 xn, .slice xls nl xlc, .slice xds nd xdc]) 1 #[true, true, true, true, true, true, true, false] { tmps := List.toArray (t0 :: t1 :: t2 :: .pointer (some ⟨p, 0, none⟩) :: t4 :: t5 :: t6 :: .pointer (some ⟨p6, 0, none⟩) :: t8 :: t9 :: t10 :: t11 :: t12 :: t13 :: t14 :: t15 :: t16 :: t17 :: t18 :: t19 :: t20 :: t21 :: t22 :: .pointer (some ⟨p, 0, none⟩) :: .pointer (some ⟨p6, 2, none⟩) :: .slice xls nl xlc :: .slice s1 m1 c1 :: .pointer (some ⟨p6, 3, none⟩) :: .slice xds nd xdc :: v8 :: t30 :: t31 :: t32 :: t33 :: t34 :: t35 :: t36 :: t37 :: t38 :: t39 :: t40 :: t41 :: t42 :: t43 :: t44 :: t45 :: t46 :: t47 :: t48 :: t49 :: t50 :: t51 :: t52 :: t53 :: t54 :: t55 :: t56 :: t57 :: t58 :: t59 :: []), defers := [] } w := by
  refine wpAnyH_ready (rs := [7]) (by kernel_rfl) (by simp) ?_
  refine AllReadyH.cons rfl (fun K hK => ?_) ?_
  · refine stepP_call (by kernel_rfl) _ _ (HHE.out _ v8 bl8 m8) (by kernel_rfl) (fun u w9 h9 => ?_)
    have kp9 : Bk w9 p6 39 #[.int .i64 xk, .int .i64 xn, .slice xls nl xlc, .slice xds nd xdc] := by
      obtain ⟨_, _, _, _, _, _, _, _, _, _, _, _, hbt, _⟩ := h9
      exact hbt.keep (Bk.below HD.out bl8 HD.out.lt) HNE.out
    simp only [Act.put, List.setIfInBounds_toArray, List.set_cons_zero, List.set_cons_succ]
    have hB2 := kp9
    refine hK.out _ _ hB2 (fun _ => ?_)
    show wpAnyH _ _ _ _ _ 0 #[true, true, true, true, true, true, true, true] { tmps := List.toArray (t0 :: t1 :: t2 :: .pointer (some ⟨p, 0, none⟩) :: t4 :: t5 :: t6 :: .pointer (some ⟨p6, 0, none⟩) :: t8 :: t9 :: t10 :: t11 :: t12 :: t13 :: t14 :: t15 :: t16 :: t17 :: t18 :: t19 :: t20 :: t21 :: t22 :: .pointer (some ⟨p, 0, none⟩) :: .pointer (some ⟨p6, 2, none⟩) :: .slice xls nl xlc :: .slice s1 m1 c1 :: .pointer (some ⟨p6, 3, none⟩) :: .slice xds nd xdc :: v8 :: u :: t31 :: t32 :: t33 :: t34 :: t35 :: t36 :: t37 :: t38 :: t39 :: t40 :: t41 :: t42 :: t43 :: t44 :: t45 :: t46 :: t47 :: t48 :: t49 :: t50 :: t51 :: t52 :: t53 :: t54 :: t55 :: t56 :: t57 :: t58 :: t59 :: []), defers := [] } _
    exact smallA_3_6_7 p p6 lo nl xlc nd xdc m1 xk xn xls xds Y D m v V t0 t1 t2 t4 t5 t6 t8 t9 t10 t11 t12 t13 t14 t15 t16 t17 t18 t19 t20 t21 t22 t23 t24 t25 t26 t27 t28 t29 t30 t31 t32 t33 t34 t35 t36 t37 t38 t39 t40 t41 t42 t43 t44 t45 t46 t47 t48 t49 t50 t51 t52 t53 t54 t55 t56 t57 t58 t59 Q HD HDA hlen HNE HBY HHE HQ _ _ _ _ _ hB2 (⟨_, bl8, h9⟩)
  exact AllReadyH.nil

set_option maxRecDepth 100000 in
set_option maxHeartbeats 4000000 in
theorem smallA_3 (p p6 lo nl xlc nd xdc m1 : Nat) (xk xn : Int) (xls xds : Option Addr) (Y D : List Nat) (m : PeM) (v : Value) (V : World) (t0 t1 t2 t4 t5 t6 t8 t9 t10 t11 t12 t13 t14 t15 t16 t17 t18 t19 t20 t21 t22 t23 t24 t25 t26 t27 t28 t29 t30 t31 t32 t33 t34 t35 t36 t37 t38 t39 t40 t41 t42 t43 t44 t45 t46 t47 t48 t49 t50 t51 t52 t53 t54 t55 t56 t57 t58 t59 : Value) (Q : Exit → Act → World → Prop) (HD : Hid (Bk V p6 39 #[.int .i64 xk, .int .i64 xn, .slice xls nl xlc, .slice xds nd xdc])) (HDA : Hid (BsV V V.heap.size (.slice xds nd xdc) D)) (hlen : Y.length + D.length ≤ 1048576) (HNE : Hid (¬ (p6 = p ∨ slb v p6))) (HBY : Hid (∀ W, Below V.heap.size V W → Calls Tryd.prog 12 #[.slice xls nl xlc] W fun r w' => ∃ u, r = .returned u ∧ ∃ s c, u = .slice s m1 c ∧ Mine w' W.heap.size (.slice s m1 c) Y ∧ Below W.heap.size W w')) (HHE : Hid (∀ W v8, Below V.heap.size V W → Mine W V.heap.size v8 (Y ++ D) → Calls Tryd.prog 13 #[.pointer (some ⟨p, 0, none⟩), v8] W fun r w' => ∃ u, r = .returned u ∧ HearP W w' p lo v m (Y ++ D) (.returned u))) (HQ : Hid (∀ (x23 x24 x25 x26 x27 x28 x29 x30 : Value) (u : Value)  (w' : World), Bk w' p6 39 #[.int .i64 xk, .int .i64 xn, .slice xls nl xlc, .slice xds nd xdc] → (∃ W, Below V.heap.size V W ∧ HearP W w' p lo v m (Y ++ D) (.returned u)) → Q .normal { tmps := List.toArray (t0 :: t1 :: t2 :: .pointer (some ⟨p, 0, none⟩) :: t4 :: t5 :: t6 :: .pointer (some ⟨p6, 0, none⟩) :: t8 :: t9 :: t10 :: t11 :: t12 :: t13 :: t14 :: t15 :: t16 :: t17 :: t18 :: t19 :: t20 :: t21 :: t22 :: x23 :: x24 :: x25 :: x26 :: x27 :: x28 :: x29 :: x30 :: t31 :: t32 :: t33 :: t34 :: t35 :: t36 :: t37 :: t38 :: t39 :: t40 :: t41 :: t42 :: t43 :: t44 :: t45 :: t46 :: t47 :: t48 :: t49 :: t50 :: t51 :: t52 :: t53 :: t54 :: t55 :: t56 :: t57 :: t58 :: t59 :: []), defers := [] } w')) (s1 : Option Addr) (c1 : Nat) (w : World) (hB : Bk w p6 39 #[.int .i64 xk, .int .i64 xn, .slice xls nl xlc, .slice xds nd xdc]) (bl : Below V.heap.size V w) (n1 : Mine w V.heap.size (.slice s1 m1 c1) Y) :
    wpAnyH Tryd.prog .any smallA_ops (NoPanic Q) (fun w' => Bk w' p6 39 #[.int .i64 xk, .int .i64 xn, .slice xls nl xlc, .slice xds nd xdc]) 2 #[true, true, true, true, true, true, false, false] { tmps := List.toArray (t0 :: t1 :: t2 :: .pointer (some ⟨p, 0, none⟩) :: t4 :: t5 :: t6 :: .pointer (some ⟨p6, 0, none⟩) :: t8 :: t9 :: t10 :: t11 :: t12 :: t13 :: t14 :: t15 :: t16 :: t17 :: t18 :: t19 :: t20 :: t21 :: t22 :: .pointer (some ⟨p, 0, none⟩) :: .pointer (some ⟨p6, 2, none⟩) :: .slice xls nl xlc :: .slice s1 m1 c1 :: .pointer (some ⟨p6, 3, none⟩) :: .slice xds nd xdc :: t29 :: t30 :: t31 :: t32 :: t33 :: t34 :: t35 :: t36 :: t37 :: t38 :: t39 :: t40 :: t41 :: t42 :: t43 :: t44 :: t45 :: t46 :: t47 :: t48 :: t49 :: t50 :: t51 :: t52 :: t53 :: t54 :: t55 :: t56 :: t57 :: t58 :: t59 :: []), defers := [] } w := by
  refine wpAnyH_ready (rs := [6]) (by kernel_rfl) (by simp) ?_
  refine AllReadyH.cons rfl (fun K hK => ?_) ?_
  · refine stepB_app Y D V.heap.size rfl (.tmp 26) (.tmp 28) rfl rfl rfl rfl n1 bl.size ((HDA.out.keep bl (Nat.le_refl _)).mono bl.size) hlen (fun v8 w8 m8 b8 y8 => ?_)
    have bl8 : Below V.heap.size V w8 := bl.trans (b8.below bl.size (fun k hk => (n1.slb_lo hk).1))
    simp only [Act.put, List.setIfInBounds_toArray, List.set_cons_zero, List.set_cons_succ]
    have hB2 := (Bk.below HD.out bl8 HD.out.lt)
    refine hK.out _ _ hB2 (fun _ => ?_)
    show wpAnyH _ _ _ _ _ 1 #[true, true, true, true, true, true, true, false] { tmps := List.toArray (t0 :: t1 :: t2 :: .pointer (some ⟨p, 0, none⟩) :: t4 :: t5 :: t6 :: .pointer (some ⟨p6, 0, none⟩) :: t8 :: t9 :: t10 :: t11 :: t12 :: t13 :: t14 :: t15 :: t16 :: t17 :: t18 :: t19 :: t20 :: t21 :: t22 :: .pointer (some ⟨p, 0, none⟩) :: .pointer (some ⟨p6, 2, none⟩) :: .slice xls nl xlc :: .slice s1 m1 c1 :: .pointer (some ⟨p6, 3, none⟩) :: .slice xds nd xdc :: v8 :: t30 :: t31 :: t32 :: t33 :: t34 :: t35 :: t36 :: t37 :: t38 :: t39 :: t40 :: t41 :: t42 :: t43 :: t44 :: t45 :: t46 :: t47 :: t48 :: t49 :: t50 :: t51 :: t52 :: t53 :: t54 :: t55 :: t56 :: t57 :: t58 :: t59 :: []), defers := [] } _
    exact smallA_3_6 p p6 lo nl xlc nd xdc m1 xk xn xls xds Y D m v V t0 t1 t2 t4 t5 t6 t8 t9 t10 t11 t12 t13 t14 t15 t16 t17 t18 t19 t20 t21 t22 t23 t24 t25 t26 t27 t28 t29 t30 t31 t32 t33 t34 t35 t36 t37 t38 t39 t40 t41 t42 t43 t44 t45 t46 t47 t48 t49 t50 t51 t52 t53 t54 t55 t56 t57 t58 t59 Q HD HDA hlen HNE HBY HHE HQ _ _ _ _ hB2 (m8) (bl8)
  exact AllReadyH.nil

set_option maxRecDepth 100000 in
set_option maxHeartbeats 4000000 in
theorem smallA_o (p p6 lo nl xlc nd xdc m1 : Nat) (xk xn : Int) (xls xds : Option Addr) (Y D : List Nat) (m : PeM) (v : Value) (V : World) (t0 t1 t2 t4 t5 t6 t8 t9 t10 t11 t12 t13 t14 t15 t16 t17 t18 t19 t20 t21 t22 t23 t24 t25 t26 t27 t28 t29 t30 t31 t32 t33 t34 t35 t36 t37 t38 t39 t40 t41 t42 t43 t44 t45 t46 t47 t48 t49 t50 t51 t52 t53 t54 t55 t56 t57 t58 t59 : Value) (Q : Exit → Act → World → Prop) (HD : Hid (Bk V p6 39 #[.int .i64 xk, .int .i64 xn, .slice xls nl xlc, .slice xds nd xdc])) (HDA : Hid (BsV V V.heap.size (.slice xds nd xdc) D)) (hlen : Y.length + D.length ≤ 1048576) (HNE : Hid (¬ (p6 = p ∨ slb v p6))) (HBY : Hid (∀ W, Below V.heap.size V W → Calls Tryd.prog 12 #[.slice xls nl xlc] W fun r w' => ∃ u, r = .returned u ∧ ∃ s c, u = .slice s m1 c ∧ Mine w' W.heap.size (.slice s m1 c) Y ∧ Below W.heap.size W w')) (HHE : Hid (∀ W v8, Below V.heap.size V W → Mine W V.heap.size v8 (Y ++ D) → Calls Tryd.prog 13 #[.pointer (some ⟨p, 0, none⟩), v8] W fun r w' => ∃ u, r = .returned u ∧ HearP W w' p lo v m (Y ++ D) (.returned u))) (HQ : Hid (∀ (x23 x24 x25 x26 x27 x28 x29 x30 : Value) (u : Value)  (w' : World), Bk w' p6 39 #[.int .i64 xk, .int .i64 xn, .slice xls nl xlc, .slice xds nd xdc] → (∃ W, Below V.heap.size V W ∧ HearP W w' p lo v m (Y ++ D) (.returned u)) → Q .normal { tmps := List.toArray (t0 :: t1 :: t2 :: .pointer (some ⟨p, 0, none⟩) :: t4 :: t5 :: t6 :: .pointer (some ⟨p6, 0, none⟩) :: t8 :: t9 :: t10 :: t11 :: t12 :: t13 :: t14 :: t15 :: t16 :: t17 :: t18 :: t19 :: t20 :: t21 :: t22 :: x23 :: x24 :: x25 :: x26 :: x27 :: x28 :: x29 :: x30 :: t31 :: t32 :: t33 :: t34 :: t35 :: t36 :: t37 :: t38 :: t39 :: t40 :: t41 :: t42 :: t43 :: t44 :: t45 :: t46 :: t47 :: t48 :: t49 :: t50 :: t51 :: t52 :: t53 :: t54 :: t55 :: t56 :: t57 :: t58 :: t59 :: []), defers := [] } w')) (w : World) (hB : Bk w p6 39 #[.int .i64 xk, .int .i64 xn, .slice xls nl xlc, .slice xds nd xdc]) (bl : Below V.heap.size V w) :
    wpAnyH Tryd.prog .any smallA_ops (NoPanic Q) (fun w' => Bk w' p6 39 #[.int .i64 xk, .int .i64 xn, .slice xls nl xlc, .slice xds nd xdc]) 3 #[true, true, true, false, true, true, false, false] { tmps := List.toArray (t0 :: t1 :: t2 :: .pointer (some ⟨p, 0, none⟩) :: t4 :: t5 :: t6 :: .pointer (some ⟨p6, 0, none⟩) :: t8 :: t9 :: t10 :: t11 :: t12 :: t13 :: t14 :: t15 :: t16 :: t17 :: t18 :: t19 :: t20 :: t21 :: t22 :: .pointer (some ⟨p, 0, none⟩) :: .pointer (some ⟨p6, 2, none⟩) :: .slice xls nl xlc :: t26 :: .pointer (some ⟨p6, 3, none⟩) :: .slice xds nd xdc :: t29 :: t30 :: t31 :: t32 :: t33 :: t34 :: t35 :: t36 :: t37 :: t38 :: t39 :: t40 :: t41 :: t42 :: t43 :: t44 :: t45 :: t46 :: t47 :: t48 :: t49 :: t50 :: t51 :: t52 :: t53 :: t54 :: t55 :: t56 :: t57 :: t58 :: t59 :: []), defers := [] } w := by
  refine wpAnyH_ready (rs := [3]) (by kernel_rfl) (by simp) ?_
  refine AllReadyH.cons rfl (fun K hK => ?_) ?_
  · refine stepP_call (by kernel_rfl) _ _ (HBY.out _ bl) (by kernel_rfl) (fun v6 w6 h6 => ?_)
    obtain ⟨s1, c1, rfl, n1, hb6⟩ := h6
    have bl6 := below_step bl bl.size hb6
    simp only [Act.put, List.setIfInBounds_toArray, List.set_cons_zero, List.set_cons_succ]
    have hB2 := (Bk.below HD.out bl6 HD.out.lt)
    refine hK.out _ _ hB2 (fun _ => ?_)
    show wpAnyH _ _ _ _ _ 2 #[true, true, true, true, true, true, false, false] { tmps := List.toArray (t0 :: t1 :: t2 :: .pointer (some ⟨p, 0, none⟩) :: t4 :: t5 :: t6 :: .pointer (some ⟨p6, 0, none⟩) :: t8 :: t9 :: t10 :: t11 :: t12 :: t13 :: t14 :: t15 :: t16 :: t17 :: t18 :: t19 :: t20 :: t21 :: t22 :: .pointer (some ⟨p, 0, none⟩) :: .pointer (some ⟨p6, 2, none⟩) :: .slice xls nl xlc :: .slice s1 m1 c1 :: .pointer (some ⟨p6, 3, none⟩) :: .slice xds nd xdc :: t29 :: t30 :: t31 :: t32 :: t33 :: t34 :: t35 :: t36 :: t37 :: t38 :: t39 :: t40 :: t41 :: t42 :: t43 :: t44 :: t45 :: t46 :: t47 :: t48 :: t49 :: t50 :: t51 :: t52 :: t53 :: t54 :: t55 :: t56 :: t57 :: t58 :: t59 :: []), defers := [] } _
    exact smallA_3 p p6 lo nl xlc nd xdc m1 xk xn xls xds Y D m v V t0 t1 t2 t4 t5 t6 t8 t9 t10 t11 t12 t13 t14 t15 t16 t17 t18 t19 t20 t21 t22 t23 t24 t25 t26 t27 t28 t29 t30 t31 t32 t33 t34 t35 t36 t37 t38 t39 t40 t41 t42 t43 t44 t45 t46 t47 t48 t49 t50 t51 t52 t53 t54 t55 t56 t57 t58 t59 Q HD HDA hlen HNE HBY HHE HQ _ _ _ hB2 (bl6) (n1.mono bl.size)
  exact AllReadyH.nil

set_option maxRecDepth 100000 in
set_option maxHeartbeats 4000000 in
theorem smallA (p p6 lo nl xlc nd xdc m1 : Nat) (xk xn : Int) (xls xds : Option Addr) (Y D : List Nat) (m : PeM) (v : Value) (V : World) (t0 t1 t2 t4 t5 t6 t8 t9 t10 t11 t12 t13 t14 t15 t16 t17 t18 t19 t20 t21 t22 t23 t24 t25 t26 t27 t28 t29 t30 t31 t32 t33 t34 t35 t36 t37 t38 t39 t40 t41 t42 t43 t44 t45 t46 t47 t48 t49 t50 t51 t52 t53 t54 t55 t56 t57 t58 t59 : Value) (Q : Exit → Act → World → Prop) (HD : Hid (Bk V p6 39 #[.int .i64 xk, .int .i64 xn, .slice xls nl xlc, .slice xds nd xdc])) (HDA : Hid (BsV V V.heap.size (.slice xds nd xdc) D)) (hlen : Y.length + D.length ≤ 1048576) (HNE : Hid (¬ (p6 = p ∨ slb v p6))) (HBY : Hid (∀ W, Below V.heap.size V W → Calls Tryd.prog 12 #[.slice xls nl xlc] W fun r w' => ∃ u, r = .returned u ∧ ∃ s c, u = .slice s m1 c ∧ Mine w' W.heap.size (.slice s m1 c) Y ∧ Below W.heap.size W w')) (HHE : Hid (∀ W v8, Below V.heap.size V W → Mine W V.heap.size v8 (Y ++ D) → Calls Tryd.prog 13 #[.pointer (some ⟨p, 0, none⟩), v8] W fun r w' => ∃ u, r = .returned u ∧ HearP W w' p lo v m (Y ++ D) (.returned u))) (HQ : Hid (∀ (x23 x24 x25 x26 x27 x28 x29 x30 : Value) (u : Value)  (w' : World), Bk w' p6 39 #[.int .i64 xk, .int .i64 xn, .slice xls nl xlc, .slice xds nd xdc] → (∃ W, Below V.heap.size V W ∧ HearP W w' p lo v m (Y ++ D) (.returned u)) → Q .normal { tmps := List.toArray (t0 :: t1 :: t2 :: .pointer (some ⟨p, 0, none⟩) :: t4 :: t5 :: t6 :: .pointer (some ⟨p6, 0, none⟩) :: t8 :: t9 :: t10 :: t11 :: t12 :: t13 :: t14 :: t15 :: t16 :: t17 :: t18 :: t19 :: t20 :: t21 :: t22 :: x23 :: x24 :: x25 :: x26 :: x27 :: x28 :: x29 :: x30 :: t31 :: t32 :: t33 :: t34 :: t35 :: t36 :: t37 :: t38 :: t39 :: t40 :: t41 :: t42 :: t43 :: t44 :: t45 :: t46 :: t47 :: t48 :: t49 :: t50 :: t51 :: t52 :: t53 :: t54 :: t55 :: t56 :: t57 :: t58 :: t59 :: []), defers := [] } w')) :
    Code.wp Tryd.prog (Code.region 10 #[{ dst := some 23, op := Op.move (Operand.tmp 3), type := 26, pos := "law.go:237", after := #[], guard := none },
{ dst := some 24, op := Op.fieldAddr 39 (Operand.tmp 7) 2, type := 0, pos := "law.go:237", after := #[], guard := none },
{ dst := some 25, op := Op.load 27 (Operand.tmp 24), type := 27, pos := "law.go:237", after := #[{ on := 1, ground := Ground.data }], guard := none },
{ dst := some 26, op := Op.call { callee := Callee.value (Operand.func 12), args := #[Operand.tmp 25], argTypes := #[27] }, type := 32, pos := "law.go:237", after := #[{ on := 2, ground := Ground.data }], guard := none },
{ dst := some 27, op := Op.fieldAddr 39 (Operand.tmp 7) 3, type := 0, pos := "law.go:237", after := #[], guard := none },
{ dst := some 28, op := Op.load 32 (Operand.tmp 27), type := 32, pos := "law.go:237", after := #[{ on := 4, ground := Ground.data }], guard := none },
{ dst := some 29, op := Op.call { callee := Callee.builtin Builtin.append, args := #[Operand.tmp 26, Operand.tmp 28], argTypes := #[32, 32] }, type := 32, pos := "law.go:237", after := #[{ on := 3, ground := Ground.data }, { on := 5, ground := Ground.data }, { on := 3, ground := Ground.chain }], guard := none },
{ dst := some 30, op := Op.call { callee := Callee.value (Operand.func 13), args := #[Operand.tmp 23, Operand.tmp 29], argTypes := #[26, 32] }, type := 41, pos := "law.go:237", after := #[{ on := 0, ground := Ground.data }, { on := 6, ground := Ground.data }, { on := 6, ground := Ground.chain }], guard := none }] true) Q { tmps := List.toArray (t0 :: t1 :: t2 :: .pointer (some ⟨p, 0, none⟩) :: t4 :: t5 :: t6 :: .pointer (some ⟨p6, 0, none⟩) :: t8 :: t9 :: t10 :: t11 :: t12 :: t13 :: t14 :: t15 :: t16 :: t17 :: t18 :: t19 :: t20 :: t21 :: t22 :: t23 :: t24 :: t25 :: t26 :: t27 :: t28 :: t29 :: t30 :: t31 :: t32 :: t33 :: t34 :: t35 :: t36 :: t37 :: t38 :: t39 :: t40 :: t41 :: t42 :: t43 :: t44 :: t45 :: t46 :: t47 :: t48 :: t49 :: t50 :: t51 :: t52 :: t53 :: t54 :: t55 :: t56 :: t57 :: t58 :: t59 :: []), defers := [] } V := by
  refine wp_region_noPanic ?_
  refine wp_region_held_drew (S := (fun w' => Bk w' p6 39 #[.int .i64 xk, .int .i64 xn, .slice xls nl xlc, .slice xds nd xdc])) (by kernel_rfl) (Bk.below HD.out (Below.refl _ _).drew HD.out.lt) (fun hHeld => ?_)
  have hB : Bk V.drew p6 39 #[.int .i64 xk, .int .i64 xn, .slice xls nl xlc, .slice xds nd xdc] := (Bk.below HD.out (Below.refl _ _).drew HD.out.lt)
  show wpAnyH _ _ smallA_ops _ _ 8 _ _ _
  refine wpAnyH_take (i := 0) (oi := { dst := some 23, op := Op.move (Operand.tmp 3), type := 26, pos := "law.go:237", after := #[], guard := none }) (v := .pointer (some ⟨p, 0, none⟩)) rfl (by kernel_rfl) (by kernel_rfl) (by kernel_rfl) (fun _ _ _ h => h) ?_ hB ?_
  · (refine Or.inl ⟨by kernel_rfl, ?_⟩; intro w hSw; go_simp)
  simp only [Act.put, List.setIfInBounds_toArray, List.set_cons_zero, List.set_cons_succ]
  refine wpAnyH_take (i := 1) (oi := { dst := some 24, op := Op.fieldAddr 39 (Operand.tmp 7) 2, type := 0, pos := "law.go:237", after := #[], guard := none }) (v := .pointer (some ⟨p6, 2, none⟩)) rfl (by kernel_rfl) (by kernel_rfl) (by kernel_rfl) (fun _ _ _ h => h) ?_ hB ?_
  · (refine Or.inl ⟨by kernel_rfl, ?_⟩; intro w hSw; have h1 := hSw.cell 1; have h2 := hSw.cell 2; have h3 := hSw.cell 3; have hz := hSw.lt; go_simp)
  simp only [Act.put, List.setIfInBounds_toArray, List.set_cons_zero, List.set_cons_succ]
  refine wpAnyH_take (i := 2) (oi := { dst := some 25, op := Op.load 27 (Operand.tmp 24), type := 27, pos := "law.go:237", after := #[{ on := 1, ground := Ground.data }], guard := none }) (v := .slice xls nl xlc) rfl (by kernel_rfl) (by kernel_rfl) (by kernel_rfl) (fun _ _ _ h => h) ?_ hB ?_
  · (refine Or.inl ⟨by kernel_rfl, ?_⟩; intro w hSw; have h1 := hSw.cell 1; have h2 := hSw.cell 2; have h3 := hSw.cell 3; have hz := hSw.lt; go_simp)
  simp only [Act.put, List.setIfInBounds_toArray, List.set_cons_zero, List.set_cons_succ]
  refine wpAnyH_take (i := 4) (oi := { dst := some 27, op := Op.fieldAddr 39 (Operand.tmp 7) 3, type := 0, pos := "law.go:237", after := #[], guard := none }) (v := .pointer (some ⟨p6, 3, none⟩)) rfl (by kernel_rfl) (by kernel_rfl) (by kernel_rfl) (fun _ _ _ h => h) ?_ hB ?_
  · (refine Or.inl ⟨by kernel_rfl, ?_⟩; intro w hSw; have h1 := hSw.cell 1; have h2 := hSw.cell 2; have h3 := hSw.cell 3; have hz := hSw.lt; go_simp)
  simp only [Act.put, List.setIfInBounds_toArray, List.set_cons_zero, List.set_cons_succ]
  refine wpAnyH_take (i := 5) (oi := { dst := some 28, op := Op.load 32 (Operand.tmp 27), type := 32, pos := "law.go:237", after := #[{ on := 4, ground := Ground.data }], guard := none }) (v := .slice xds nd xdc) rfl (by kernel_rfl) (by kernel_rfl) (by kernel_rfl) (fun _ _ _ h => h) ?_ hB ?_
  · (refine Or.inl ⟨by kernel_rfl, ?_⟩; intro w hSw; have h1 := hSw.cell 1; have h2 := hSw.cell 2; have h3 := hSw.cell 3; have hz := hSw.lt; go_simp)
  simp only [Act.put, List.setIfInBounds_toArray, List.set_cons_zero, List.set_cons_succ]
  exact smallA_o p p6 lo nl xlc nd xdc m1 xk xn xls xds Y D m v V t0 t1 t2 t4 t5 t6 t8 t9 t10 t11 t12 t13 t14 t15 t16 t17 t18 t19 t20 t21 t22 t23 t24 t25 t26 t27 t28 t29 t30 t31 t32 t33 t34 t35 t36 t37 t38 t39 t40 t41 t42 t43 t44 t45 t46 t47 t48 t49 t50 t51 t52 t53 t54 t55 t56 t57 t58 t59 Q HD HDA hlen HNE HBY HHE HQ _ hB (((Below.refl _ _).drew))
def smallB_ops : Array Oper := #[{ dst := some 31, op := Op.move (Operand.tmp 3), type := 26, pos := "law.go:238", after := #[], guard := none },
{ dst := some 32, op := Op.nilCheck (Operand.tmp 31), type := 0, pos := "law.go:238", after := #[{ on := 0, ground := Ground.data }], guard := none },
{ dst := some 33, op := Op.fieldAddr 65 (Operand.tmp 32) 0, type := 0, pos := "law.go:238", after := #[{ on := 1, ground := Ground.data }], guard := none },
{ dst := some 34, op := Op.fieldAddr 39 (Operand.tmp 7) 1, type := 0, pos := "law.go:238", after := #[], guard := none },
{ dst := some 35, op := Op.load 3 (Operand.tmp 34), type := 3, pos := "law.go:238", after := #[{ on := 3, ground := Ground.data }], guard := none },
{ dst := some 36, op := Op.call { callee := Callee.value (Operand.func 18), args := #[Operand.tmp 33, Operand.tmp 35], argTypes := #[61, 3] }, type := 0, pos := "law.go:238", after := #[{ on := 2, ground := Ground.data }, { on := 4, ground := Ground.data }], guard := none }]
set_option maxRecDepth 100000 in
set_option maxHeartbeats 4000000 in
theorem smallB_5 (p p6 nl xlc nd xdc : Nat) (xk xn : Int) (xls xds : Option Addr) (m m2 : PeM) (v : Value) (V : World) (t0 t1 t2 t4 t5 t6 t8 t9 t10 t11 t12 t13 t14 t15 t16 t17 t18 t19 t20 t21 t22 t23 t24 t25 t26 t27 t28 t29 t30 t31 t32 t33 t34 t35 t36 t37 t38 t39 t40 t41 t42 t43 t44 t45 t46 t47 t48 t49 t50 t51 t52 t53 t54 t55 t56 t57 t58 t59 : Value) (Q : Exit → Act → World → Prop) (HD : Hid (Bk V p6 39 #[.int .i64 xk, .int .i64 xn, .slice xls nl xlc, .slice xds nd xdc])) (HK : Hid (PeK V p m v)) (HNE : Hid (¬ (p6 = p))) (HBM : Hid (∀ W, PeK W p m v → Calls Tryd.prog 18 #[.pointer (some ⟨p, 0, none⟩), .int .i64 xn] W fun r w' => ∃ u, r = .returned u ∧ PeK w' p m2 v ∧ But (fun k => k = p) W w')) (HQ : Hid (∀ (x31 x32 x33 x34 x35 x36 : Value) (u : Value)  (w' : World), Bk w' p6 39 #[.int .i64 xk, .int .i64 xn, .slice xls nl xlc, .slice xds nd xdc] → PeK w' p m2 v → But (fun k => k = p) V w' → Q .normal { tmps := List.toArray (t0 :: t1 :: t2 :: .pointer (some ⟨p, 0, none⟩) :: t4 :: t5 :: t6 :: .pointer (some ⟨p6, 0, none⟩) :: t8 :: t9 :: t10 :: t11 :: t12 :: t13 :: t14 :: t15 :: t16 :: t17 :: t18 :: t19 :: t20 :: t21 :: t22 :: t23 :: t24 :: t25 :: t26 :: t27 :: t28 :: t29 :: t30 :: x31 :: x32 :: x33 :: x34 :: x35 :: x36 :: t37 :: t38 :: t39 :: t40 :: t41 :: t42 :: t43 :: t44 :: t45 :: t46 :: t47 :: t48 :: t49 :: t50 :: t51 :: t52 :: t53 :: t54 :: t55 :: t56 :: t57 :: t58 :: t59 :: []), defers := [] } w')) (u : Value) (w : World) (hB : Bk w p6 39 #[.int .i64 xk, .int .i64 xn, .slice xls nl xlc, .slice xds nd xdc] ∧ p < w.heap.size) (b0 : But (fun k => k = p) V w) (k2 : PeK w p m2 v) :
    wpAnyH Tryd.prog .any smallB_ops (NoPanic Q) (fun w' => Bk w' p6 39 #[.int .i64 xk, .int .i64 xn, .slice xls nl xlc, .slice xds nd xdc] ∧ p < w'.heap.size) 0 #[true, true, true, true, true, true] { tmps := List.toArray (t0 :: t1 :: t2 :: .pointer (some ⟨p, 0, none⟩) :: t4 :: t5 :: t6 :: .pointer (some ⟨p6, 0, none⟩) :: t8 :: t9 :: t10 :: t11 :: t12 :: t13 :: t14 :: t15 :: t16 :: t17 :: t18 :: t19 :: t20 :: t21 :: t22 :: t23 :: t24 :: t25 :: t26 :: t27 :: t28 :: t29 :: t30 :: .pointer (some ⟨p, 0, none⟩) :: .pointer (some ⟨p, 0, none⟩) :: .pointer (some ⟨p, 0, none⟩) :: .pointer (some ⟨p6, 1, none⟩) :: .int .i64 xn :: u :: t37 :: t38 :: t39 :: t40 :: t41 :: t42 :: t43 :: t44 :: t45 :: t46 :: t47 :: t48 :: t49 :: t50 :: t51 :: t52 :: t53 :: t54 :: t55 :: t56 :: t57 :: t58 :: t59 :: []), defers := [] } w := by
  refine wpAnyH_done (by kernel_rfl) ?_ _
  refine NoPanic.normal ?_
  have hEnd := HQ.out (.pointer (some ⟨p, 0, none⟩)) (.pointer (some ⟨p, 0, none⟩)) (.pointer (some ⟨p, 0, none⟩)) (.pointer (some ⟨p6, 1, none⟩)) (.int .i64 xn) (u) u w hB.1 k2 b0
  exact hEnd

set_option maxRecDepth 100000 in
set_option maxHeartbeats 4000000 in
theorem smallB_o (p p6 nl xlc nd xdc : Nat) (xk xn : Int) (xls xds : Option Addr) (m m2 : PeM) (v : Value) (V : World) (t0 t1 t2 t4 t5 t6 t8 t9 t10 t11 t12 t13 t14 t15 t16 t17 t18 t19 t20 t21 t22 t23 t24 t25 t26 t27 t28 t29 t30 t31 t32 t33 t34 t35 t36 t37 t38 t39 t40 t41 t42 t43 t44 t45 t46 t47 t48 t49 t50 t51 t52 t53 t54 t55 t56 t57 t58 t59 : Value) (Q : Exit → Act → World → Prop) (HD : Hid (Bk V p6 39 #[.int .i64 xk, .int .i64 xn, .slice xls nl xlc, .slice xds nd xdc])) (HK : Hid (PeK V p m v)) (HNE : Hid (¬ (p6 = p))) (HBM : Hid (∀ W, PeK W p m v → Calls Tryd.prog 18 #[.pointer (some ⟨p, 0, none⟩), .int .i64 xn] W fun r w' => ∃ u, r = .returned u ∧ PeK w' p m2 v ∧ But (fun k => k = p) W w')) (HQ : Hid (∀ (x31 x32 x33 x34 x35 x36 : Value) (u : Value)  (w' : World), Bk w' p6 39 #[.int .i64 xk, .int .i64 xn, .slice xls nl xlc, .slice xds nd xdc] → PeK w' p m2 v → But (fun k => k = p) V w' → Q .normal { tmps := List.toArray (t0 :: t1 :: t2 :: .pointer (some ⟨p, 0, none⟩) :: t4 :: t5 :: t6 :: .pointer (some ⟨p6, 0, none⟩) :: t8 :: t9 :: t10 :: t11 :: t12 :: t13 :: t14 :: t15 :: t16 :: t17 :: t18 :: t19 :: t20 :: t21 :: t22 :: t23 :: t24 :: t25 :: t26 :: t27 :: t28 :: t29 :: t30 :: x31 :: x32 :: x33 :: x34 :: x35 :: x36 :: t37 :: t38 :: t39 :: t40 :: t41 :: t42 :: t43 :: t44 :: t45 :: t46 :: t47 :: t48 :: t49 :: t50 :: t51 :: t52 :: t53 :: t54 :: t55 :: t56 :: t57 :: t58 :: t59 :: []), defers := [] } w')) (w : World) (hB : Bk w p6 39 #[.int .i64 xk, .int .i64 xn, .slice xls nl xlc, .slice xds nd xdc] ∧ p < w.heap.size) (k0 : PeK w p m v) (b0 : But (fun k => k = p) V w) :
    wpAnyH Tryd.prog .any smallB_ops (NoPanic Q) (fun w' => Bk w' p6 39 #[.int .i64 xk, .int .i64 xn, .slice xls nl xlc, .slice xds nd xdc] ∧ p < w'.heap.size) 1 #[true, true, true, true, true, false] { tmps := List.toArray (t0 :: t1 :: t2 :: .pointer (some ⟨p, 0, none⟩) :: t4 :: t5 :: t6 :: .pointer (some ⟨p6, 0, none⟩) :: t8 :: t9 :: t10 :: t11 :: t12 :: t13 :: t14 :: t15 :: t16 :: t17 :: t18 :: t19 :: t20 :: t21 :: t22 :: t23 :: t24 :: t25 :: t26 :: t27 :: t28 :: t29 :: t30 :: .pointer (some ⟨p, 0, none⟩) :: .pointer (some ⟨p, 0, none⟩) :: .pointer (some ⟨p, 0, none⟩) :: .pointer (some ⟨p6, 1, none⟩) :: .int .i64 xn :: t36 :: t37 :: t38 :: t39 :: t40 :: t41 :: t42 :: t43 :: t44 :: t45 :: t46 :: t47 :: t48 :: t49 :: t50 :: t51 :: t52 :: t53 :: t54 :: t55 :: t56 :: t57 :: t58 :: t59 :: []), defers := [] } w := by
  refine wpAnyH_ready (rs := [5]) (by kernel_rfl) (by simp) ?_
  refine AllReadyH.cons rfl (fun K hK => ?_) ?_
  · refine stepP_call (by kernel_rfl) _ _ (HBM.out _ k0) (by kernel_rfl) (fun u w9 h9 => ?_)
    obtain ⟨k9, b9⟩ := h9
    have kp9 : Bk w9 p6 39 #[.int .i64 xk, .int .i64 xn, .slice xls nl xlc, .slice xds nd xdc] := b9.keep hB.1 HNE.out
    simp only [Act.put, List.setIfInBounds_toArray, List.set_cons_zero, List.set_cons_succ]
    have hB2 := (show Bk w9 p6 39 #[.int .i64 xk, .int .i64 xn, .slice xls nl xlc, .slice xds nd xdc] ∧ p < w9.heap.size from ⟨kp9, k9.lt⟩)
    refine hK.out _ _ hB2 (fun _ => ?_)
    show wpAnyH _ _ _ _ _ 0 #[true, true, true, true, true, true] { tmps := List.toArray (t0 :: t1 :: t2 :: .pointer (some ⟨p, 0, none⟩) :: t4 :: t5 :: t6 :: .pointer (some ⟨p6, 0, none⟩) :: t8 :: t9 :: t10 :: t11 :: t12 :: t13 :: t14 :: t15 :: t16 :: t17 :: t18 :: t19 :: t20 :: t21 :: t22 :: t23 :: t24 :: t25 :: t26 :: t27 :: t28 :: t29 :: t30 :: .pointer (some ⟨p, 0, none⟩) :: .pointer (some ⟨p, 0, none⟩) :: .pointer (some ⟨p, 0, none⟩) :: .pointer (some ⟨p6, 1, none⟩) :: .int .i64 xn :: u :: t37 :: t38 :: t39 :: t40 :: t41 :: t42 :: t43 :: t44 :: t45 :: t46 :: t47 :: t48 :: t49 :: t50 :: t51 :: t52 :: t53 :: t54 :: t55 :: t56 :: t57 :: t58 :: t59 :: []), defers := [] } _
    exact smallB_5 p p6 nl xlc nd xdc xk xn xls xds m m2 v V t0 t1 t2 t4 t5 t6 t8 t9 t10 t11 t12 t13 t14 t15 t16 t17 t18 t19 t20 t21 t22 t23 t24 t25 t26 t27 t28 t29 t30 t31 t32 t33 t34 t35 t36 t37 t38 t39 t40 t41 t42 t43 t44 t45 t46 t47 t48 t49 t50 t51 t52 t53 t54 t55 t56 t57 t58 t59 Q HD HK HNE HBM HQ _ _ hB2 ((But.trans b0 b9 (fun _ _ h => h))) (k9)
  exact AllReadyH.nil

set_option maxRecDepth 100000 in
set_option maxHeartbeats 4000000 in
theorem smallB (p p6 nl xlc nd xdc : Nat) (xk xn : Int) (xls xds : Option Addr) (m m2 : PeM) (v : Value) (V : World) (t0 t1 t2 t4 t5 t6 t8 t9 t10 t11 t12 t13 t14 t15 t16 t17 t18 t19 t20 t21 t22 t23 t24 t25 t26 t27 t28 t29 t30 t31 t32 t33 t34 t35 t36 t37 t38 t39 t40 t41 t42 t43 t44 t45 t46 t47 t48 t49 t50 t51 t52 t53 t54 t55 t56 t57 t58 t59 : Value) (Q : Exit → Act → World → Prop) (HD : Hid (Bk V p6 39 #[.int .i64 xk, .int .i64 xn, .slice xls nl xlc, .slice xds nd xdc])) (HK : Hid (PeK V p m v)) (HNE : Hid (¬ (p6 = p))) (HBM : Hid (∀ W, PeK W p m v → Calls Tryd.prog 18 #[.pointer (some ⟨p, 0, none⟩), .int .i64 xn] W fun r w' => ∃ u, r = .returned u ∧ PeK w' p m2 v ∧ But (fun k => k = p) W w')) (HQ : Hid (∀ (x31 x32 x33 x34 x35 x36 : Value) (u : Value)  (w' : World), Bk w' p6 39 #[.int .i64 xk, .int .i64 xn, .slice xls nl xlc, .slice xds nd xdc] → PeK w' p m2 v → But (fun k => k = p) V w' → Q .normal { tmps := List.toArray (t0 :: t1 :: t2 :: .pointer (some ⟨p, 0, none⟩) :: t4 :: t5 :: t6 :: .pointer (some ⟨p6, 0, none⟩) :: t8 :: t9 :: t10 :: t11 :: t12 :: t13 :: t14 :: t15 :: t16 :: t17 :: t18 :: t19 :: t20 :: t21 :: t22 :: t23 :: t24 :: t25 :: t26 :: t27 :: t28 :: t29 :: t30 :: x31 :: x32 :: x33 :: x34 :: x35 :: x36 :: t37 :: t38 :: t39 :: t40 :: t41 :: t42 :: t43 :: t44 :: t45 :: t46 :: t47 :: t48 :: t49 :: t50 :: t51 :: t52 :: t53 :: t54 :: t55 :: t56 :: t57 :: t58 :: t59 :: []), defers := [] } w')) :
    Code.wp Tryd.prog (Code.region 11 #[{ dst := some 31, op := Op.move (Operand.tmp 3), type := 26, pos := "law.go:238", after := #[], guard := none },
{ dst := some 32, op := Op.nilCheck (Operand.tmp 31), type := 0, pos := "law.go:238", after := #[{ on := 0, ground := Ground.data }], guard := none },
{ dst := some 33, op := Op.fieldAddr 65 (Operand.tmp 32) 0, type := 0, pos := "law.go:238", after := #[{ on := 1, ground := Ground.data }], guard := none },
{ dst := some 34, op := Op.fieldAddr 39 (Operand.tmp 7) 1, type := 0, pos := "law.go:238", after := #[], guard := none },
{ dst := some 35, op := Op.load 3 (Operand.tmp 34), type := 3, pos := "law.go:238", after := #[{ on := 3, ground := Ground.data }], guard := none },
{ dst := some 36, op := Op.call { callee := Callee.value (Operand.func 18), args := #[Operand.tmp 33, Operand.tmp 35], argTypes := #[61, 3] }, type := 0, pos := "law.go:238", after := #[{ on := 2, ground := Ground.data }, { on := 4, ground := Ground.data }], guard := none }] true) Q { tmps := List.toArray (t0 :: t1 :: t2 :: .pointer (some ⟨p, 0, none⟩) :: t4 :: t5 :: t6 :: .pointer (some ⟨p6, 0, none⟩) :: t8 :: t9 :: t10 :: t11 :: t12 :: t13 :: t14 :: t15 :: t16 :: t17 :: t18 :: t19 :: t20 :: t21 :: t22 :: t23 :: t24 :: t25 :: t26 :: t27 :: t28 :: t29 :: t30 :: t31 :: t32 :: t33 :: t34 :: t35 :: t36 :: t37 :: t38 :: t39 :: t40 :: t41 :: t42 :: t43 :: t44 :: t45 :: t46 :: t47 :: t48 :: t49 :: t50 :: t51 :: t52 :: t53 :: t54 :: t55 :: t56 :: t57 :: t58 :: t59 :: []), defers := [] } V := by
  refine wp_region_noPanic ?_
  refine wp_region_held_drew (S := (fun w' => Bk w' p6 39 #[.int .i64 xk, .int .i64 xn, .slice xls nl xlc, .slice xds nd xdc] ∧ p < w'.heap.size)) (by kernel_rfl) (⟨Bk.below HD.out (Below.refl _ _).drew HD.out.lt, HK.out.lt⟩) (fun hHeld => ?_)
  have hB : Bk V.drew p6 39 #[.int .i64 xk, .int .i64 xn, .slice xls nl xlc, .slice xds nd xdc] ∧ p < V.drew.heap.size := (⟨Bk.below HD.out (Below.refl _ _).drew HD.out.lt, HK.out.lt⟩)
  show wpAnyH _ _ smallB_ops _ _ 6 _ _ _
  refine wpAnyH_take (i := 0) (oi := { dst := some 31, op := Op.move (Operand.tmp 3), type := 26, pos := "law.go:238", after := #[], guard := none }) (v := .pointer (some ⟨p, 0, none⟩)) rfl (by kernel_rfl) (by kernel_rfl) (by kernel_rfl) (fun _ _ _ h => h) ?_ hB ?_
  · (refine Or.inl ⟨by kernel_rfl, ?_⟩; intro w hSw; go_simp)
  simp only [Act.put, List.setIfInBounds_toArray, List.set_cons_zero, List.set_cons_succ]
  refine wpAnyH_take (i := 1) (oi := { dst := some 32, op := Op.nilCheck (Operand.tmp 31), type := 0, pos := "law.go:238", after := #[{ on := 0, ground := Ground.data }], guard := none }) (v := .pointer (some ⟨p, 0, none⟩)) rfl (by kernel_rfl) (by kernel_rfl) (by kernel_rfl) (fun _ _ _ h => h) ?_ hB ?_
  · (refine Or.inl ⟨by kernel_rfl, ?_⟩; intro w hSw; obtain ⟨hS1, hS2⟩ := hSw; have h1 := hS1.cell 1; have hz := hS1.lt; go_simp)
  simp only [Act.put, List.setIfInBounds_toArray, List.set_cons_zero, List.set_cons_succ]
  refine wpAnyH_take (i := 2) (oi := { dst := some 33, op := Op.fieldAddr 65 (Operand.tmp 32) 0, type := 0, pos := "law.go:238", after := #[{ on := 1, ground := Ground.data }], guard := none }) (v := .pointer (some ⟨p, 0, none⟩)) rfl (by kernel_rfl) (by kernel_rfl) (by kernel_rfl) (fun _ _ _ h => h) ?_ hB ?_
  · (refine Or.inl ⟨by kernel_rfl, ?_⟩; intro w hSw; obtain ⟨hS1, hS2⟩ := hSw; have h1 := hS1.cell 1; have hz := hS1.lt; go_simp)
  simp only [Act.put, List.setIfInBounds_toArray, List.set_cons_zero, List.set_cons_succ]
  refine wpAnyH_take (i := 3) (oi := { dst := some 34, op := Op.fieldAddr 39 (Operand.tmp 7) 1, type := 0, pos := "law.go:238", after := #[], guard := none }) (v := .pointer (some ⟨p6, 1, none⟩)) rfl (by kernel_rfl) (by kernel_rfl) (by kernel_rfl) (fun _ _ _ h => h) ?_ hB ?_
  · (refine Or.inl ⟨by kernel_rfl, ?_⟩; intro w hSw; obtain ⟨hS1, hS2⟩ := hSw; have h1 := hS1.cell 1; have hz := hS1.lt; go_simp)
  simp only [Act.put, List.setIfInBounds_toArray, List.set_cons_zero, List.set_cons_succ]
  refine wpAnyH_take (i := 4) (oi := { dst := some 35, op := Op.load 3 (Operand.tmp 34), type := 3, pos := "law.go:238", after := #[{ on := 3, ground := Ground.data }], guard := none }) (v := .int .i64 xn) rfl (by kernel_rfl) (by kernel_rfl) (by kernel_rfl) (fun _ _ _ h => h) ?_ hB ?_
  · (refine Or.inl ⟨by kernel_rfl, ?_⟩; intro w hSw; obtain ⟨hS1, hS2⟩ := hSw; have h1 := hS1.cell 1; have hz := hS1.lt; go_simp)
  simp only [Act.put, List.setIfInBounds_toArray, List.set_cons_zero, List.set_cons_succ]
  exact smallB_o p p6 nl xlc nd xdc xk xn xls xds m m2 v V t0 t1 t2 t4 t5 t6 t8 t9 t10 t11 t12 t13 t14 t15 t16 t17 t18 t19 t20 t21 t22 t23 t24 t25 t26 t27 t28 t29 t30 t31 t32 t33 t34 t35 t36 t37 t38 t39 t40 t41 t42 t43 t44 t45 t46 t47 t48 t49 t50 t51 t52 t53 t54 t55 t56 t57 t58 t59 Q HD HK HNE HBM HQ _ hB (HK.out.keep (Below.refl _ _).drew) ((But.refl _ _).drew)
end Go.Proofs.YtjnbdajdllpchaaDoor
