/- Texts in one: PsA, PsR. -/
import Derived.Test.YtkpffjcdalclmaaDoorDeA
import Derived.Test.YtkpffjcdalclmaaDoorPeZ
import Derived.Test.YtkpffjcdalclmaaDoorMsL
import Derived.Test.YtkpffjcdalclmaaDoorStG
import Derived.Test.YtkpffjcdalclmaaDoorFrA
import Derived.Test.YtkpffjcdalclmaaDoorHrB
namespace Go.Proofs.YtkpffjcdalclmaaDoor
open Go.RowKit
set_option linter.unusedVariables false
set_option linter.unusedSimpArgs false
set_option maxRecDepth 100000
theorem MsFit_of_key {x : MsI} (h : MgFit x) (hk : ∀ t ∈ x.1.bk.txs, ∀ i ∈ t.ins, i.key.length ≤ 1100000) : MsFit x.1 :=
  ⟨Nat.le_trans h.1 (by decide), Nat.le_trans h.2.1 (by decide), fun _ => ⟨Nat.le_trans h.2.2.1 (by decide), fun t ht => ⟨Nat.le_trans (h.2.2.2 t ht).1 (by decide), Nat.le_trans (h.2.2.2 t ht).2 (by decide), fun i hi => hk t ht i hi⟩⟩⟩
theorem menc_slice (y : MsM) (w : World) (hV : MsV w w.heap.size y) (hF : MsFit y) (hL : LaidM w) :
    Calls Tryd.prog 28 #[.agg (msL y).toArray] w fun r w' => ∃ s c, r = .returned (.tuple #[.slice s (encB y).length c, .int .i64 ((msE y : Nat) : Int)]) ∧ Below w.heap.size w w' ∧ Mine w' w.heap.size (.slice s (encB y).length c) (encB y) := by
  refine (mencode_any y w hV hF hL).mono ?_
  rintro r w' ⟨v8, rfl, hb8, hg, hbad⟩
  by_cases hm : msE y = 0
  · have hM := hg hm
    have e : encB y = encL (kindL y.kd.toNat) (dataL y) := by unfold encB; rw [if_pos hm]
    rw [← e] at hM
    obtain ⟨s, c, rfl⟩ := hM.slice
    exact ⟨s, c, rfl, hb8, hM⟩
  · have e : encB y = [] := by unfold encB; rw [if_neg hm]
    rw [e, hbad hm]
    exact ⟨none, 0, rfl, hb8, .inl ⟨rfl, rfl⟩⟩
theorem allB_lt {w : World} {B : Nat} {L : List MsI} (hV : ∀ x ∈ L, MsV w B x.1) : ∀ x ∈ allB L, x < 256 := by
  intro x hx
  unfold allB at hx
  simp only [List.mem_flatten, List.mem_map] at hx
  obtain ⟨_, ⟨m, hm, rfl⟩, h⟩ := hx
  exact encB_lt (hV m hm) x h
set_option maxHeartbeats 8000000 in
theorem bytesL_any (s0 : Option Addr) (n c : Nat) (L : List MsI) (w : World) (hR : RowV msR w w.heap.size (.slice s0 n c) L) (hV : ∀ x ∈ L, MsV w w.heap.size x.1 ∧ MsFit x.1) (hn : n ≤ 10) (hL : LaidM w) :
    Calls Tryd.prog 13 #[.slice s0 n c] w fun r w' => ∃ v', r = .returned v' ∧ Mine w' w.heap.size v' (allB L) ∧ Below w.heap.size w w' := by
  have hnl : n = L.length := by obtain ⟨s, cap, e, _⟩ := hR; injection e
  have HN := Lib.hid hnl
  have HV := Lib.hid hV
  have HLD := Lib.hid hL
  have HL : Hid (∀ k, k < n → ∃ x b o, L[k]? = some x ∧ s0 = some ⟨b, o, none⟩ ∧ b < w.heap.size ∧ w.rangeAt b (o + k * 106) (msL x.1)) := by
    show ∀ k, k < n → _
    rw [hnl]
    exact row_at hR
  have hlo : 3 + 1 ≤ w.heap.size := hL.size
  have HLO := Lib.hid hlo
  clear hR hV hL hnl hlo
  go_enter Tryd.func13, Tryd.ntmps13
  go_wp2_with fail
  go_loopw [3, 10] (fun ov i wr => ∃ (k : Nat) (v' : Value), k ≤ n ∧ ov = v' ∧ i = .int .i64 k ∧ Hid (Mine wr w.heap.size v' (allB (L.take k))) ∧ Hid (Below w.heap.size w wr)) (fun _ i _ => n - (intOf i).toNat)
  case atStart => exact ⟨0, .slice none 0 0, Nat.zero_le _, rfl, rfl, .inl ⟨rfl, rfl⟩, Below.refl _ _⟩
  case round =>
    obtain ⟨k, ov, hk, hov, rfl, HM, HB⟩ := hrel
    replace hov := hov.symm
    subst hov
    by_cases hlt : k < n
    · obtain ⟨x, b, o, hkt, rfl, hbw, hrg⟩ := HL.out k hlt
      have j1 : decide ((k : Int) < (n : Int)) = true := decide_eq_true (by omega)
      replace hrg := rr_below hrg HB.out hbw
      have hbr : b < wr.heap.size := Nat.lt_of_lt_of_le hbw HB.out.size
      have hxm := List.mem_of_getElem? hkt
      have HXV := Lib.hid ((HV.out x hxm).1.keep HB.out (Nat.le_refl _))
      have HFT := Lib.hid (HV.out x hxm).2
      have HST := Lib.hid (allB_take L k x hkt)
      obtain ⟨hstc, K6, B6⟩ := row_made msR_ok x wr Tryd.zeroCells58 58 (by rw [msz]; exact msL_len hd0_is)
      change (storeCells ⟨wr.heap.size, 0, none⟩ (msL x.1)).run Tryd.prog _ = .ok () ((wr.alloc _).setCells wr.heap.size 0 (msL x.1)) at hstc
      change Bk ((wr.alloc _).setCells wr.heap.size 0 (msL x.1)) wr.heap.size 58 (msL x.1).toArray at K6
      change Below wr.heap.size wr ((wr.alloc _).setCells wr.heap.size 0 (msL x.1)) at B6
      have hpl : (msL x.1).length = 106 := msL_len x.2
      have hps : (Tryd.prog.info? 58).map (·.size) = some (msL x.1).length := by rw [hpl]; exact msi_r
      have hLM : (allB (L.take k)).length ≤ 8216 * 10 := by
        have h1 := allB_len (L.take k)
        have h2 := List.length_take_le k L
        have h3 : (L.take k).length ≤ 10 := by omega
        omega
      have HLM := Lib.hid hLM
      have HB6 := Lib.hid B6
      obtain ⟨Y, hY⟩ : ∃ Y, Y = allB (L.take k) := ⟨_, rfl⟩
      rw [← hY] at HST HLM HM
      obtain ⟨PL, hPL⟩ : ∃ PL, PL = msL x.1 := ⟨_, rfl⟩
      have HPL := Lib.hid hPL
      rw [← hPL] at hrg hstc K6 hpl hps HB6
      have HPS := Lib.hid hps
      clear hPL hkt hxm hLM hY B6
      go_upto_region 5 with (refine wpList_load_mid rfl 58 (.tmp 12) rfl b (o + k * 106) rfl PL _ hrg Tryd.underlying58 rfl hps ?_)
      refine wp_any (fun W => Below wr.heap.size wr W ∧ Bk W wr.heap.size 58 PL.toArray) ⟨HB6.out, K6⟩ ?_
      clear HB6 K6 hstc hpl hps hrg hbr
      rintro W6 ⟨hW6, K6⟩
      have HB6 := Lib.hid (below_step HB.out HB.out.size hW6)
      have HM6 := Lib.hid (HM.out.keep hW6)
      have HXV6 : Hid (MsV W6 W6.heap.size x.1) := (HXV.out.keep (hW6.mono HB.out.size) (Nat.le_refl _)).mono HB6.out.size
      have HK6 := Lib.hid K6
      have z6 := K6.lt
      generalize wr.heap.size = g6 at *
      clear hW6 K6 HB HM HXV
      have hps := HPS.out
      have hrg := hd_range HK6.out
      have HEN := Lib.hid (menc_slice x.1 W6 HXV6.out HFT.out (HLD.out.below HB6.out HLO.out))
      rw [← HPL.out] at HEN
      go_wp2_with (refine wpList_load_mid rfl 58 (.tmp 5) rfl g6 0 rfl PL _ hrg Tryd.underlying58 rfl hps ?_)
      refine HEN.out.mono ?_
      rintro e W7 ⟨s7, c7, rfl, hb7, hM7⟩
      have HB7 := Lib.hid (below_step HB6.out HB6.out.size hb7)
      have hxl := encB_lt HXV6.out
      have hen := encB_len x.1
      obtain ⟨v8, W8, hrun, M8, B8, O8⟩ := app3 Y (encB x.1) ov (.slice s7 (encB x.1).length c7) w.heap.size W7 (HM6.out.keep hb7) HB7.out.size (hM7.bs hxl) (by have := HLM.out; omega)
      have HM8 : Hid (Mine W8 w.heap.size v8 (allB (L.take (k + 1)))) := by rw [HST.out]; exact M8
      have HB8 : Hid (Below w.heap.size w W8) := HB7.out.trans (B8.below HB7.out.size (fun j hj => (HM6.out.slb_lo hj).1))
      obtain ⟨bl, hbl⟩ : ∃ bl, bl = (encB x.1).length := ⟨_, rfl⟩
      rw [← hbl] at hrun ⊢
      obtain ⟨so, co, hov⟩ := HM6.out.slice
      subst hov
      clear hrg hps hM7 hb7 HEN M8 B8 O8 hxl hen hbl z6
      go_wp2_with (at_builtin; refine wpList_app (v1 := .slice so Y.length co) (v2 := .slice s7 bl c7) (v := v8) rfl (.tmp 19) (.tmp 20) rfl rfl rfl rfl hrun ?_)
      go_roundw
      case rel => exact ⟨k + 1, v8, by omega, rfl, by go_num, HM8, HB8⟩
      case measure => simp [intOf]; omega
    · obtain rfl : k = n := by omega
      have j1 : decide ((k : Int) < (k : Int)) = false := decide_eq_false (by omega)
      have HR2 : Hid (Mine wr w.heap.size ov (allB L)) := by
        have h := HM.out
        rw [HN.out, List.take_length] at h
        exact h
      obtain ⟨so, co, hov⟩ := HR2.out.slice
      subst hov
      clear hlt HM
      go_wp2_with fail
      go_ret
      exact ⟨_, rfl, HR2.out, HB.out⟩
end Go.Proofs.YtkpffjcdalclmaaDoor
namespace Go.Proofs.YtkpffjcdalclmaaDoor
open Go.RowKit
set_option linter.unusedVariables false
set_option linter.unusedSimpArgs false
set_option maxRecDepth 100000
end Go.Proofs.YtkpffjcdalclmaaDoor
