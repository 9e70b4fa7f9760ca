/-
  Contracts of package index: Next, by rules of which the bits never change.
-/
import Derived.Test.YtljfhabhenaapaaDoorIxR
namespace Go.Proofs.YtljfhabhenaapaaDoor
open Go.RowKit
set_option linter.unusedVariables false
set_option linter.unusedSimpArgs false
set_option maxRecDepth 100000

set_option maxHeartbeats 8000000 in
theorem next_any {w : World} {p lo : Nat} {F : Nat → Prop} {r : Ru} {L : List Nd} (h : Tre w p lo F r L) (he : r.ev = 0) (j : Nat) (hj : j < L.length) :
    Calls Tryd.prog 25 #[pv p, .int .i64 (j : Int)] w fun e w' => e = .returned (.int .u32 ((ndA L j).h.b : Int)) ∧ Below w.heap.size w w' := by
  have HH := Lib.hid (has_any h (j : Int))
  have e1 : hasB L (j : Int) = true := by rw [hasB_nat]; exact decide_eq_true hj
  rw [e1] at HH
  obtain ⟨b, c, k⟩ := h.look
  obtain ⟨v, m, hV, _⟩ := h
  have hev := hV.c1
  rw [he] at hev
  have HEV := Lib.hid hev
  have hx := k.ok.hd _ (ndA_mem hj)
  have hat := k.at_ j hj
  obtain ⟨x, hxe⟩ : ∃ x, x = ndA L j := ⟨_, rfl⟩
  rw [← hxe] at hx hat ⊢
  have hbt := Lib.hid ((List.getElem?_toArray).trans (ndL_t hx).2)
  have HX := Lib.hid hx
  have HRG := Lib.hid hat.r
  have zp := k.p1
  have zb := k.b1
  have HC := Lib.hid k.c1
  unfold pv at HH ⊢
  obtain ⟨n, hn⟩ : ∃ n, n = L.length := ⟨_, rfl⟩
  rw [← hn] at hj HC
  clear hn hev hV hat hx hxe e1 k he
  go_enter Tryd.func25, Tryd.ntmps25
  go_wp2_with fail
  refine HH.out.mono ?_
  rintro e w1 ⟨rfl, rfl⟩
  go_upto_region 3 with fail
  refine next3 p b n c j 0 x w1 _ _ _ _ _ _ _ _ _ _ _ _ _ _ _ _ _ _ _ _ _ _ _ _ _ _ _ _ _ _ _ _ _ _ _ _ _ _ _ _ _ _ _ _ _ _ _ _ _ _ _ _ _ _ _ _ _ _ _ _ _ _ _ _ _ _ _ _ _ _ _ _ _ _ _ _ _ _ _ _ _ _ _ _ _ _ _ _ _ _ zp zb hj (by omega) HC HEV HX.out HRG.out (Lib.hid (fun x17 x18 x19 x20 x21 x22 x23 x24 x25 x26 x27 x28 w2 hB K => ?_))
  have zk := K.lt
  have cb : w2.cell? ⟨w1.heap.size, 66, none⟩ = some (.int .u32 (x.h.b : Int)) := by rw [K.cell]; exact hbt.out
  have HB := Lib.hid hB
  clear hB K HRG HX HC HEV HH zb zp hj
  obtain ⟨bt, hb0⟩ : ∃ bt, bt = x.h.b := ⟨_, rfl⟩
  rw [← hb0] at cb
  have HB0 := Lib.hid hb0
  clear hb0 hbt
  go_wp2_with fail
  go_ret
  exact ⟨by rw [← HB0.out]; rfl, HB.out⟩
end Go.Proofs.YtljfhabhenaapaaDoor
