/- The contract of package msg's All. -/
import Derived.Test.YtkpffjcdalclmaaDoorZMsY
namespace Go.Proofs.YtkpffjcdalclmaaDoor
open Go.RowKit
set_option linter.unusedVariables false
set_option linter.unusedSimpArgs false
set_option maxRecDepth 100000
def encB (m : MsM) : List Nat := if msE m = 0 then encL (kindL m.kd.toNat) (dataL m) else []
def allB (l : List MsI) : List Nat := (l.map fun m => encB m.1).flatten
def fstE : List MsI → Nat
 | [] => 0
 | m :: r => if msE m.1 = 0 then fstE r else msE m.1
theorem allB_take (l : List MsI) (k : Nat) (x : MsI) (h : l[k]? = some x) : allB (l.take (k + 1)) = allB (l.take k) ++ encB x.1 := by
 unfold allB
 rw [List.take_add_one, h, List.map_append, List.flatten_append]
 simp
theorem fstE_app (l : List MsI) (x : MsI) : fstE (l ++ [x]) = if fstE l = 0 then msE x.1 else fstE l := by
 induction l with
 | nil =>
  show (if msE x.1 = 0 then 0 else msE x.1) = _
  by_cases h : msE x.1 = 0
  ·rw [if_pos h]; exact h.symm
  ·rw [if_neg h]; rfl
 | cons m r ih =>
  show (if msE m.1 = 0 then fstE (r ++ [x]) else msE m.1) = if (if msE m.1 = 0 then fstE r else msE m.1) = 0 then msE x.1 else (if msE m.1 = 0 then fstE r else msE m.1)
  by_cases h : msE m.1 = 0
  ·rw [if_pos h, if_pos h, ih]
  ·rw [if_neg h, if_neg h, if_neg h]
theorem fstE_take (l : List MsI) (k : Nat) (x : MsI) (h : l[k]? = some x) : fstE (l.take (k + 1)) = if fstE (l.take k) = 0 then msE x.1 else fstE (l.take k) := by
 rw [List.take_add_one, h]
 exact fstE_app _ _
theorem fstE_sub (l r : List MsI) (h : fstE l ≠ 0) : fstE (l ++ r) = fstE l := by
 induction l with
 | nil => exact absurd rfl h
 | cons m l ih =>
  show (if msE m.1 = 0 then fstE (l ++ r) else msE m.1) = (if msE m.1 = 0 then fstE l else msE m.1)
  by_cases hm : msE m.1 = 0
  ·rw [if_pos hm, if_pos hm]
   exact ih (by
    intro h0
    apply h
    show (if msE m.1 = 0 then fstE l else msE m.1) = 0
    rw [if_pos hm, h0])
  ·rw [if_neg hm, if_neg hm]
theorem fstE_stop (l : List MsI) (k : Nat) (x : MsI) (h : l[k]? = some x) (h0 : fstE (l.take k) = 0) (hx : msE x.1 ≠ 0) : fstE l = msE x.1 := by
 have h1 := fstE_take l k x h
 rw [if_pos h0] at h1
 have h2 := fstE_sub (l.take (k + 1)) (l.drop (k + 1)) (by rw [h1]; exact hx)
 rw [List.take_append_drop] at h2
 rw [h2, h1]
theorem msE_kd {m : MsM} (h : msE m = 0) : 1 ≤ m.kd ∧ m.kd ≤ 10 ∧ ¬ MsLong m := by
 unfold msE at h
 split at h
 ·cases h
 ·rename_i h1
  split at h
  ·cases h
  ·exact ⟨by omega, by omega, by assumption⟩
theorem encB_len (m : MsM) : (encB m).length ≤ 8216 := by
 unfold encB
 split
 ·rename_i h
  rw [encL_len _ _ (Nat.le_trans (kind_len _) (by decide))]
  have := dataL_short (msE_kd h).2.2
  omega
 ·exact Nat.zero_le _
theorem encB_lt {w : World} {B : Nat} {m : MsM} (h : MsV w B m) : ∀ x ∈ encB m, x < 256 := by
 unfold encB
 split
 ·exact encL_lt _ _ (kind_lt _) (dataL_lt h)
 ·intro x hx; cases hx
theorem allB_len (l : List MsI) : (allB l).length ≤ 8216 * l.length := by
 induction l with
 | nil => exact Nat.le_refl _
 | cons m r ih =>
  show (encB m.1 ++ allB r).length ≤ _
  have := encB_len m.1
  rw [List.length_append, List.length_cons]
  omega
set_option maxHeartbeats 8000000 in
theorem mall_any (s0 : Option Addr) (n c : Nat) (L : List MsI) (w : World) (hR : RowV msR w w.heap.size (.slice s0 n c) L) (hV : ∀ x ∈ L, MsV w w.heap.size x.1 ∧ MsFit x.1) (hn : n ≤ 10) (hL : LaidM w) :
  Calls Tryd.prog 27 #[.slice s0 n c] w fun r w' => ∃ v', r = .returned (.tuple #[v', .int .i64 ((fstE L : Nat) : Int)]) ∧ Below w.heap.size w w' ∧ (fstE L = 0 → Mine w' w.heap.size v' (allB L)) ∧ (fstE L ≠ 0 → v' = .slice none 0 0) := by
 have hnl : n = L.length := by obtain ⟨s, cap, e, _⟩ := hR; injection e
 have HN := Lib.hid hnl
 have HV := Lib.hid hV
 have HLD := Lib.hid hL
 have HL : Hid (∀ k, k < n → ∃ x b o, L[k]? = some x ∧ s0 = some ⟨b, o, none⟩ ∧ b < w.heap.size ∧ w.rangeAt b (o + k * 106) (msL x.1)) := by
  show ∀ k, k < n → _
  rw [hnl]
  exact row_at hR
 have HLX : Hid (∀ x ∈ allB L, x < 256) := by
  intro x hx
  unfold allB at hx
  simp only [List.mem_flatten, List.mem_map] at hx
  obtain ⟨_, ⟨m, hm, rfl⟩, h⟩ := hx
  exact encB_lt (hV m hm).1 x h
 clear hR hV hL hnl
 go_enter Tryd.func27, Tryd.ntmps27
 go_upto_region 2 with fail
 refine wp_any (fun W => Below w.heap.size w W ∧ Bk W w.heap.size 104 #[.slice none 0 0]) ⟨(Below.refl _ _).alloc (Nat.le_refl _) _, Bk.new _ _ _⟩ ?_
 obtain ⟨g, hg⟩ : ∃ g, g = w.heap.size := ⟨_, rfl⟩
 rw [← hg]
 rintro W0 ⟨hW, KG⟩
 have HG := Lib.hid hg
 have HW0 : Hid (Below w.heap.size w W0) := by rw [← hg]; exact hW
 have M0 : Mine W0 g (.slice none 0 0) [] := .inl ⟨rfl, rfl⟩
 have HM0 := Lib.hid M0
 have HS := Lib.hid (Ws.refl KG M0)
 have HMV : Hid (∀ W' v X, Ws W0 g g (.slice none 0 0) W' v X → Below w.heap.size w W') := fun W' v X h => HW0.out.trans (h.below M0 (B := w.heap.size) (by omega) (by omega) HW0.out.size)
 clear hW KG M0 hg
 go_wp2_with fail
 go_loopw [11] (fun i wr => ∃ (k : Nat) (vr : Value), k ≤ n ∧ i = .int .i64 k ∧ Hid (Ws W0 g g (.slice none 0 0) wr vr (allB (L.take k))) ∧ Hid (fstE (L.take k) = 0)) (fun i _ => n - (intOf i).toNat)
 case atStart => exact ⟨0, .slice none 0 0, Nat.zero_le _, rfl, HS.out, rfl⟩
 case round =>
  obtain ⟨k, vr, hk, rfl, HR, HF⟩ := hrel
  clear HS
  by_cases hlt : k < n
  ·obtain ⟨x, b, o, hkt, rfl, hbw, hrg⟩ := HL.out k hlt
   have j1 : decide ((k : Int) < (n : Int)) = true := decide_eq_true (by omega)
   have hTB := HMV.out _ _ _ HR.out
   replace hrg := rr_below hrg hTB hbw
   have hbr : b < wr.heap.size := Nat.lt_of_lt_of_le hbw hTB.size
   have hxm := List.mem_of_getElem? hkt
   have hXV := (HV.out x hxm).1
   have HFT := Lib.hid (HV.out x hxm).2
   have HST := Lib.hid (allB_take L k x hkt)
   have HFS := Lib.hid (fstE_take L k x hkt)
   have HFP := Lib.hid (fun hx => fstE_stop L k x hkt HF.out hx)
   obtain ⟨hstc, K6, B6⟩ := row_made msR_ok x wr Tryd.zeroCells58 58 (by rw [msz]; exact msL_len hd0_is)
   change (storeCells ⟨wr.heap.size, 0, none⟩ (msL x.1)).run Tryd.prog _ = .ok () ((wr.alloc _).setCells wr.heap.size 0 (msL x.1)) at hstc
   change Bk ((wr.alloc _).setCells wr.heap.size 0 (msL x.1)) wr.heap.size 58 (msL x.1).toArray at K6
   change Below wr.heap.size wr ((wr.alloc _).setCells wr.heap.size 0 (msL x.1)) at B6
   have hpl : (msL x.1).length = 106 := msL_len x.2
   have hps : (Tryd.prog.info? 58).map (·.size) = some (msL x.1).length := by rw [hpl]; exact msi_r
   have HR6 := Lib.hid (HR.out.later B6)
   have hLM : (allB (L.take k)).length ≤ 8216 * 10 := by
    have h1 := allB_len (L.take k)
    have h2 := List.length_take_le k L
    have h3 : (L.take k).length ≤ 10 := by omega
    omega
   have HLM := Lib.hid hLM
   have HXV := Lib.hid hXV
   obtain ⟨Y, hY⟩ : ∃ Y, Y = allB (L.take k) := ⟨_, rfl⟩
   rw [← hY] at HR6 HST HLM
   obtain ⟨PL, hPL⟩ : ∃ PL, PL = msL x.1 := ⟨_, rfl⟩
   have HPL := Lib.hid hPL
   rw [← hPL] at hrg hstc K6 hpl hps HR6
   have HPS := Lib.hid hps
   have HNG : Hid (wr.heap.size ≠ g) := by have := HR.out.G.lt; show wr.heap.size ≠ g; omega
   clear hPL hTB hkt hbw HR hxm hXV hLM hY B6
   go_upto_region 5 with (refine wpList_load_mid rfl 58 (.tmp 13) rfl b (o + k * 106) rfl PL _ hrg Tryd.underlying58 rfl hps ?_)
   refine wp_any (fun W => Ws W0 g g (.slice none 0 0) W vr Y ∧ Bk W wr.heap.size 58 PL.toArray) ⟨HR6.out, K6⟩ ?_
   clear HR6 K6 hstc hpl hps hrg hbr
   generalize wr.heap.size = g6 at *
   rintro W6 ⟨hS6, K6⟩
   have hrg := hd_range K6
   have hps := HPS.out
   have z6 := K6.lt
   have HB6 := Lib.hid (HMV.out _ _ _ hS6)
   have HEN := Lib.hid (mencode_any x.1 W6 ((HXV.out.keep HB6.out (Nat.le_refl _)).mono HB6.out.size) HFT.out (HLD.out.keep HB6.out))
   rw [← HPL.out] at HEN
   have HS6 := Lib.hid hS6
   clear hS6 K6
   go_wp2_with (refine wpList_load_mid rfl 58 (.tmp 6) rfl g6 0 rfl PL _ hrg Tryd.underlying58 rfl hps ?_)
   refine HEN.out.mono ?_
   rintro e W7 ⟨v7, rfl, hb7, hM7, hv7⟩
   have HS7 := Lib.hid (HS6.out.later hb7)
   have HB7 := Lib.hid (below_step HB6.out HB6.out.size hb7)
   have HM7 := Lib.hid hM7
   have HZ6 := Lib.hid HS6.out.G.lt
   have HI6 : Hid (g < W6.heap.size) := HS6.out.G.lt
   obtain ⟨e0, he0⟩ : ∃ e, e = msE x.1 := ⟨_, rfl⟩
   have HE0 := Lib.hid he0
   rw [← he0] at hv7 ⊢
   clear hb7 hM7 HEN hrg hps z6 he0
   by_cases h0 : e0 = 0
   ·subst h0
    have hM := HM7.out HE0.out.symm
    have hEB : encB x.1 = encL (kindL x.1.kd.toNat) (dataL x.1) := by unfold encB; rw [if_pos HE0.out.symm]
    rw [← hEB] at hM
    have hxl := encB_lt HXV.out
    have hen := encB_len x.1
    obtain ⟨s7, c7, hv⟩ := hM.slice
    obtain ⟨l7, hl7⟩ : ∃ l, l = (encB x.1).length := ⟨_, rfl⟩
    rw [← hl7] at hv
    subst hv
    have hA7 : Below W7.heap.size W7 (W7.alloc (.cells #[.slice s7 l7 c7] 32)) := (Below.refl _ _).alloc (Nat.le_refl _) _
    have hbn : BsN (W7.alloc (.cells #[.slice s7 l7 c7] 32)) (fun k => k = g ∨ slb vr k) (.slice s7 l7 c7) (encB x.1) := by
     refine mine_bsn (hM.keep hA7) hxl (fun k hk _ => ?_)
     rintro (h | h)
     ·have := HI6.out; omega
     ·have := (HS6.out.M.slb_lo h).2.1; omega
    have HC := raw_any g g (some ⟨W7.heap.size, 0, none⟩) 1 [encB x.1] Y vr (W7.alloc (.cells #[.slice s7 l7 c7] 32)) (HS7.out.G.alloc _) (HS7.out.M.keep hA7) (Nat.le_trans (Nat.le_of_lt HS7.out.G.lt) hA7.size) (by have := HLM.out; simp; omega) (by simp) (partsN_one hbn (Bk.new _ _ _) (new_s HS7.out.M HS7.out.G.lt))
    simp only [List.flatten_cons, List.flatten_nil, List.append_nil] at HC
    have HC := Lib.hid HC
    have HS8 := Lib.hid (HS7.out.later hA7)
    have HF9 : Hid (fstE (L.take (k + 1)) = 0) := by show _ = _; rw [HFS.out, if_pos HF.out]; exact HE0.out.symm
    clear hA7 hbn hM hEB hxl hen hl7 hv7 HS7 HF
    go_wp2_with fail
    refine HC.out.mono ?_
    rintro e W8 h
    obtain ⟨rfl, v8, H8⟩ := HS8.out.call h
    rw [← HST.out] at H8
    have H8 := Lib.hid H8
    clear h HC HS8
    go_wp2_with fail
    go_roundw
    case rel => exact ⟨k + 1, v8, by omega, by go_num, H8, HF9⟩
    case measure => simp [intOf]; omega
   ·have d0 : (((e0 : Nat) : Int) != 0) = true := by simp; omega
    have HZ := Lib.hid (HFP.out (by rw [← HE0.out]; exact h0))
    have H0 := Lib.hid h0
    clear h0
    go_wp2_with fail
    go_ret2
    exact ⟨_, by rw [HZ.out, ← HE0.out]; rfl, HB7.out, fun h => absurd (by rw [← h, HZ.out]; exact HE0.out) H0.out, fun _ => rfl⟩
  ·obtain rfl : k = n := by omega
   have j1 : decide ((k : Int) < (k : Int)) = false := decide_eq_false (by omega)
   have HR2 : Hid (Ws W0 g g (.slice none 0 0) wr vr (allB L)) := by
    have h := HR.out
    rw [HN.out, List.take_length] at h
    exact h
   have HF2 : Hid (fstE L = 0) := by
    have h := HF.out
    rw [HN.out, List.take_length] at h
    exact h
   have HLL : Hid ((allB L).length ≤ 1000000) := by
    have h1 := allB_len L
    have h2 := HN.out
    show _ ≤ _
    omega
   have HB := Lib.hid (bytes_any g g (allB L) vr wr HR2.out.G HR2.out.M HLX.out (Nat.le_trans HLL.out (by decide)))
   have HD := Lib.hid (HMV.out _ _ _ HR2.out)
   clear hlt HR HF
   go_wp2_with fail
   refine HB.out.mono ?_
   rintro e w' ⟨v', rfl, M', B'⟩
   have MM := M'.mono HD.out.size
   have hw' := below_step HD.out HD.out.size B'
   obtain ⟨s', c', rfl⟩ := M'.slice
   have MM := Lib.hid MM
   clear M' B'
   go_wp2_with fail
   go_ret2
   exact ⟨_, by rw [HF2.out]; rfl, hw', fun _ => MM.out, fun h => absurd HF2.out h⟩
end Go.Proofs.YtkpffjcdalclmaaDoor
