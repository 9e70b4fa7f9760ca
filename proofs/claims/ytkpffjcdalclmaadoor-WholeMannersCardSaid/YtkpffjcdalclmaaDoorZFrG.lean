/- The contracts of a Feed's whole, headFault and fault. -/
import Derived.Test.YtkpffjcdalclmaaDoorZFrF
namespace Go.Proofs.YtkpffjcdalclmaaDoor
open Go.RowKit
set_option linter.unusedVariables false
set_option linter.unusedSimpArgs false
set_option maxRecDepth 100000
def dropA (a : Addr) (c k : Nat) : Option Addr := if c = k then some a else some (a.add k)
theorem bsv_rest {w : World} {B n c : Nat} {a : Addr} {xs : List Nat} (k : Nat) (h : BsV w B (.slice (some a) n c) xs) (hk : k ≤ xs.length) : BsV w B (.slice (dropA a c k) (n - k) (c - k)) (xs.drop k) := by
 obtain ⟨s, cap, e, h1, h2, h3, h4⟩ := h
 cases e
 refine ⟨_, _, by rw [List.length_drop], by rw [List.length_drop]; omega, by omega, fun x hx => h3 x (List.mem_of_mem_drop hx), fun hne => ?_⟩
 have hl : k < xs.length := by
  rcases Nat.lt_or_ge k xs.length with h | h
  ·exact h
  ·exact absurd (List.drop_eq_nil_of_le h) hne
 have hne' : xs ≠ [] := by rintro rfl; simp at hl
 obtain ⟨b, o, e1, hb, hc⟩ := h4 hne'
 cases e1
 refine ⟨b, o + k, by unfold dropA; rw [if_neg (by omega), Go.WideShapes.add_plain], hb, fun j hj => ?_⟩
 rw [List.length_drop] at hj
 have h5 := hc (k + j) (by omega)
 rw [← Nat.add_assoc] at h5
 rw [h5]
 unfold nth
 rw [List.getD, List.getD, List.getElem?_drop]
theorem slice_rest (b o n c k : Nat) (hk : k ≤ n) (hnc : n ≤ c) (hc : c < 9223372036854775808) (w : World) :
  (Instr.slice 32 (.slice (some ⟨b, o, none⟩) n c) (some (.int .i64 (k : Int))) none none).run Tryd.prog w = .ok (.slice (dropA ⟨b, o, none⟩ c k) (n - k) (c - k)) w := by
 have h1 : (k : Int) ≤ (n : Int) := by omega
 have h2 : (n : Int) ≤ (c : Int) := by omega
 have h3 : (0 : Int) ≤ (k : Int) := by omega
 have h4 : (k : Int) ≤ (c : Int) := by omega
 unfold dropA
 by_cases hck : c = k
 ·rw [if_pos hck]
  subst hck
  obtain rfl : n = c := by omega
  go_simp
 ·rw [if_neg hck]
  rw [Go.WideShapes.add_plain]
  go_simp
theorem wordN_lt (xs : List Nat) (hx : ∀ x ∈ xs, x < 256) : ∀ x ∈ wordN xs, x < 256 := fun x h => hx x (List.mem_of_mem_drop (List.mem_of_mem_take ((List.takeWhile_sublist _).subset h)))
theorem fieldN_len (xs : List Nat) (h : 16 ≤ xs.length) : (fieldN xs).length = 12 := by unfold fieldN; rw [List.length_take, List.length_drop]; omega
theorem wordN_len (xs : List Nat) : (wordN xs).length ≤ 12 := by
 have h := (List.takeWhile_prefix (l := fieldN xs) (fun x => x != 0)).length_le
 have h2 : (fieldN xs).length ≤ 12 := by unfold fieldN; rw [List.length_take]; omega
 exact Nat.le_trans h h2
set_option maxHeartbeats 4000000 in
theorem fwhole_any {FT : TypeId} {FR : Array Value} {fo : Nat} [hfd : FdOk FT FR fo] (p n c e : Nat) (s : Option Addr) (xs : List Nat) (w : World) (hP : Bk w p FT (fdA FR fo (.slice s n c) (.int .i64 (e : Int)))) (hb : BsV w w.heap.size (.slice s n c) xs) (hl : xs.length ≤ 100000) :
  Calls Tryd.prog 55 #[.pointer (some ⟨p, fo, none⟩)] w fun r w' => r = .returned (.bool (wholeB xs)) ∧ Below w.heap.size w w' := by
 have hx : ∀ x ∈ xs, x < 256 := by
  obtain ⟨s, cap, e, h1, h2, h3, h4⟩ := hb
  exact h3
 have hn : n = xs.length := by
  obtain ⟨s, cap, e, h1, h2, h3, h4⟩ := hb
  cases e
  rfl
 have HP := Lib.hid hP
 by_cases h24 : n < 24
 ·have e0 : wholeB xs = false := decide_eq_false (by rintro ⟨h1, _⟩; omega)
  rw [e0]
  have q1 : decide ((24 : Int) ≤ (n : Int)) = false := decide_eq_false (by omega)
  clear h24 e0 hb hx hl hn hP
  go_enter Tryd.func55, Tryd.ntmps55
  go_upto_region 1 with fail
  refine wholeL p n c e s _ _ _ _ _ _ _ _ _ _ _ _ _ _ _ _ _ _ _ _ _ _ HP q1 (Lib.hid (fun _ _ _ _ _ _ _ _ _ _ _ _ _ _ _ _ _ _ w2 hb2 => ?_))
  go_wp2_with fail
  go_ret
  exact ⟨rfl, hb2⟩
 have q1 : decide ((24 : Int) ≤ (n : Int)) = true := decide_eq_true (by omega)
 obtain ⟨a, rfl⟩ : ∃ a, s = some a := by
  obtain ⟨s', cap, e, h1, h2, h3, h5⟩ := hb
  cases e
  obtain ⟨b, o, e1, _⟩ := h5 (by rintro rfl; apply h24; rw [hn]; decide)
  exact ⟨_, e1⟩
 have hd := dataN_lt xs hx
 have hdn : ofL ((xs.drop 16).take 4) = dataN xs := rfl
 have HC : Hid (∀ W, Below w.heap.size w W → Calls Tryd.prog 73 #[.pointer (some ⟨p, fo, none⟩)] W fun r w' => r = .returned (.int .u64 ((dataN xs : Nat) : Int)) ∧ Below W.heap.size W w') := fun W h =>
  flen_any p n c e a xs W (hP.keep h) ((hb.keep h (Nat.le_refl _)).mono h.size) (by omega) hl
 have hr : ((n : Int) == ((24 + dataN xs : Nat) : Int)) = wholeB xs := by
  unfold wholeB
  by_cases h : n = 24 + dataN xs
  ·rw [decide_eq_true ⟨by omega, by omega⟩, h]
   simp
  ·rw [decide_eq_false (by rintro ⟨_, h1⟩; omega), beq_eq_false_iff_ne]
   omega
 have hnw : IntKind.u64.wrap (n : Int) = (n : Int) := by
  simp [IntKind.wrap, IntKind.signed, IntKind.bits]
  omega
 have hdw : IntKind.u64.wrap (24 + ((dataN xs : Nat) : Int)) = ((24 + dataN xs : Nat) : Int) := by
  simp [IntKind.wrap, IntKind.signed, IntKind.bits]
  omega
 obtain ⟨r, hr0⟩ : ∃ r, r = wholeB xs := ⟨_, rfl⟩
 rw [← hr0] at hr ⊢
 generalize dataN xs = d at *
 generalize 24 + d = d24 at *
 clear h24 hb hx hl hn hP hd hr0
 go_enter Tryd.func55, Tryd.ntmps55
 go_upto_region 1 with fail
 refine wholeG p n c e _ _ _ _ _ _ _ _ _ _ _ _ _ _ _ _ _ _ _ _ _ _ _ HP q1 d d24 r hnw hdw hr HC (Lib.hid (fun _ _ _ _ _ _ _ _ _ _ _ _ _ _ _ _ _ _ w2 hb2 => ?_))
 go_wp2_with fail
 go_ret
 exact ⟨rfl, hb2⟩
set_option maxHeartbeats 4000000 in
theorem fheadfault_any {FT : TypeId} {FR : Array Value} {fo : Nat} [hfd : FdOk FT FR fo] (p n c e : Nat) (a : Addr) (xs : List Nat) (w : World) (hP : Bk w p FT (fdA FR fo (.slice (some a) n c) (.int .i64 (e : Int)))) (hb : BsV w w.heap.size (.slice (some a) n c) xs) (h24 : 24 ≤ xs.length) (hl : xs.length ≤ 100000) :
  Calls Tryd.prog 76 #[.pointer (some ⟨p, fo, none⟩)] w fun r w' => r = .returned (.int .i64 ((headE xs : Nat) : Int)) ∧ Below w.heap.size w w' := by
 have hx : ∀ x ∈ xs, x < 256 := by
  obtain ⟨s, cap, e, h1, h2, h3, h4⟩ := hb
  exact h3
 have hcap : xs.length ≤ c ∧ c < 9223372036854775808 ∧ n = xs.length := by
  obtain ⟨s, cap, e, h1, h2, h3, h4⟩ := hb
  cases e
  exact ⟨h1, h2, rfl⟩
 obtain ⟨b, o, rfl⟩ : ∃ b o, a = ⟨b, o, none⟩ := by
  obtain ⟨s', cap, e, h1, h2, h3, h5⟩ := hb
  cases e
  obtain ⟨b, o, e1, _⟩ := h5 (by rintro rfl; cases h24)
  cases e1
  exact ⟨_, _, rfl⟩
 have HP := Lib.hid hP
 have HW := Lib.hid (fword_any p n c e ⟨b, o, none⟩ xs w hP hb (by omega))
 have hwl := wordN_len xs
 have hwx := wordN_lt xs hx
 have hfl := fieldN_len xs (by omega)
 have hpart := fun W (h : Below w.heap.size w W) => bsv_part 4 12 (hb.keep h (Nat.le_refl _)) (by omega)
 have HCK : Hid (∀ W, Calls Tryd.prog 62 #[.string (strN (wordN xs))] W fun r w' => r = .returned (.int .i64 ((wordE (wordN xs) : Nat) : Int)) ∧ Below W.heap.size W w') := fun W => fcheck_any (wordN xs) W hwx
 have HLD : Hid (∀ W, Calls Tryd.prog 64 #[.string (strN (wordN xs))] W fun r w' => r = .returned (.agg (idA (wordN xs ++ zeros (12 - (wordN xs).length)))) ∧ Below W.heap.size W w') := fun W => laid_any (wordN xs) W hwl hwx
 have HLN : Hid (∀ W, Below w.heap.size w W → Calls Tryd.prog 73 #[.pointer (some ⟨p, fo, none⟩)] W fun r w' => r = .returned (.int .u64 ((dataN xs : Nat) : Int)) ∧ Below W.heap.size W w') := fun W h =>
  flen_any p n c e _ xs W (hP.keep h) ((hb.keep h (Nat.le_refl _)).mono h.size) (by omega) hl
 have HRG : Hid (∀ W, Below w.heap.size w W → W.rangeAt b (o + 4) ((fieldN xs).map byteV)) := fun W h j v hv => by
  obtain ⟨s', cap, e', h1, h2, h3, h4⟩ := hpart W h
  have h5 : ((xs.drop 4).take 12).length = 12 := hfl
  rw [h5] at e'
  rw [Go.WideShapes.add_plain] at e'
  cases e'
  obtain ⟨b', o', e2, hlt, hc⟩ := h4 (by intro h0; rw [h0] at h5; cases h5)
  cases e2
  have hj : j < 12 := by have := (List.getElem?_eq_some_iff.1 hv).1; rw [List.length_map] at this; omega
  rw [hc j (by omega)]
  rw [List.getElem?_map] at hv
  rw [← hv]
  have h6 : (fieldN xs)[j]? = some (nth (fieldN xs) j) := by unfold nth; rw [List.getD_eq_getElem?_getD, List.getElem?_eq_getElem (by omega)]; rfl
  rw [h6]
  rfl
 have hps : (Tryd.prog.info? 133).map (·.size) = some ((fieldN xs).map byteV).length := by rw [List.length_map, hfl]; exact a12_info
 have hat : ∀ w, (Instr.arrayAt 133 (.slice (some ⟨b, o + 4, none⟩) 12 (c - 4))).run Tryd.prog w = .ok (.pointer (some ⟨b, o + 4, none⟩)) w := fun w => run_arrayAt (P := Tryd.prog) (w := w) 133 5 12 (some ⟨b, o + 4, none⟩) 12 (c - 4) Tryd.underlying133 (by omega)
 have hgd : ∀ (a b : Operand) W, (eqGuard .neq 133 a b (.agg (idA (wordN xs ++ zeros (12 - (wordN xs).length)))) (.agg ((fieldN xs).map byteV).toArray)).run Tryd.prog W = .ok () W := fun a b W => a12_guard _ _ .neq a b W
 have hbn : ∀ W, (binOp .neq 133 (.agg (idA (wordN xs ++ zeros (12 - (wordN xs).length)))) (.agg ((fieldN xs).map byteV).toArray)).run Tryd.prog W = .ok (.bool (!decide (wordN xs ++ zeros (12 - (wordN xs).length) = fieldN xs))) W := fun W => a12_neq _ _ (by rw [List.length_append, zeros_length]; omega) hfl W
 have hc1 : (16 : Int) ≤ (c : Int) := by omega
 have hc2 : ¬ c = 4 := by omega
 have hc3 : (c : Int) < 9223372036854775808 := by omega
 have hc4 : ((c : Int) - 4).toNat = c - 4 := by omega
 have hc5 : 4 ≤ c := by omega
 have hd := dataN_lt xs hx
 have HE1 : Hid (wordE (wordN xs) ≠ 0 → headE xs = 70) := fun h => by unfold headE; rw [if_pos (Or.inl h)]
 have HE2 : Hid (wordN xs ++ zeros (12 - (wordN xs).length) ≠ fieldN xs → headE xs = 70) := fun h => by unfold headE; rw [if_pos (Or.inr h)]
 have HE3 : Hid (wordE (wordN xs) = 0 → wordN xs ++ zeros (12 - (wordN xs).length) = fieldN xs → headE xs = if 16384 < dataN xs then 2 else 0) := fun h1 h2 => by unfold headE; rw [if_neg (by rintro (h | h); exact h h1; exact h h2)]
 have hwe : wordE (wordN xs) = 0 ∨ wordE (wordN xs) = 70 := by unfold wordE; split <;> simp
 have HPS := Lib.hid hps
 have HGD := Lib.hid hgd
 have HBN := Lib.hid hbn
 generalize dataN xs = d at *
 generalize headE xs = he at *
 generalize hL : wordN xs ++ zeros (12 - (wordN xs).length) = LA at *
 generalize wordE (wordN xs) = we at *
 obtain ⟨u, hu⟩ : ∃ u, u = strN (wordN xs) := ⟨_, rfl⟩
 rw [← hu] at HW HCK HLD
 generalize hFL : fieldN xs = F at *
 obtain ⟨FL, hF2⟩ : ∃ FL, FL = F.map byteV := ⟨_, rfl⟩
 rw [← hF2] at HRG HPS HGD HBN
 have hHP := HP
 clear hP hb h24 hl hx hcap hwl hwx hfl hpart hps hgd hbn hL hu hFL hF2
 go_enter Tryd.func76, Tryd.ntmps76
 go_wp2_with fail
 refine HW.out.mono ?_
 rintro r w1 ⟨rfl, hb1⟩
 have HP1 := Lib.hid (HP.out.keep hb1)
 have HB1 := Lib.hid hb1
 go_upto_region 2 with fail
 rcases hwe with rfl | rfl
 ·refine headGood p b o n c e u _ _ _ _ _ _ _ _ _ _ _ _ _ _ _ _ _ _ _ _ _ _ _ _ (Lib.hid (fun W _ => HCK.out W)) HP1 (idA LA) FL (!decide (LA = F)) (Lib.hid (fun W _ => HLD.out W)) hc1 hc2 hc3 hc4 hc5 hat (Lib.hid (fun W h => HRG.out W (below_step HB1.out HB1.out.size h))) HPS.out HGD.out HBN.out (Lib.hid (fun _ _ _ _ _ _ _ _ _ _ _ _ _ _ w2 hb2 => ?_))
  have hb2' := below_step HB1.out HB1.out.size hb2
  clear hb1
  by_cases hq : LA = F
  ·have hE := HE3.out rfl hq
   have q1 : (!decide (LA = F)) = false := by rw [decide_eq_true hq]; rfl
   rw [q1]
   clear HE1 HE2 HE3 hq q1 HGD HBN HPS hat HRG HP1 HB1 HCK HLD HW
   go_wp2_with fail
   refine (HLN.out w2 hb2').mono ?_
   rintro r w3 ⟨rfl, hb3⟩
   have HB3 := Lib.hid (below_step hb2' hb2'.size hb3)
   clear hb3 hb2 hb2'
   by_cases hdd : 16384 < d
   ·have q2 : decide ((16384 : Int) < (d : Int)) = true := decide_eq_true (by omega)
    rw [if_pos hdd] at hE
    subst hE
    clear hdd
    go_wp2_with fail
    go_ret
    exact ⟨rfl, HB3.out⟩
   ·have q2 : decide ((16384 : Int) < (d : Int)) = false := decide_eq_false (by omega)
    rw [if_neg hdd] at hE
    subst hE
    clear hdd
    go_wp2_with fail
    go_ret
    exact ⟨rfl, HB3.out⟩
  ·have hE := HE2.out hq
   subst hE
   have q1 : (!decide (LA = F)) = true := by rw [decide_eq_false hq]; rfl
   rw [q1]
   clear HE1 HE2 HE3 hq q1 HGD HBN HPS hat HRG HP1 HB1 HCK HLD HW HLN
   go_wp2_with fail
   go_ret
   exact ⟨rfl, hb2'⟩
 ·refine headBad p b o n c e u _ _ _ _ _ _ _ _ _ _ _ _ _ _ _ _ _ _ _ _ _ _ _ _ (Lib.hid (fun W _ => HCK.out W)) (Lib.hid (fun _ _ _ _ _ _ _ _ _ _ _ _ _ _ w2 hb2 => ?_))
  have hb2' := below_step HB1.out HB1.out.size hb2
  have hE := HE1.out (by decide)
  subst hE
  clear HE1 HE2 HE3 HGD HBN HPS hat HRG HP1 HB1 HCK HLD HW HLN hb1 hb2
  go_wp2_with fail
  go_ret
  exact ⟨rfl, hb2'⟩
theorem data_range {w : World} {B b o n c i k : Nat} {xs : List Nat} (h : BsV w B (.slice (some ⟨b, o, none⟩) n c) xs) (hk : i + k ≤ xs.length) (h0 : 0 < k) : w.rangeAt b (o + i) (((xs.drop i).take k).map byteV) := by
 have h5 : ((xs.drop i).take k).length = k := by rw [List.length_take, List.length_drop]; omega
 obtain ⟨s', cap, e', h1, h2, h3, h4⟩ := bsv_part i k h hk
 rw [h5] at e'
 rw [Go.WideShapes.add_plain] at e'
 cases e'
 obtain ⟨b', o', e2, hlt, hc⟩ := h4 (by intro h0; rw [h0] at h5; simp at h5; omega)
 cases e2
 intro j v hv
 have hj : j < k := by have := (List.getElem?_eq_some_iff.1 hv).1; rw [List.length_map] at this; omega
 rw [hc j (by omega)]
 rw [List.getElem?_map] at hv
 rw [← hv]
 have h6 : ((xs.drop i).take k)[j]? = some (nth ((xs.drop i).take k) j) := by unfold nth; rw [List.getD_eq_getElem?_getD, List.getElem?_eq_getElem (by omega)]; rfl
 rw [h6]
 rfl
set_option maxHeartbeats 6000000 in
theorem ffault_any {FT : TypeId} {FR : Array Value} {fo : Nat} [hfd : FdOk FT FR fo] (p n c e : Nat) (s : Option Addr) (xs : List Nat) (w : World) (hL : Laid w) (hP : Bk w p FT (fdA FR fo (.slice s n c) (.int .i64 (e : Int)))) (hb : BsV w w.heap.size (.slice s n c) xs) (hl : xs.length ≤ 100000) :
  Calls Tryd.prog 54 #[.pointer (some ⟨p, fo, none⟩)] w fun r w' => r = .returned (.int .i64 ((faultE xs : Nat) : Int)) ∧ Below w.heap.size w w' := by
 have hx : ∀ x ∈ xs, x < 256 := by
  obtain ⟨s, cap, e, h1, h2, h3, h4⟩ := hb
  exact h3
 have hcap : xs.length ≤ c ∧ c < 9223372036854775808 ∧ n = xs.length := by
  obtain ⟨s, cap, e, h1, h2, h3, h4⟩ := hb
  cases e
  exact ⟨h1, h2, rfl⟩
 have c0 := (fd0 hP)
 have z0 := hP.lt
 have HP := Lib.hid hP
 have HWH : Hid (∀ W, Below w.heap.size w W → Calls Tryd.prog 55 #[.pointer (some ⟨p, fo, none⟩)] W fun r w' => r = .returned (.bool (wholeB xs)) ∧ Below W.heap.size W w') := fun W h =>
  fwhole_any p n c e s xs W (hP.keep h) ((hb.keep h (Nat.le_refl _)).mono h.size) hl
 by_cases h4 : n = 4
 ·have hw : wholeB xs = false := decide_eq_false (by rintro ⟨h1, _⟩; omega)
  rw [hw] at HWH
  have HRD := Lib.hid (read_any xs (.slice s n c) w hb (by omega) hx)
  have HNM : Hid (∀ q v W, Rd W q v xs 0 → Calls Tryd.prog 75 #[.pointer (some ⟨q, 0, none⟩), .int .i64 4] W fun r w' => r = .returned (.int .u64 ((ofL xs : Nat) : Int)) ∧ ∃ v', Took q v (rdNum (xs, 0) 4).2 W w' v') := fun q v W h => by
   have h1 := num_any q 4 v (xs, 0) W h ⟨by simp only; omega, by simp only; omega⟩
   have e1 : (rdNum (xs, 0) 4).1 = ofL xs := by
    unfold rdNum rdTake
    rw [if_pos (by simp only; omega)]
    show ofL ((xs.take 4).take 8) = ofL xs
    rw [List.take_of_length_le (show (xs.take 4).length ≤ 8 by rw [List.length_take]; omega), List.take_of_length_le (by omega)]
   rw [e1] at h1
   exact h1
  have HE1 : Hid (ofL xs ≠ 1413565529 → faultE xs = 80) := fun h => by unfold faultE; rw [if_pos ⟨by omega, h⟩]
  have HE2 : Hid (ofL xs = 1413565529 → faultE xs = 0) := fun h => by
   unfold faultE
   rw [if_neg (by rintro ⟨_, h1⟩; exact h1 h), if_neg (by rintro ⟨h1, _⟩; omega), if_neg (by rw [hw]; rintro ⟨h1, _⟩; cases h1)]
  have q1 : ((n : Int) == 4) = true := by rw [h4]; rfl
  have q2 : ((n : Int) == 24) = false := by rw [h4]; rfl
  generalize faultE xs = fe at *
  generalize ofL xs = m at *
  clear h4 hb hx hl hcap hw hP
  go_enter Tryd.func54, Tryd.ntmps54
  go_wp2_with fail
  refine HRD.out.mono ?_
  rintro r w1 ⟨q, v', rfl, hRd, hb1, hq, _⟩
  have HB1 := Lib.hid hb1
  have HQ := Lib.hid hq
  have HC := Lib.hid (HNM.out q v' w1 hRd)
  clear hRd hb1 hq HRD HNM
  go_wp2_with fail
  refine HC.out.mono ?_
  rintro r w2 ⟨rfl, v2, hT⟩
  have hb2 : Below w.heap.size w w2 := HB1.out.trans (hT.2.1.below (B := w.heap.size) HB1.out.size (fun k hk => by subst hk; exact HQ.out))
  have c0 := (fd0 (HP.out.keep hb2))
  have z0 := (HP.out.keep hb2).lt
  clear HC hT HB1 HQ
  by_cases hm : m = 1413565529
  ·have hE := HE2.out hm
   subst hE
   have q3 : ((m : Int) != 1413565529) = false := by rw [hm]; rfl
   clear HE1 HE2 hm
   go_wp2_with fail
   go_upto_region 7 with fail
   refine faultL p 0 0 n c e w2 _ _ _ _ _ _ _ _ _ _ _ _ _ _ _ _ _ _ _ _ _ _ _ _ _ _ _ _ _ _ _ _ _ _ _ _ _ _ _ _ _ _ _ _ _ _ _ _ (Lib.hid (fun W h => HWH.out W (below_step hb2 hb2.size h))) (Lib.hid (fun _ _ _ _ _ _ _ _ _ _ _ _ _ _ _ _ _ w3 hb3 => ?_))
   have hb4 := below_step hb2 hb2.size hb3
   go_wp2_with fail
   go_ret
   exact ⟨rfl, hb4⟩
  ·have hE := HE1.out hm
   subst hE
   have q3 : ((m : Int) != 1413565529) = true := by rw [bne_iff_ne]; omega
   clear HE1 HE2 hm HWH
   go_wp2_with fail
   go_ret
   exact ⟨rfl, hb2⟩
 have q1 : ((n : Int) == 4) = false := by rw [beq_eq_false_iff_ne]; omega
 by_cases hns : n < 24
 ·have hw : wholeB xs = false := decide_eq_false (by rintro ⟨h1, _⟩; omega)
  rw [hw] at HWH
  have hE : faultE xs = 0 := by
   unfold faultE
   rw [if_neg (by rintro ⟨h1, _⟩; omega), if_neg (by rintro ⟨h1, _⟩; omega), if_neg (by rw [hw]; rintro ⟨h1, _⟩; cases h1)]
  rw [hE]
  have q2 : ((n : Int) == 24) = false := by rw [beq_eq_false_iff_ne]; omega
  clear h4 hb hx hl hcap hw hP hE hns
  go_enter Tryd.func54, Tryd.ntmps54
  go_wp2_with fail
  go_upto_region 7 with fail
  refine faultL p 0 0 n c e _ _ _ _ _ _ _ _ _ _ _ _ _ _ _ _ _ _ _ _ _ _ _ _ _ _ _ _ _ _ _ _ _ _ _ _ _ _ _ _ _ _ _ _ _ _ _ _ _ HWH (Lib.hid (fun _ _ _ _ _ _ _ _ _ _ _ _ _ _ _ _ _ w3 hb3 => ?_))
  go_wp2_with fail
  go_ret
  exact ⟨rfl, hb3⟩
 obtain ⟨b, o, rfl⟩ : ∃ b o, s = some ⟨b, o, none⟩ := by
  obtain ⟨s', cap, e, h1, h2, h3, h5⟩ := hb
  cases e
  obtain ⟨b, o, e1, _⟩ := h5 (by rintro rfl; apply hns; rw [hcap.2.2]; decide)
  exact ⟨b, o, e1⟩
 have HHF := Lib.hid (fheadfault_any p n c e ⟨b, o, none⟩ xs w hP hb (by omega) hl)
 have h20l : ((xs.drop 20).take 4).length = 4 := by rw [List.length_take, List.length_drop]; omega
 have HSU : Hid (∀ W, Below w.heap.size w W → Calls Tryd.prog 65 #[.slice (dropA ⟨b, o, none⟩ c 24) (n - 24) (c - 24)] W fun r w' => r = .returned (.agg (idA (sum4 (xs.drop 24)))) ∧ Below W.heap.size W w') := fun W h =>
  sumof_any (xs.drop 24) _ _ _ W (hL.below h hL.size) (bsv_rest 24 ((hb.keep h (Nat.le_refl _)).mono h.size) (by omega)) (by rw [List.length_drop]; omega)
 have HRG : Hid (∀ W, Below w.heap.size w W → W.rangeAt b (o + 20) (((xs.drop 20).take 4).map byteV)) := fun W h => data_range (hb.keep h (Nat.le_refl _)) (by omega) (by omega)
 have HPS : Hid ((Tryd.prog.info? 135).map (·.size) = some (((xs.drop 20).take 4).map byteV).length) := by
  show _ = _
  rw [List.length_map, h20l]; exact a4_info
 have hat : ∀ w, (Instr.arrayAt 135 (.slice (some ⟨b, o + 20, none⟩) 4 (c - 20))).run Tryd.prog w = .ok (.pointer (some ⟨b, o + 20, none⟩)) w := fun w => run_arrayAt (P := Tryd.prog) (w := w) 135 5 4 (some ⟨b, o + 20, none⟩) 4 (c - 20) Tryd.underlying135 (by omega)
 have HGD : Hid (∀ (a b : Operand) W, (eqGuard .neq 135 a b (.agg (((xs.drop 20).take 4).map byteV).toArray) (.agg (idA (sum4 (xs.drop 24))))).run Tryd.prog W = .ok () W) := fun a b W => a4_guard _ _ .neq a b W
 have HBN : Hid (∀ W, (binOp .neq 135 (.agg (((xs.drop 20).take 4).map byteV).toArray) (.agg (idA (sum4 (xs.drop 24))))).run Tryd.prog W = .ok (.bool (!decide ((xs.drop 20).take 4 = sum4 (xs.drop 24)))) W) := fun W => a4_neq _ _ h20l (sum4_length _) W
 have hsl := slice_rest b o n c 24 (by omega) (by omega) (by omega)
 have hc1 : (24 : Int) ≤ (c : Int) := by omega
 have hc2 : ¬ c = 20 := by omega
 have hc3 : (c : Int) < 9223372036854775808 := by omega
 have hc4 : ((c : Int) - 20).toNat = c - 20 := by omega
 have hc5 : 24 ≤ n := by omega
 have HEH : Hid (n = 24 → headE xs ≠ 0 → faultE xs = headE xs) := fun h h1 => by
  unfold faultE
  rw [if_neg (by rintro ⟨h1, _⟩; omega), if_pos ⟨by omega, h1⟩]
 have HE0 : Hid ((n = 24 → headE xs = 0) → wholeB xs = false → faultE xs = 0) := fun h h1 => by
  unfold faultE
  rw [if_neg (by rintro ⟨h1, _⟩; omega), if_neg (by rintro ⟨h2, h3⟩; exact h3 (h (by omega))), if_neg (by rw [h1]; rintro ⟨h1, _⟩; cases h1)]
 have HE1 : Hid ((n = 24 → headE xs = 0) → wholeB xs = true → faultE xs = if (xs.drop 20).take 4 = sum4 (xs.drop 24) then 0 else 81) := fun h h1 => by
  unfold faultE
  rw [if_neg (by rintro ⟨h1, _⟩; omega), if_neg (by rintro ⟨h2, h3⟩; exact h3 (h (by omega)))]
  by_cases hs : (xs.drop 20).take 4 = sum4 (xs.drop 24)
  ·rw [if_pos hs, if_neg (by rintro ⟨_, h2⟩; exact h2 hs)]
  ·rw [if_neg hs, if_pos ⟨h1, hs⟩]
 have HN := Lib.hid hcap.2.2
 generalize hF : faultE xs = fe at *
 generalize hH : headE xs = he at *
 generalize hS : sum4 (xs.drop 24) = SA at *
 generalize hT : (xs.drop 20).take 4 = F at *
 obtain ⟨FL, hF2⟩ : ∃ FL, FL = F.map byteV := ⟨_, rfl⟩
 rw [← hF2] at HRG HPS HGD HBN
 obtain ⟨wb, hwb⟩ : ∃ wb, wb = wholeB xs := ⟨_, rfl⟩
 rw [← hwb] at HWH HE0 HE1
 obtain ⟨s24, hs24⟩ : ∃ s24, s24 = dropA ⟨b, o, none⟩ c 24 := ⟨_, rfl⟩
 rw [← hs24] at hsl HSU
 have hsl' : ∀ w, (Instr.slice 32 (.slice (some ⟨b, o, none⟩) n c) (some (.int .i64 24)) none none).run Tryd.prog w = .ok (.slice s24 (n - 24) (c - 24)) w := hsl
 have HSL := Lib.hid hsl'
 have HAT := Lib.hid hat
 clear h4 hb hl hcap hP h20l hx hsl hsl' hat hF hH hS hT hF2 hwb hs24 hL hns
 have TAIL : Hid (∀ (W : World) (hW : Below w.heap.size w W) (K : Act → World → Prop), True) := fun _ _ _ => trivial
 go_enter Tryd.func54, Tryd.ntmps54
 by_cases h24 : n = 24
 ·have q2 : ((n : Int) == 24) = true := by rw [h24]; rfl
  have H24 := Lib.hid h24
  clear h24
  go_wp2_with fail
  refine HHF.out.mono ?_
  rintro r w1 ⟨rfl, hb1⟩
  have HB1 := Lib.hid hb1
  have HP1 := Lib.hid (HP.out.keep hb1)
  clear hb1 HHF
  by_cases hh : he = 0
  ·have q3 : ((he : Int) != 0) = false := by rw [hh]; rfl
   have e0 := HE0.out (fun _ => hh)
   have e1 := HE1.out (fun _ => hh)
   have E0 := Lib.hid e0
   have E1 := Lib.hid e1
   clear HE0 HE1 HEH hh e0 e1
   go_wp2_with fail
   go_upto_region 7 with fail
   cases wb
   ·have hE := E0.out rfl
    subst hE
    refine faultL p 0 0 n c e w1 _ _ _ _ _ _ _ _ _ _ _ _ _ _ _ _ _ _ _ _ _ _ _ _ _ _ _ _ _ _ _ _ _ _ _ _ _ _ _ _ _ _ _ _ _ _ _ _ (Lib.hid (fun W h => HWH.out W (below_step HB1.out HB1.out.size h))) (Lib.hid (fun _ _ _ _ _ _ _ _ _ _ _ _ _ _ _ _ _ w3 hb3 => ?_))
    have hb4 := below_step HB1.out HB1.out.size hb3
    clear E0 E1
    go_wp2_with fail
    go_ret
    exact ⟨rfl, hb4⟩
   ·have hE := E1.out rfl
    refine faultG p b o n c e w1 _ _ _ _ _ _ _ _ _ _ _ _ _ _ _ _ _ _ _ _ _ _ _ _ _ _ _ _ _ _ _ _ _ _ _ _ _ _ _ _ _ _ _ _ _ _ _ _ (Lib.hid (fun W h => HWH.out W (below_step HB1.out HB1.out.size h))) HP1 (idA SA) FL s24 (!decide (F = SA)) (Lib.hid (fun W h => HSU.out W (below_step HB1.out HB1.out.size h))) hc1 hc2 hc3 hc4 hc5 HSL.out HAT.out (Lib.hid (fun W h => HRG.out W (below_step HB1.out HB1.out.size h))) HPS.out HGD.out HBN.out (Lib.hid (fun _ _ _ _ _ _ _ _ _ _ _ _ _ _ _ _ _ w3 hb3 => ?_))
    have hb4 := below_step HB1.out HB1.out.size hb3
    clear E0 E1 HGD HBN HRG HPS HSU HWH HSL HAT
    by_cases hs : F = SA
    ·rw [if_pos hs] at hE
     subst hE
     have q4 : (!decide (F = SA)) = false := by rw [decide_eq_true hs]; rfl
     rw [q4]
     clear hs q4
     go_wp2_with fail
     go_ret
     exact ⟨rfl, hb4⟩
    ·rw [if_neg hs] at hE
     subst hE
     have q4 : (!decide (F = SA)) = true := by rw [decide_eq_false hs]; rfl
     rw [q4]
     clear hs q4
     go_wp2_with fail
     go_ret
     exact ⟨rfl, hb4⟩
  ·have hE := HEH.out H24.out hh
   subst hE
   have q3 : ((fe : Int) != 0) = true := by rw [bne_iff_ne]; omega
   have hb4 := HB1.out
   clear HE0 HE1 HEH hh HGD HBN HRG HPS HSU HWH HSL HAT
   go_wp2_with fail
   go_ret
   exact ⟨rfl, hb4⟩
 ·have q2 : ((n : Int) == 24) = false := by rw [beq_eq_false_iff_ne]; omega
  have E0 := Lib.hid (HE0.out (fun h => absurd h h24))
  have E1 := Lib.hid (HE1.out (fun h => absurd h h24))
  clear HE0 HE1 HEH h24 HHF
  go_wp2_with fail
  go_upto_region 7 with fail
  cases wb
  ·have hE := E0.out rfl
   subst hE
   refine faultL p 0 0 n c e w _ _ _ _ _ _ _ _ _ _ _ _ _ _ _ _ _ _ _ _ _ _ _ _ _ _ _ _ _ _ _ _ _ _ _ _ _ _ _ _ _ _ _ _ _ _ _ _ HWH (Lib.hid (fun _ _ _ _ _ _ _ _ _ _ _ _ _ _ _ _ _ w3 hb3 => ?_))
   clear E0 E1
   go_wp2_with fail
   go_ret
   exact ⟨rfl, hb3⟩
  ·have hE := E1.out rfl
   refine faultG p b o n c e w _ _ _ _ _ _ _ _ _ _ _ _ _ _ _ _ _ _ _ _ _ _ _ _ _ _ _ _ _ _ _ _ _ _ _ _ _ _ _ _ _ _ _ _ _ _ _ _ HWH HP (idA SA) FL s24 (!decide (F = SA)) HSU hc1 hc2 hc3 hc4 hc5 HSL.out HAT.out HRG HPS.out HGD.out HBN.out (Lib.hid (fun _ _ _ _ _ _ _ _ _ _ _ _ _ _ _ _ _ w3 hb3 => ?_))
   clear E0 E1 HGD HBN HRG HPS HSU HWH HSL HAT
   by_cases hs : F = SA
   ·rw [if_pos hs] at hE
    subst hE
    have q4 : (!decide (F = SA)) = false := by rw [decide_eq_true hs]; rfl
    rw [q4]
    clear hs q4
    go_wp2_with fail
    go_ret
    exact ⟨rfl, hb3⟩
   ·rw [if_neg hs] at hE
    subst hE
    have q4 : (!decide (F = SA)) = true := by rw [decide_eq_false hs]; rfl
    rw [q4]
    clear hs q4
    go_wp2_with fail
    go_ret
    exact ⟨rfl, hb3⟩
end Go.Proofs.YtkpffjcdalclmaaDoor
