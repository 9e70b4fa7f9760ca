/-
  The contract of the tree's Median.
-/
import Derived.Test.YtljfhabhenaapaaDoorMid
namespace Go.Proofs.YtljfhabhenaapaaDoor
open Go.RowKit
set_option linter.unusedVariables false
set_option linter.unusedSimpArgs false
set_option maxRecDepth 100000
/-- How far the times are gathered. -/
structure MedI (L : List Nd) (j : Nat) (i : Int) (l : List Nat) : Prop where
  st : (i = -1 ∧ timesN L 11 j = l) ∨ ∃ x : Nat, i = (x : Int) ∧ x < L.length ∧ timesN L 11 j = l ++ timesN L (11 - l.length) x
theorem MedI.next {L : List Nd} (T : TreeOk L) {j x : Nat} {l : List Nat} (h : MedI L j (x : Int) l) (hl : l.length < 11) : MedI L j (ndA L x).pr (l ++ [(ndA L x).h.t]) := by
  rcases h.st with ⟨e, _⟩ | ⟨y, e, hy, ht⟩
  · omega
  · obtain rfl : x = y := by omega
    obtain ⟨m, hm⟩ : ∃ m, 11 - l.length = m + 1 := ⟨10 - l.length, by omega⟩
    rw [hm] at ht
    have ht2 : timesN L (m + 1) x = (ndA L x).h.t :: (if (ndA L x).pr < 0 then [] else timesN L m (parN L x)) := rfl
    rw [ht2] at ht
    clear ht2
    have hlen : 11 - (l ++ [(ndA L x).h.t]).length = m := by rw [List.length_append]; show 11 - (l.length + 1) = m; omega
    constructor
    rcases Nat.eq_zero_or_pos x with h0 | h0
    · subst h0
      left
      rw [T.g.1] at ht ⊢
      refine ⟨rfl, ?_⟩
      rw [ht]
      rfl
    · right
      have hp := T.par_lt h0 hy
      refine ⟨parN L x, hp.2.2.1, Nat.lt_trans hp.1 hy, ?_⟩
      rw [hlen]
      have : ¬ ((ndA L x).pr < 0) := by rw [hp.2.2.1]; omega
      rw [if_neg this] at ht
      rw [ht, List.append_assoc]
      rfl
theorem MedI.full {L : List Nd} {j : Nat} {i : Int} {l : List Nat} (h : MedI L j i l) (hl : 11 ≤ l.length) : timesN L 11 j = l := by
  rcases h.st with ⟨_, e⟩ | ⟨x, _, _, e⟩
  · exact e
  · rw [show 11 - l.length = 0 by omega] at e
    rw [e]
    unfold timesN
    rw [List.append_nil]
set_option maxHeartbeats 16000000 in
theorem med_any {w : World} {p lo : Nat} {F : Nat → Prop} {r : Ru} {L : List Nd} (h : Tre w p lo F r L) (j : Nat) (hj : j < L.length) :
    Calls Tryd.prog 24 #[pv p, .int .i64 (j : Int)] w fun e w' => e = .returned (.int .u32 ((medN L j : Nat) : Int)) ∧ Below w.heap.size w w' := by
  have HH := Lib.hid (fun (W : World) (hb : Below w.heap.size w W) (i : Int) => has_any (h.keep hb) i)
  have HT := Lib.hid h
  have HST : Hid (MedI L j (j : Int) []) := ⟨.inr ⟨j, rfl, hj, rfl⟩⟩
  have HM : Hid (∀ (l : List Nat) (v : Value) (W : World), RowV u32R W W.heap.size v l → timesN L 11 j = l → Calls Tryd.prog 42 #[v] W fun e w' => e = .returned (.int .u32 ((medN L j : Nat) : Int)) ∧ Below W.heap.size W w') := fun l v W hu e => by
    have := mid_any l v W hu (by rw [← e]; exact timesN_ne L 10 j) (by rw [← e]; exact Nat.le_trans (timesN_le L 11 j) (by decide))
    unfold medN
    rw [e]
    exact this
  unfold pv at HH ⊢
  generalize medN L j = R at *
  clear h hj
  go_enter Tryd.func24, Tryd.ntmps24
  go_wp2_with fail
  go_loopw [1, 5] (fun iv va wr => ∃ (i : Int) (s : Option Addr) (k c : Nat) (l : List Nat), iv = .int .i64 i ∧ va = .slice s k c ∧ k ≤ 11 ∧ Hid (l.length = k) ∧ Hid (MineR u32R wr w.heap.size (.slice s k c) l) ∧ Hid (MedI L j i l) ∧ Hid (Below w.heap.size w wr)) (fun iv va _ => match va with | .slice _ n _ => 12 - n | _ => 0)
  case atStart => exact ⟨_, none, 0, 0, [], rfl, rfl, Nat.zero_le _, rfl, .inl ⟨rfl, rfl⟩, HST.out, Below.refl _ _⟩
  case round =>
    obtain ⟨i, s, k, c, l, rfl, rfl, hk, HL, HR, HI, HB⟩ := hrel
    clear HST
    by_cases hi : hasB L i = true
    · have HC := Lib.hid (HH.out wr HB.out i)
      rw [hi] at HC
      have hi2 := of_decide_eq_true hi
      obtain ⟨x, rfl⟩ : ∃ x : Nat, i = (x : Int) := ⟨i.toNat, by omega⟩
      have hx : x < L.length := by omega
      by_cases hk11 : k < 11
      · have d1 : decide ((k : Int) < 11) = true := decide_eq_true (by omega)
        have d2 : decide (k < 11) = true := decide_eq_true hk11
        obtain ⟨b, cc, kk⟩ := (HT.out.keep HB.out).look
        have zp := kk.p1
        have zb := kk.b1
        have c74 := kk.c1
        have hT := kk.ok
        have hat := kk.at_ x hx
        have ct := hat.t
        have cp := hat.pr
        have hw0 : w.heap.size ≤ wr.heap.size := HB.out.size
        have hbA : Below wr.heap.size wr (wr.alloc (.cells #[.int .u32 ((ndA L x).h.t : Int)] 28)) := (Below.refl _ _).alloc (Nat.le_refl _) _
        have HNX := Lib.hid (HI.out.next hT (by rw [HL.out]; exact hk11))
        have hxx := hx
        obtain ⟨n, hn⟩ : ∃ n, n = L.length := ⟨_, rfl⟩
        rw [← hn] at c74 hx
        obtain ⟨t, ht⟩ : ∃ t, t = (ndA L x).h.t := ⟨_, rfl⟩
        rw [← ht] at ct hbA HNX
        obtain ⟨pr, hpr⟩ : ∃ q, q = (ndA L x).pr := ⟨_, rfl⟩
        rw [← hpr] at cp HNX
        obtain ⟨w5, hw5⟩ : ∃ w5, w5 = wr.alloc (.cells #[.int .u32 (t : Int)] 28) := ⟨_, rfl⟩
        rw [← hw5] at hbA
        have hm5 := Lib.hid (HR.out.keep hbA)
        have hu5 : Hid (RowV u32R w5 w5.heap.size (.slice (some ⟨wr.heap.size, 0, none⟩) 1 1) [t]) := row_built (R := u32R) (L := [t]) (n := 1) u32R_ok (by rw [hw5]; exact Bk.new _ _ _) rfl (by decide)
        have hlo5 : w.heap.size ≤ w5.heap.size := Nat.le_trans hw0 hbA.size
        have HLT : Hid (l.length + [t].length ≤ 1500000) := by show _ ≤ _; rw [HL.out]; simp; omega
        have hx0 : (0 : Int) ≤ (x : Int) := by omega
        have HB5 : Hid (Below w.heap.size w w5) := HB.out.trans (hbA.mono hw0)
        have H9 : Hid (∀ v W, MineR u32R W w.heap.size v (l ++ [t]) → But (slb (.slice s k c)) w5 W → ∃ s' c', v = .slice s' (k + 1) c' ∧ MineR u32R W w.heap.size (.slice s' (k + 1) c') (l ++ [t]) ∧ Below w.heap.size w W) := by
          show ∀ _, _
          intro v W h1 h2
          obtain ⟨s', c', e⟩ := h1.slice
          have e2 : (l ++ [t]).length = k + 1 := by rw [List.length_append, HL.out]; rfl
          rw [e2] at e
          subst e
          exact ⟨s', c', rfl, h1, HB5.out.trans (h2.below hlo5 (fun z hz => (HR.out.slb_lo hz).1))⟩
        have HBK : Hid (∀ W, Below w.heap.size w W → W.cell? ⟨p, 74, none⟩ = some (.slice (some ⟨b, 0, none⟩) n cc) ∧ p < W.heap.size ∧ b < W.heap.size ∧ W.cell? ⟨b, x * 108 + 100, none⟩ = some (.int .i64 pr)) := by
          show ∀ _, _
          intro W hW
          obtain ⟨b2, c2, kk2⟩ := (HT.out.keep hW).look
          obtain ⟨b0, c0, kk0⟩ := HT.out.look
          have e1 := (hW.cell (p := ⟨p, 74, none⟩) kk0.p1).symm.trans kk2.c1
          have e2 := (HB.out.cell (p := ⟨p, 74, none⟩) kk0.p1).symm.trans kk.c1
          have e3 := e1.symm.trans e2
          injection e3 with e3; injection e3 with e3 e4 e5; injection e3 with e3; injection e3 with e3
          subst e3
          subst e5
          refine ⟨by rw [hn]; exact kk2.c1, kk2.p1, kk2.b1, ?_⟩
          rw [hpr]
          exact (kk2.at_ x hxx).pr
        clear kk hat hT hi2 hi hn ht hpr hbA HI
        go_wp2_with fail
        refine HC.out.mono ?_
        rintro e w1 ⟨rfl, rfl⟩
        go_upto_region 3 with fail
        go_wp2_with (first | (at_builtin; refine wpList_appX (v1 := .slice s k c) (v2 := .slice (some ⟨w1.heap.size, 0, none⟩) 1 1) u32R_ok l [t] w.heap.size rfl (.tmp 14) (.tmp 24) rfl rfl rfl rfl (by rw [← hw5]; exact hm5.out) (by rw [← hw5]; exact hlo5) (by rw [← hw5]; exact hu5.out) HLT.out ?_) | fail)
        intro v9 W9 hM9 hB9 _
        rw [← hw5] at hB9
        obtain ⟨s', c', rfl, hM, hBB⟩ := H9.out v9 W9 hM9 hB9
        obtain ⟨c74', zp', zb', cp'⟩ := HBK.out W9 hBB
        have HM9 := Lib.hid hM
        have HB9 := Lib.hid hBB
        have HL9 : Hid ((l ++ [t]).length = k + 1) := by show _ = _; rw [List.length_append, HL.out]; rfl
        clear hM hBB hM9 hB9 c74 zp zb cp ct
        go_wp2_with fail
        go_roundw
        case rel => exact ⟨pr, s', k + 1, c', l ++ [t], rfl, rfl, by omega, HL9, HM9, HNX, HB9⟩
        case measure => simp; omega
      · have d1 : decide ((k : Int) < 11) = false := decide_eq_false (by omega)
        have d2 : decide (k < 11) = false := decide_eq_false hk11
        have HF := Lib.hid (HI.out.full (by rw [HL.out]; omega))
        have HRR := Lib.hid (HR.out.rows u32R_ok)
        clear hi2 hi hk11
        go_wp2_with fail
        refine HC.out.mono ?_
        rintro e w1 ⟨rfl, rfl⟩
        go_wp2_with fail
        refine (HM.out l _ w1 HRR.out HF.out).mono ?_
        rintro e w2 ⟨rfl, hb2⟩
        have HE := Lib.hid (HB.out.trans (hb2.mono HB.out.size))
        clear hb2
        go_wp2_with fail
        go_ret
        exact ⟨rfl, HE.out⟩
    · have hi' : hasB L i = false := by cases e : hasB L i with
        | true => exact absurd e hi
        | false => rfl
      have HC := Lib.hid (HH.out wr HB.out i)
      rw [hi'] at HC
      have HF : Hid (timesN L 11 j = l) := by
        rcases HI.out.st with ⟨_, e⟩ | ⟨x, e, hx, _⟩
        · exact e
        · exact absurd (decide_eq_true (by omega)) hi
      have HRR := Lib.hid (HR.out.rows u32R_ok)
      clear hi hi'
      go_wp2_with fail
      refine HC.out.mono ?_
      rintro e w1 ⟨rfl, rfl⟩
      go_wp2_with fail
      refine (HM.out l _ w1 HRR.out HF.out).mono ?_
      rintro e w2 ⟨rfl, hb2⟩
      have HE := Lib.hid (HB.out.trans (hb2.mono HB.out.size))
      clear hb2
      go_wp2_with fail
      go_ret
      exact ⟨rfl, HE.out⟩
end Go.Proofs.YtljfhabhenaapaaDoor
