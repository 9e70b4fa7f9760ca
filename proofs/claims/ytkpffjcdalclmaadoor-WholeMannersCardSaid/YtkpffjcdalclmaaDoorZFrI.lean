/- The contract of package frame's Encode, whole. -/
import Derived.Test.YtkpffjcdalclmaaDoorZFrH
import Derived.Test.YtkpffjcdalclmaaDoorZReaZ
namespace Go.Proofs.YtkpffjcdalclmaaDoor
open Go.RowKit
set_option linter.unusedVariables false
set_option linter.unusedSimpArgs false
set_option maxRecDepth 100000
def encE (wd da : List Nat) : Nat := if wordE wd ≠ 0 then 70 else if 16384 < da.length then 2 else 0
theorem wordE_01 (wd : List Nat) : wordE wd = 0 ∨ wordE wd = 70 := by unfold wordE; split <;> simp
theorem wordE_zero {wd : List Nat} (h : wordE wd = 0) : WordOk wd := by
  apply Classical.byContradiction
  intro hc
  rw [wordE_bad hc] at h
  cases h
theorem encE_of {wd da : List Nat} (h : WordOk wd) (hl : da.length ≤ 16384) : encE wd da = 0 := by
  unfold encE
  rw [if_neg (by rw [wordE_ok h]; simp), if_neg (by omega)]
theorem partsN_two {w : World} {g : Nat} {S : Nat → Prop} {xs ys : List Nat} {t : TypeId} {u v : Value} (hu : BsN w S u xs) (hv : BsN w S v ys) (hh : Bk w g t #[u, v]) (hS : ¬ S g) : PartsN w S (some ⟨g, 0, none⟩) [xs, ys] := by
  intro _
  refine ⟨g, 0, rfl, hh.lt, hS, fun k zs hk => ?_⟩
  match k, hk with
  | 0, hk =>
    obtain rfl : xs = zs := by simpa using hk
    exact ⟨u, (hh.cell 0), hu⟩
  | 1, hk =>
    obtain rfl : ys = zs := by simpa using hk
    exact ⟨v, (hh.cell 1), hv⟩
  | k + 2, hk => simp at hk
def EncPost (w w' : World) (wd da : List Nat) (r : Ending) : Prop :=
  ∃ v', r = .returned (.tuple #[v', .int .i64 ((encE wd da : Nat) : Int)]) ∧ Below w.heap.size w w' ∧ (encE wd da = 0 → Mine w' w.heap.size v' (encL wd da)) ∧ (encE wd da ≠ 0 → v' = .slice none 0 0)
set_option maxHeartbeats 8000000 in
theorem fencode_any (wd da : List Nat) (s : Option Addr) (n c : Nat) (w : World) (hL : Laid w) (hx : ∀ x ∈ wd, x < 256) (hb : BsV w w.heap.size (.slice s n c) da) (hl : da.length ≤ 100000) :
    Calls Tryd.prog 43 #[.agg #[.string (strN wd), .slice s n c]] w fun r w' => EncPost w w' wd da r := by
  have hn : n = da.length := by
    obtain ⟨s, cap, e, h1, h2, h3, h4⟩ := hb
    cases e
    rfl
  have hdx : ∀ x ∈ da, x < 256 := by
    obtain ⟨s, cap, e, h1, h2, h3, h4⟩ := hb
    exact h3
  have HCK : Hid (∀ W, Calls Tryd.prog 62 #[.string (strN wd)] W fun r w' => r = .returned (.int .i64 ((wordE wd : Nat) : Int)) ∧ Below W.heap.size W w') := fun W => fcheck_any wd W hx
  have HB := Lib.hid hb
  have HL := Lib.hid hL
  have HX := Lib.hid hx
  have HDX := Lib.hid hdx
  have HN := Lib.hid hn
  have HLN := Lib.hid hl
  have HSU : Hid (∀ W, Below w.heap.size w W → Calls Tryd.prog 65 #[.slice s n c] W fun r w' => r = .returned (.agg (idA (sum4 da))) ∧ Below W.heap.size W w') := fun W h => sumof_any da s n c W (hL.below h hL.size) ((hb.keep h (Nat.le_refl _)).mono h.size) (by omega)
  have HLD : Hid (WordOk wd → ∀ W, Calls Tryd.prog 64 #[.string (strN wd)] W fun r w' => r = .returned (.agg (idA (wd ++ zeros (12 - wd.length)))) ∧ Below W.heap.size W w') := fun h W => laid_any wd W h.2.1 hx
  obtain ⟨u, hu⟩ : ∃ u, u = strN wd := ⟨_, rfl⟩
  rw [← hu] at HCK HLD ⊢
  obtain ⟨we, hwe⟩ : ∃ we, we = wordE wd := ⟨_, rfl⟩
  rw [← hwe] at HCK
  have HWE := Lib.hid hwe
  clear hu hwe hb hx hdx hL hn hl
  go_enter Tryd.func43, Tryd.ntmps43
  go_upto_region 1 with fail
  refine wp_any (fun W => Below w.heap.size w W ∧ Bk W w.heap.size 93 #[.string u, .slice s n c]) ⟨(Below.refl _ _).alloc (Nat.le_refl _) _, Bk.new _ _ _⟩ ?_
  obtain ⟨g1, hg1⟩ : ∃ g1, g1 = w.heap.size := ⟨_, rfl⟩
  have HG := Lib.hid hg1
  rw [← hg1]
  clear hg1
  rintro W ⟨hW, K1⟩
  have HW : Hid (Below w.heap.size w W) := by rw [← HG.out]; exact hW
  have c0 := K1.cell 0
  have c1 := K1.cell 1
  have z1 := K1.lt
  clear hW
  go_wp2_with fail
  refine (HCK.out W).mono ?_
  rintro r w1 ⟨rfl, hb1⟩
  have K1 := K1.keep hb1
  have HW1 := Lib.hid (below_step HW.out HW.out.size hb1)
  have c0 := K1.cell 0
  have c1 := K1.cell 1
  have z1 := K1.lt
  clear hb1 HW HCK
  by_cases h0 : we ≠ 0
  · have q1 : ((we : Int) != 0) = true := by rw [bne_iff_ne]; omega
    have e0 : encE wd da = 70 := by unfold encE; rw [if_pos (by rw [← HWE.out]; exact h0)]
    have e1 : we = 70 := by
      rcases wordE_01 wd with h | h
      · exact absurd (HWE.out.trans h) h0
      · exact HWE.out.trans h
    have E0 := Lib.hid e0
    have E1 := Lib.hid e1
    clear h0 e0 e1
    go_wp2_with fail
    go_ret2
    exact ⟨.slice none 0 0, by rw [E0.out, E1.out]; rfl, HW1.out, fun h => absurd h (by rw [E0.out]; decide), fun _ => rfl⟩
  have h0 : we = 0 := by omega
  have q1 : ((we : Int) != 0) = false := by rw [h0]; rfl
  have HOK := Lib.hid (wordE_zero (HWE.out.symm.trans h0))
  clear h0
  by_cases hbig : 16384 < n
  · have q2 : decide ((16384 : Int) < (n : Int)) = true := decide_eq_true (by omega)
    have E0 : Hid (encE wd da = 2) := by
      show _ = _
      unfold encE
      rw [if_neg (by rw [wordE_ok HOK.out]; simp), if_pos (by have := HN.out; omega)]
    clear hbig
    go_wp2_with fail
    go_ret2
    exact ⟨.slice none 0 0, by rw [E0.out]; rfl, HW1.out, fun h => absurd h (by rw [E0.out]; decide), fun _ => rfl⟩
  have q2 : decide ((16384 : Int) < (n : Int)) = false := decide_eq_false (by omega)
  have H16 := Lib.hid (show n ≤ 16384 by omega)
  have hnw : IntKind.u64.wrap (n : Int) = (n : Int) := by
    simp [IntKind.wrap, IntKind.signed, IntKind.bits]
    have := H16.out
    omega
  have HNW := Lib.hid hnw
  clear hbig hnw
  go_upto_region 7 with fail
  have hA : Below w1.heap.size w1 (w1.alloc (.cells #[.slice none 0 0] 104)) := (Below.refl _ _).alloc (Nat.le_refl _) _
  refine wp_any (fun W => Below w.heap.size w W ∧ Bk W g1 93 #[.string u, .slice s n c] ∧ Bk W w1.heap.size 104 #[.slice none 0 0]) ⟨below_step HW1.out HW1.out.size hA, K1.keep hA, Bk.new _ _ _⟩ ?_
  obtain ⟨gw, hgw⟩ : ∃ gw, gw = w1.heap.size := ⟨_, rfl⟩
  have HGW : Hid (w.heap.size ≤ gw) := by show _ ≤ _; rw [hgw]; exact HW1.out.size
  rw [← hgw]
  clear hA hgw K1 c0 c1 z1
  rintro W ⟨hW, K1, KW⟩
  have HW := Lib.hid hW
  have cw := KW.cell 0
  have zw := KW.lt
  clear hW HW1
  have hA : Below W.heap.size W (W.alloc (.cells #[.int .u64 1413565529] 22)) := (Below.refl _ _).alloc (Nat.le_refl _) _
  have HPU := Lib.hid (put_any gw w.heap.size W.heap.size 4 1413565529 [] (.slice none 0 0) (W.alloc (.cells #[.int .u64 1413565529] 22)) (KW.keep hA) (.inl ⟨rfl, rfl⟩) (Nat.le_trans HW.out.size hA.size) (Bk.new W 22 #[.int .u64 1413565529]) (by decide))
  go_wp2_with fail
  refine HPU.out.mono ?_
  intro r w2 hw2
  have hbel := hw2.below (.inl ⟨rfl, rfl⟩) (Nat.le_refl _) HGW.out (Nat.le_trans HW.out.size hA.size)
  have HW2 := Lib.hid ((below_step HW.out HW.out.size hA).trans hbel)
  obtain ⟨rfl, v2, KW2, M2, B2, O2⟩ := hw2
  have M2 : Mine w2 w.heap.size v2 magL := M2
  have K1 := B2.keep (K1.keep hA) (fun hc => by
    rcases hc with hc | hc
    · subst hc; exact absurd (K1.type_eq KW) (by decide)
    · exact slb_none _ _ _ hc)
  have KW2 := KW2
  have MM2 := Lib.hid M2
  clear HPU hbel B2 O2 M2 KW hA cw zw HW
  go_upto_region 8 with fail
  refine encR8 g1 n c s u (idA (wd ++ zeros (12 - wd.length))) (idA (sum4 da)) w2 _ _ _ _ _ _ _ _ _ _ _ _ _ _ _ _ _ _ _ _ _ _ _ _ _ _ _ _ _ _ _ _ _ _ _ _ _ _ _ _ _ (Lib.hid K1) (Lib.hid ⟨by rw [idA_size, List.length_append, zeros_length]; have := HOK.out.2.1; omega, id_ones _⟩) (Lib.hid ⟨by rw [idA_size]; exact sum4_length da, id_ones _⟩) (Lib.hid (fun W hW => HLD.out HOK.out W)) (Lib.hid (fun W hW => HSU.out W (below_step HW2.out HW2.out.size hW))) (Lib.hid (fun _ _ _ _ _ _ g6 g7 w3 hb3 z6 z7 K6 K7 => ?_))
  have HW3 := Lib.hid (below_step HW2.out HW2.out.size hb3)
  have K1 := K1.keep hb3
  have KW3 := KW2.keep hb3
  have MM3 := Lib.hid (MM2.out.keep hb3)
  have HG6 := Lib.hid z6
  have HG7 := Lib.hid z7
  have z6' := K6.lt
  have zw := KW3.lt
  clear hb3 z6 z7 KW2 MM2 HW2 HLD HSU
  have hA : Below w3.heap.size w3 (w3.alloc (.cells #[.slice (some ⟨g6, 0, none⟩) 12 12] 32)) := (Below.refl _ _).alloc (Nat.le_refl _) _
  have hS6 : ¬ (g6 = gw ∨ slb v2 g6) := fun hc => by
    rcases hc with hc | hc
    · subst hc; exact absurd (K6.type_eq KW3) (by decide)
    · exact MM3.out.apart K6 (by decide) hc
  have hSn : ¬ (w3.heap.size = gw ∨ slb v2 w3.heap.size) := fun hc => by
    rcases hc with hc | hc
    · omega
    · have := (MM3.out.slb_lo hc).2.1; omega
  have hfl : (wd ++ zeros (12 - wd.length)).length = 12 := by rw [List.length_append, zeros_length]; have := HOK.out.2.1; omega
  have HRW := Lib.hid (raw_any gw w.heap.size (some ⟨w3.heap.size, 0, none⟩) 1 [wd ++ zeros (12 - wd.length)] magL v2 (w3.alloc (.cells #[.slice (some ⟨g6, 0, none⟩) 12 12] 32)) (KW3.keep hA) (MM3.out.keep hA) (Nat.le_trans HW3.out.size hA.size) (by
      rw [magL_len, List.flatten_cons, List.flatten_nil, List.append_nil, hfl]; decide) (by simp)
    (partsN_one (bsn_row (K6.keep hA) hS6 hfl.symm (by omega) (by omega) (fun x hx => by
      rcases List.mem_append.1 hx with h | h
      · exact HX.out x h
      · exact zeros_lt _ x h)) (Bk.new w3 32 #[.slice (some ⟨g6, 0, none⟩) 12 12]) hSn))
  go_wp2_with fail
  refine HRW.out.mono ?_
  intro r w4 hw4
  have hbel := hw4.below (MM3.out.keep hA) (Nat.le_refl _) HGW.out (Nat.le_trans HW3.out.size hA.size)
  have HW4 := Lib.hid ((below_step HW3.out HW3.out.size hA).trans hbel)
  have hbut := hw4.but
  obtain ⟨rfl, v4, KW4, M4, B4, O4⟩ := hw4
  have K1 := B4.keep (K1.keep hA) (fun hc => by
    rcases hc with hc | hc
    · subst hc; exact absurd (K1.type_eq KW3) (by decide)
    · exact MM3.out.apart K1 (by decide) hc)
  have K7 := B4.keep (K7.keep hA) (fun hc => by
    rcases hc with hc | hc
    · subst hc; exact absurd (K7.type_eq KW3) (by decide)
    · exact MM3.out.apart K7 (by decide) hc)
  have MM4 := Lib.hid M4
  have c1 := K1.cell 1
  have z1 := K1.lt
  have hnw := HNW.out
  clear HRW hbel hbut M4 B4 O4 hA hS6 hSn hfl KW3 MM3 HW3 K6 z6' zw
  have hA : Below w4.heap.size w4 (w4.alloc (.cells #[.int .u64 (n : Int)] 22)) := (Below.refl _ _).alloc (Nat.le_refl _) _
  have hcl : (magL ++ [wd ++ zeros (12 - wd.length)].flatten).length = 16 := by
    rw [List.length_append, magL_len, List.flatten_cons, List.flatten_nil, List.append_nil, List.length_append, zeros_length]
    have := HOK.out.2.1
    omega
  have HPU := Lib.hid (put_any gw w.heap.size w4.heap.size 4 n (magL ++ [wd ++ zeros (12 - wd.length)].flatten) v4 (w4.alloc (.cells #[.int .u64 (n : Int)] 22)) (KW4.keep hA) (MM4.out.keep hA) (Nat.le_trans HW4.out.size hA.size) (Bk.new w4 22 #[.int .u64 (n : Int)]) (by rw [hcl]; decide))
  go_wp2_with fail
  refine HPU.out.mono ?_
  intro r w5 hw5
  have hbel := hw5.below (MM4.out.keep hA) (Nat.le_refl _) HGW.out (Nat.le_trans HW4.out.size hA.size)
  have HW5 := Lib.hid ((below_step HW4.out HW4.out.size hA).trans hbel)
  obtain ⟨rfl, v5, KW5, M5, B5, O5⟩ := hw5
  have K1 := B5.keep (K1.keep hA) (fun hc => by
    rcases hc with hc | hc
    · subst hc; exact absurd (K1.type_eq KW4) (by decide)
    · exact MM4.out.apart K1 (by decide) hc)
  have K7 := B5.keep (K7.keep hA) (fun hc => by
    rcases hc with hc | hc
    · subst hc; exact absurd (K7.type_eq KW4) (by decide)
    · exact MM4.out.apart K7 (by decide) hc)
  have MM5 : Hid (Mine w5 w.heap.size v5 (magL ++ [wd ++ zeros (12 - wd.length)].flatten ++ toL n 4)) := M5
  have hcl5 : (magL ++ [wd ++ zeros (12 - wd.length)].flatten ++ toL n 4).length = 20 := by rw [List.length_append, hcl, toL_length]
  clear HPU hbel M5 B5 O5 hA KW4 MM4 HW4 c1 z1 hnw hcl
  go_upto_region 11 with fail
  have hS : ∀ k, (k = gw ∨ slb v5 k) → w.heap.size ≤ k := fun k hk => by
    rcases hk with rfl | hk
    · exact HGW.out
    · exact (MM5.out.slb_lo hk).1
  have hS1 : ¬ (g1 = gw ∨ slb v5 g1) := fun hc => by
    rcases hc with hc | hc
    · subst hc; exact absurd (K1.type_eq KW5) (by decide)
    · exact MM5.out.apart K1 (by decide) hc
  have hS7 : ¬ (g7 = gw ∨ slb v5 g7) := fun hc => by
    rcases hc with hc | hc
    · subst hc; exact absurd (K7.type_eq KW5) (by decide)
    · exact MM5.out.apart K7 (by decide) hc
  refine encR11 u (idA (sum4 da)) g1 gw g7 w.heap.size n c s v5 (magL ++ [wd ++ zeros (12 - wd.length)].flatten ++ toL n 4 ++ [sum4 da, da].flatten) w5 _ _ _ _ _ _ _ _ _ _ _ _ _ _ _ _ _ _ _ _ _ _ _ _ _ _ _ _ _ _ _ _ _ _ _ _ _ _ _ (Lib.hid (fun W hW => hW.keep K1 hS1)) (Lib.hid (fun W hW => hW.keep K7 hS7)) (Lib.hid (fun W g hbW hgW hKW => ?_)) (Lib.hid (fun _ _ _ _ _ w6 hw6 => ?_))
  · have hb7 : BsN W (fun k => k = gw ∨ slb v5 k) (.slice (some ⟨g7, 0, none⟩) 4 4) (sum4 da) := bsn_row (K7.keep hbW) hS7 (sum4_length da).symm (by omega) (by omega) (sum4_lt da)
    have hbd : BsN W (fun k => k = gw ∨ slb v5 k) (.slice s n c) da := BsN.of_bs (HB.out.keep (HW5.out.trans (hbW.mono HW5.out.size)) (Nat.le_refl _)) (Nat.le_trans HW5.out.size hbW.size) (fun k hk hc => by have := hS k hc; omega)
    refine (raw_any gw w.heap.size (some ⟨g, 0, none⟩) 2 [sum4 da, da] _ v5 W (KW5.keep hbW) (MM5.out.keep hbW) (Nat.le_trans HW5.out.size hbW.size) (by
      rw [hcl5]
      simp only [List.flatten_cons, List.flatten_nil, List.append_nil, List.length_append, sum4_length]
      have := H16.out
      have := HN.out
      omega) (by simp) (partsN_two hb7 hbd hKW (fun hc => by
        rcases hc with hc | hc
        · have := KW5.lt; omega
        · have := (MM5.out.slb_lo hc).2.1; omega))).mono ?_
    intro r w' hw'
    have h1 := hw'.1
    subst h1
    exact ⟨_, rfl, rfl, hw'.before hbW⟩
  · have hbel := hw6.below MM5.out (Nat.le_refl _) HGW.out HW5.out.size
    have HW6 := Lib.hid (HW5.out.trans hbel)
    obtain ⟨_, v6, KW6, M6, B6, O6⟩ := hw6
    have he : magL ++ [wd ++ zeros (12 - wd.length)].flatten ++ toL n 4 ++ [sum4 da, da].flatten = encL wd da := by
      unfold encL
      rw [HN.out]
      simp only [List.flatten_cons, List.flatten_nil, List.append_nil, List.append_assoc]
    rw [he] at M6
    have hel : (encL wd da).length ≤ 1000000 := by rw [encL_len wd da HOK.out.2.1]; have := H16.out; have := HN.out; omega
    have hex := encL_lt wd da HX.out HDX.out
    have HBY := Lib.hid (bytes_any gw w.heap.size (encL wd da) v6 w6 KW6 M6 hex (Nat.le_trans hel (by decide)))
    have E0 := Lib.hid (encE_of HOK.out (show da.length ≤ 16384 by have := H16.out; have := HN.out; omega))
    clear he hel hex M6 B6 O6 hbel KW5 MM5 HW5 hcl5 hS hS1 hS7 K1 K7 KW6
    go_wp2_with fail
    refine HBY.out.mono ?_
    rintro r w7 ⟨v7, rfl, hM7, hb7⟩
    have HW7 := Lib.hid (below_step HW6.out HW6.out.size hb7)
    have HM7 : Hid (Mine w7 w.heap.size v7 (encL wd da)) := hM7.mono HW6.out.size
    clear hM7 hb7 HBY
    go_wp2_with fail
    go_ret2
    exact ⟨v7, by rw [E0.out]; rfl, HW7.out, fun _ => HM7.out, fun h => absurd E0.out h⟩
end Go.Proofs.YtkpffjcdalclmaaDoor
