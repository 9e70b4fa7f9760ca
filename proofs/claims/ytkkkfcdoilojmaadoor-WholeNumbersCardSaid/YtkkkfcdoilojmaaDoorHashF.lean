/-
  The contract of package hash's add.
-/
import Derived.Test.YtkkkfcdoilojmaaDoorHashE
import Derived.Test.YtkkkfcdoilojmaaDoorHashN
import Derived.WalkSpells
namespace Go.Proofs.YtkkkfcdoilojmaaDoor
open Go.RowKit
set_option linter.unusedVariables false

theorem nth_drop_take (xs : List Nat) (j q i : Nat) (hi : i < q) : nth ((xs.drop j).take q) i = nth xs (j + i) := by
  unfold nth
  rw [List.getD, List.getD, List.getElem?_take_of_lt hi, List.getElem?_drop]
theorem copy_src {w wr : World} {D b o j r q : Nat} {xs : List Nat} (HO : Below D w wr) (hb : b < D) (hC : ∀ i, i < r → w.cell? ⟨b, o + i, none⟩ = some (.int .u8 ((nth xs (j + i) : Nat) : Int))) (hq : q ≤ r) :
    ∀ i v, (((xs.drop j).take q).map byteV)[i]? = some v → wr.drew.cell? ((⟨b, o, none⟩ : Addr).add i) = some v := by
  intro i v hv
  rw [Addr.add_mid]
  rw [List.getElem?_map] at hv
  obtain ⟨y, hy, rfl⟩ := Option.map_eq_some_iff.1 hv
  have hi : i < q := by
    have := (List.getElem?_eq_some_iff.1 hy).1
    rw [List.length_take] at this; omega
  have e := nth_drop_take xs j q i hi
  unfold nth at e
  rw [List.getD, hy, Option.getD_some] at e
  subst e
  exact (HO.cell (p := ⟨b, o + i, none⟩) hb).trans (hC i (by omega))

set_option maxRecDepth 100000 in
set_option maxHeartbeats 1000000 in
theorem add_any (L xs : List Nat) (s : Option Addr) (cap D : Nat) (w : World) (hL : ∀ x ∈ L, x < 256) (hx : ∀ x ∈ xs, x < 256) (hlen : L.length + xs.length < 1152921504606846976) (hcap : xs.length ≤ cap) (hc63 : cap < 9223372036854775808)
    (hs : xs ≠ [] → ∃ b o, s = some ⟨b, o, none⟩ ∧ b < D ∧ ∀ i, i < xs.length → w.cell? ⟨b, o + i, none⟩ = some (.int .u8 ((nth xs i : Nat) : Int))) (hD : Bk w D 72 (dg L L.length)) (hLd : Laid w) :
    Calls Tryd.prog 37 #[.pointer (some ⟨D, 0, none⟩), .slice s xs.length cap] w fun e w' => e = .returned (.tuple #[]) ∧ Bk w' D 72 (dg (L ++ xs) (L ++ xs).length) ∧ Below D w w' := by
  have hDl := hD.lt
  have h2 := hLd.ge2 hD (dw_size _ _ _ _ (S8.toL_length _) (inB_length _))
  have HLD := Lib.hid hLd
  clear hLd
  obtain ⟨m, hm⟩ : ∃ m, m = xs.length := ⟨_, rfl⟩
  obtain ⟨n, hn⟩ : ∃ n, n = L.length := ⟨_, rfl⟩
  rw [← hm] at hlen hcap ⊢
  rw [← hn] at hlen hD
  have c0 := (hD.cell 73).trans (dw_bytes _ _ _ _ (S8.toL_length _) (inB_length _))
  have f0 := hD.frozen 73
  have HV : IntKind.u64.wrap (m : Int) = (m : Int) := by rw [IntKind.wrap_u64]; omega
  have HLX := Lib.hid hL
  have HXX := Lib.hid hx
  have HS := Lib.hid hs
  have HM := Lib.hid hm
  have HN := Lib.hid hn
  clear hL hx hs hm hn
  have j0 : (n : Int) + (m : Int) < 18446744073709551616 := by omega
  go_enter Tryd.func37, Tryd.ntmps37
  go_wp2_with fail
  refine wp_any (fun W => Bk W D 72 (dg L (n + m)) ∧ Below D w W) ⟨?_, (Below.refl D w).setCell (show D ≤ D from Nat.le_refl _) _⟩ ?_
  · have e := hD.set_ 73 (.int .u64 ((n + m : Nat) : Int))
    rw [dg, dw_set_bytes _ _ _ _ _ (S8.toL_length _) (inB_length _)] at e
    exact e
  clear hD c0 f0 HV j0
  rintro W ⟨D0, HO⟩
  go_loopw [1] (fun p wr => ∃ (j : Nat) (s' : Option Addr) (r c : Nat), Hid (j + r = m) ∧ r ≤ c ∧ c ≤ cap ∧ p = .slice s' r c ∧ Hid (0 < r → ∃ b o, s' = some ⟨b, o, none⟩ ∧ b < D ∧ ∀ i, i < r → w.cell? ⟨b, o + i, none⟩ = some (.int .u8 ((nth xs (j + i) : Nat) : Int))) ∧
    Bk wr D 72 (dg (L ++ xs.take j) (n + m)) ∧ Below D w wr) (fun p _ => match p with | .slice _ r _ => r | _ => 0)
  case atStart =>
    refine ⟨0, s, m, cap, ?_, hcap, Nat.le_refl _, rfl, ?_, ?_, HO⟩
    · show _ = _
      omega
    · intro h
      obtain ⟨b, o, e1, e2, e3⟩ := HS.out (by intro e; have := HM.out; rw [e] at this; simp at this; omega)
      exact ⟨b, o, e1, e2, fun i hi => by rw [Nat.zero_add]; exact e3 i (by rw [← HM.out]; exact hi)⟩
    · rw [List.take_zero, List.append_nil]; exact D0
  case round =>
    obtain ⟨j, s', r, c, HJ, hrc, hcc, rfl, HP, D1, HO⟩ := hrel
    clear D0
    by_cases h0 : 0 < r
    · obtain ⟨b, o, rfl, hbD, hC⟩ := HP.out h0
      obtain ⟨u, hu⟩ : ∃ u, u = (L ++ xs.take j).length % 64 := ⟨_, rfl⟩
      have hu64 : u < 64 := by omega
      have HU := Lib.hid hu
      have c0 : wr.cell? ⟨D, 72, none⟩ = some (.int .i64 (u : Int)) := by
        rw [hu]; exact (D1.cell 72).trans (dw_used _ _ _ _ (S8.toL_length _) (inB_length _))
      have f0 := D1.frozen 72
      have hz := D1.lt
      have HC := Lib.hid hC
      clear hC hu
      have j0 : (0 : Int) ≤ (u : Int) := by omega
      have j1 : (u : Int) ≤ 64 := by omega
      have j2 : (r : Int) ≤ (c : Int) := by omega
      have j3 : (0 : Int) < (r : Int) := by omega
      have j4 : ¬ (64 = u) := by omega
      obtain ⟨q, hq⟩ : ∃ q, q = Nat.min r (64 - u) := ⟨_, rfl⟩
      have hq1 : q ≤ r ∧ q ≤ 64 - u ∧ 0 < q ∧ (u + q = 64 ∨ (u + q < 64 ∧ q = r)) := by
        have : Nat.min r (64 - u) = min r (64 - u) := rfl
        omega
      obtain ⟨hqr, hqu, hq0, hqc⟩ := hq1
      have hyl : ((xs.drop j).take q).length = q := by
        rw [List.length_take, List.length_drop]
        have := HJ.out; have := HM.out; omega
      have hsrc := copy_src HO hbD HC.out hqr
      obtain ⟨ys, hys⟩ : ∃ ys, ys = (xs.drop j).take q := ⟨_, rfl⟩
      rw [← hys] at hyl hsrc
      obtain ⟨cs, hcs⟩ : ∃ cs, cs = ys.map byteV := ⟨_, rfl⟩
      rw [← hcs] at hsrc
      have hcl : cs.length = q := by rw [hcs, List.length_map, hyl]
      have hone : ∀ v ∈ cs, v.oneCell' = true := by intro v hv; rw [hcs] at hv; simp only [List.mem_map] at hv; obtain ⟨x, _, rfl⟩ := hv; rfl
      have HSRC := Lib.hid hsrc
      have HONE := Lib.hid hone
      have HQ := Lib.hid hq
      have HCS := Lib.hid hcs
      have HYS := Lib.hid hys
      have HYL := Lib.hid hyl
      have HCL := Lib.hid hcl
      have hdw : dg (L ++ xs.take j) (n + m) = dw (inW (L ++ xs.take j)).toL (inB (L ++ xs.take j)) u (n + m) := by rw [HU.out]; rfl
      have hi5 : (Tryd.prog.info? 5).map (·.size) = some 1 := by kernel_rfl
      rw [hdw] at D1
      have hbl := inB_length (L ++ xs.take j)
      have hpart := dg_part (L ++ xs.take j) ys (n + m)
      have hfull := dg_full (L ++ xs.take j) ys (n + m)
      rw [← HU.out, HYL.out, List.append_assoc, HYS.out, take_more, ← HYS.out] at hpart hfull
      have hbx : ∀ x ∈ inB (L ++ xs.take j), x < 256 := inB_lt _ (by intro x hx; rcases List.mem_append.1 hx with h | h; exact HLX.out x h; exact HXX.out x (List.mem_of_mem_take h))
      have hok := inW_ok (L ++ xs.take j)
      generalize inW (L ++ xs.take j) = S at *
      generalize inB (L ++ xs.take j) = B0 at *
      have HBL := Lib.hid hbl
      have HPART := Lib.hid hpart
      have HFULL := Lib.hid hfull
      have HBX := Lib.hid hbx
      clear hsrc hone hq hcs hys hyl hdw hpart hfull hbx hbl hcl
      go_upto_region 2 with fail
      go_still_tail 9, (by kernel_rfl)
      change wpList _ _ _ _ _ wr.drew
      refine wpList_copy_splice rfl (.tmp 25) (.tmp 26) 49 49 rfl 5 Tryd.underlying49 hi5 (some ⟨D, 8 + u, none⟩) (some ⟨b, o, none⟩) (64 - u) (64 - u) r c rfl rfl D (8 + u) (dw S.toL B0 u (n + m)).toList 72 D1.drew cs (by rw [HCL.out]; exact HQ.out) (fun _ => ⟨rfl, _, rfl, HSRC.out⟩) (by rw [HCL.out, Array.length_toList, dw_size _ _ _ _ (S8.toL_length _) HBL.out]; omega) HONE.out D w HO.drew (Nat.le_refl _) ?_
      intro w2 HG HB
      have D2 : Bk w2 D 72 (dw S.toL (splice B0 u ys) u (n + m)) := by
        have e := HG.out
        rw [HCS.out, splice_dw _ _ _ _ _ _ (S8.toL_length _) (by rw [HYL.out, HBL.out]; omega)] at e
        exact e
      have hcl := HCL.out
      have hsl : (splice B0 u ys).length = 64 := by rw [length_splice _ _ _ (by rw [HYL.out, HBL.out]; omega), HBL.out]
      have HSL := Lib.hid hsl
      have c0 := (D2.cell 72).trans (dw_used _ _ _ _ (S8.toL_length _) HSL.out)
      have f0 := D2.frozen 72
      have hz := D2.lt
      have k0 : (u : Int) + (q : Int) ≤ 64 := by omega
      have k1 : (0 : Int) ≤ (q : Int) := by omega
      have k2 : (q : Int) ≤ (r : Int) := by omega
      clear hsl D1
      rcases hqc with hfl | ⟨hpt, hqr'⟩
      · have ht : (((u : Int) + (q : Int)) == 64) = true := by simp; omega
        go_upto_region 6 with fail
        refine wp_any (fun W => Bk W D 72 (dw S.toL (splice B0 u ys) (u + q) (n + m)) ∧ Below D w W) ⟨?_, HB.setCell (show D ≤ D from Nat.le_refl _) _⟩ ?_
        · have e := D2.set_ 72 (.int .i64 ((u + q : Nat) : Int))
          rw [dw_set_used _ _ _ _ _ (S8.toL_length _) HSL.out] at e
          exact e
        clear D2 HB c0 f0 hz HO
        rintro W3 ⟨D3, HO⟩
        go_wp2_with fail
        all_goals
          refine (mix_any S (splice B0 u ys) (u + q) (n + m) D _ hok HSL.out ?_ D3 (HLD.out.below HO h2)).mono ?_
          · intro x hx
            unfold splice at hx
            rcases List.mem_append.1 hx with h | h
            · exact HBX.out x (List.mem_of_mem_take h)
            rcases List.mem_append.1 h with h | h
            · rw [HYS.out] at h; exact HXX.out x (List.mem_of_mem_drop (List.mem_of_mem_take h))
            · exact HBX.out x (List.mem_of_mem_drop h)
          rintro e w5 ⟨rfl, D5, O5⟩
          have D6 : Bk w5 D 72 (dg (L ++ xs.take (j + q)) (n + m)) := by rw [← HFULL.out hfl]; exact D5
          have HO6 := HO.trans (O5.below (Nat.le_refl _) (Nat.le_of_lt D3.lt))
          clear D3 HO D5 O5
          go_wp2_with fail
          refine ⟨⟨j + q, _, r - q, _, ?_, ?_, ?_, rfl, ?_, D6, HO6⟩, ?_⟩
          · show _ = _
            have := HJ.out; omega
          · omega
          · omega
          · intro hp
            first
              | exact absurd hp (by omega)
              | (refine ⟨b, o + q, rfl, hbD, fun i hi => ?_⟩
                 have := HC.out (q + i) (by omega)
                 rw [← Nat.add_assoc, ← Nat.add_assoc] at this
                 exact this)
          · show r - q < r
            omega
      · have ht : (((u : Int) + (q : Int)) == 64) = false := by simp; omega
        go_wp2_with fail
        refine ⟨⟨j + r, _, 0, c - r, ?_, Nat.zero_le _, by omega, rfl, fun h => absurd h (by omega), ?_, HB.setCell (show D ≤ D from Nat.le_refl _) _⟩, h0⟩
        · show _ = _
          have := HJ.out; omega
        · have e := D2.set_ 72 (.int .i64 ((u + q : Nat) : Int))
          rw [dw_set_used _ _ _ _ _ (S8.toL_length _) HSL.out, HPART.out hpt, hqr'] at e
          exact e
    · go_wp2_with fail
      go_end0
      refine ⟨rfl, ?_, HO⟩
      have hj : j = m := by have := HJ.out; omega
      have e : xs.take j = xs := List.take_of_length_le (by have := HM.out; omega)
      rw [e] at D1
      have e2 : (L ++ xs).length = n + m := by rw [List.length_append, HM.out, HN.out]
      rw [e2]
      exact D1
end Go.Proofs.YtkkkfcdoilojmaaDoor
