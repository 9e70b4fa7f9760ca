/- A peer's greet. -/
import Derived.Test.YtkpffjcdalclmaaDoorZPeA
import Derived.Test.YtkpffjcdalclmaaDoorZMsL
namespace Go.Proofs.YtkpffjcdalclmaaDoor
open Go.RowKit
set_option linter.unusedVariables false
set_option linter.unusedSimpArgs false
set_option maxRecDepth 100000
abbrev KeyM := Int × Nat × List Nat × Nat × Nat
def keyM (m : MsM) : KeyM := (m.kd, m.nc, m.st.1, m.nm.length, m.hd.length)
def keysM (L : List MsI) : List KeyM := L.map fun y => keyM y.1
def verK : KeyM := (2, 0, zeros 32, 0, 0)
def greetF (m : PeM) (kd : Int) (nc ht : Nat) : PeM × Bool :=
 if kd = 1 ∧ m.kn = false then (if nc = m.nc then ({ m with sc := blI m.sc 100 }, false) else ({ m with kn := true, ht := ht }, true))
 else if kd = 2 ∧ m.kn = true ∧ m.rd = false then ({ m with rd := true }, false)
 else ({ m with sc := blI m.sc 10 }, false)
def GreetP (w w' : World) (p : Nat) (v : Value) (m : PeM) (b : Bool) (r : Ending) : Prop :=
 ∃ rv L, r = .returned rv ∧ PeK w' p m v ∧ MineR msR w' w.heap.size rv L ∧ keysM L = (if b = true then [verK] else []) ∧ But (fun k => k = p) w w'
def vk2 : MsI := ⟨{ ms0 with kd := 2 }, hd0_is⟩
theorem m2_cells : Tryd.zeroCells58.setIfInBounds 0 (.int .i64 2) = (msL { ms0 with kd := 2 }).toArray := by
 rw [msz, ms_kd]
set_option maxHeartbeats 8000000 in
theorem greet_any (p : Nat) (m : PeM) (v : Value) (x : MsM) (w : World) (K : PeK w p m v) (hm : 0 ≤ m.sc ∧ m.sc ≤ 100) (hx : IsHd x.bk.hd) :
  Calls Tryd.prog 35 #[.pointer (some ⟨p, 0, none⟩), .agg (msL x).toArray] w fun r w' => GreetP w w' p v (greetF m x.kd x.nc x.ht).1 (greetF m x.kd x.nc x.ht).2 r := by
 have HK := Lib.hid K
 have HM := Lib.hid hm
 obtain ⟨A, hA⟩ : ∃ A, A = (msL x).toArray := ⟨_, rfl⟩
 have a0 : A[0]? = some (.int .i64 x.kd) := by rw [hA]; rfl
 have a1 : A[1]? = some (.int .u64 (x.nc : Int)) := by rw [hA]; rfl
 have a2 : A[2]? = some (.int .u32 (x.ht : Int)) := by rw [hA]; rfl
 obtain ⟨kd, hkd⟩ : ∃ k, k = x.kd := ⟨_, rfl⟩
 obtain ⟨xn, hxn⟩ : ∃ k, k = x.nc := ⟨_, rfl⟩
 obtain ⟨xh, hxh⟩ : ∃ k, k = x.ht := ⟨_, rfl⟩
 rw [← hkd] at a0
 rw [← hxn] at a1
 rw [← hxh] at a2
 rw [← hkd, ← hxn, ← hxh, ← hA]
 have HA0 := Lib.hid a0
 have HA1 := Lib.hid a1
 have HA2 := Lib.hid a2
 obtain ⟨G, hG⟩ : ∃ G, G = greetF m kd xn xh := ⟨_, rfl⟩
 rw [← hG]
 have HG := Lib.hid hG
 have hpw := K.lt
 have HBL : Hid (∀ W n, PeK W p m v → -9223372036854775808 ≤ n ∧ n ≤ 9223372036854775807 → Calls Tryd.prog 19 #[.pointer (some ⟨p, 0, none⟩), .int .i64 n] W fun r w' => r = .returned (.tuple #[]) ∧ PeK w' p { m with sc := blI m.sc n } v ∧ But (fun k => k = p) W w') := fun W n h h2 => blame_any p m v n W h HM.out h2
 clear K hm hx hA hkd hxn hxh a0 a1 a2 hG
 go_enter Tryd.func35, Tryd.ntmps35
 go_upto_region 2 with fail
 refine wp_any (fun W => Below w.heap.size w W ∧ Bk W w.heap.size 58 A) ⟨(Below.refl _ _).alloc (Nat.le_refl _) _, Bk.new _ _ _⟩ ?_
 obtain ⟨g, hg⟩ : ∃ g, g = w.heap.size := ⟨_, rfl⟩
 have HGG := Lib.hid hg
 rw [← hg]
 rintro W ⟨hW, KA⟩
 have HW : Hid (Below w.heap.size w W) := by rw [← hg]; exact hW
 have HKW := Lib.hid (HK.out.keep HW.out)
 have c0 := (KA.cell 0).trans HA0.out
 have c1 := (KA.cell 1).trans HA1.out
 have c2 := (KA.cell 2).trans HA2.out
 have zg := KA.lt
 have hgp : g ≠ p := by omega
 have HGP := Lib.hid hgp
 have HKA := Lib.hid KA
 clear hW KA hg hpw hgp
 obtain ⟨sc, nc, si, wt, hh, e, kn, rd, ht⟩ := m
 have p1 : W.cell? ⟨p, 1, none⟩ = some (.int .u64 (nc : Int)) := (Bk.cell HKW.out 1).trans rfl
 have p6 : W.cell? ⟨p, 6, none⟩ = some (.bool kn) := (Bk.cell HKW.out 6).trans rfl
 have p7 : W.cell? ⟨p, 7, none⟩ = some (.bool rd) := (Bk.cell HKW.out 7).trans rfl
 have zp := HKW.out.lt
 have q1 : (kd == 1) = decide (kd = 1) := rfl
 by_cases h1 : kd = 1
 ·subst h1
  cases kn
  ·by_cases hn : xn = nc
   ·have q3 : ((xn : Int) == (nc : Int)) = true := by rw [beq_iff_eq, hn]
    have hg : G = (⟨blI sc 100, nc, si, wt, hh, e, false, rd, ht⟩, false) := by
     rw [HG.out]; unfold greetF; rw [if_pos ⟨rfl, rfl⟩, if_pos hn]
    have HG := Lib.hid hg
    clear hn hg
    refine wp_region_still_lit (by kernel_rfl) (by kernel_rfl) ?_
    refine Sh.out ?_
    iterate 4 (refine hs_step fun K hK => ?_; go_simp; refine hK _ ?_; clear hK K)
    iterate 5 (refine hs_want (by kernel_rfl) fun K hK => ?_; go_simp; refine hK _ ?_; clear hK K)
    iterate 2 (refine hs_step fun K hK => ?_; go_simp; refine hK _ ?_; clear hK K)
    iterate 8 (refine hs_want (by kernel_rfl) fun K hK => ?_; go_simp; refine hK _ ?_; clear hK K)
    iterate 2 (refine hs_step fun K hK => ?_; go_simp; refine hK _ ?_; clear hK K)
    refine hs_nil ?_
    have HC := Lib.hid (HBL.out W.drew 100 (HKW.out.keep (Below.refl _ _).drew) (by decide))
    go_wp2_with fail
    refine HC.out.mono ?_
    rintro r W2 ⟨rfl, hK2, hb2⟩
    have HE : Hid (GreetP w W2 p v G.1 G.2 (.returned (.slice none 0 0))) := by
     refine ⟨_, [], rfl, ?_, .inl ⟨rfl, rfl⟩, ?_, ?_⟩
     ·rw [HG.out]; exact hK2
     ·rw [HG.out]; rfl
     ·exact ((But.of (S := fun k => k = p) HW.out).drew).trans hb2 (fun i _ h => h)
    have z2 := hK2.lt
    clear hK2 hb2 HC
    go_wp2_with fail
    go_ret
    exact HE.out
   ·have q3 : ((xn : Int) == (nc : Int)) = false := by rw [beq_eq_false_iff_ne]; omega
    have hg : G = (⟨sc, nc, si, wt, hh, e, true, rd, xh⟩, true) := by
     rw [HG.out]; unfold greetF; rw [if_pos ⟨rfl, rfl⟩, if_neg hn]
    have HG := Lib.hid hg
    clear hn hg
    refine wp_region_still_lit (by kernel_rfl) (by kernel_rfl) ?_
    refine Sh.out ?_
    iterate 4 (refine hs_step fun K hK => ?_; go_simp; refine hK _ ?_; clear hK K)
    iterate 5 (refine hs_want (by kernel_rfl) fun K hK => ?_; go_simp; refine hK _ ?_; clear hK K)
    iterate 2 (refine hs_step fun K hK => ?_; go_simp; refine hK _ ?_; clear hK K)
    iterate 8 (refine hs_want (by kernel_rfl) fun K hK => ?_; go_simp; refine hK _ ?_; clear hK K)
    iterate 2 (refine hs_step fun K hK => ?_; go_simp; refine hK _ ?_; clear hK K)
    refine hs_nil ?_
    go_upto_region 5 with fail
    have hgp := HGP.out
    have p8 : W.cell? ⟨p, 8, none⟩ = some (.int .u32 (ht : Int)) := (Bk.cell HKW.out 8).trans rfl
    have f6 := Bk.frozen HKW.out 6
    have f8 := Bk.frozen HKW.out 8
    refine wp_region_noPanic ?_
    go_region_law (fail)
    all_goals refine NoPanic.normal ?_
    all_goals
     have hKV : PeK ((W.setCell ⟨p, 6, none⟩ (.bool true)).setCell ⟨p, 8, none⟩ (.int .u32 (xh : Int))).drew.drew p ⟨sc, nc, si, wt, hh, e, true, rd, xh⟩ v := Bk.keep (Bk.set_ (Bk.set_ HKW.out 6 _) 8 _) (((Below.refl _ _).drew).drew)
     have hBV : But (fun k => k = p) w ((W.setCell ⟨p, 6, none⟩ (.bool true)).setCell ⟨p, 8, none⟩ (.int .u32 (xh : Int))).drew.drew := ((((But.of (S := fun k => k = p) HW.out).set_ (.inl rfl) 6 none _).set_ (.inl rfl) 8 none _).drew).drew
     generalize ((W.setCell ⟨p, 6, none⟩ (.bool true)).setCell ⟨p, 8, none⟩ (.int .u32 (xh : Int))).drew.drew = V at *
     have HE : Hid (GreetP w (V.alloc (.cells (msR.c vk2).toArray msR.e)) p v G.1 G.2 (.returned (.slice (some ⟨V.heap.size, 0, none⟩) 1 1))) := by
      refine ⟨_, [vk2], rfl, ?_, .inr ⟨V.heap.size, 1, 0, rfl, rfl, by decide, hBV.size, ?_⟩, ?_, hBV.alloc _⟩
      ·rw [HG.out]; exact hKV.keep ((Below.refl _ _).alloc (Nat.le_refl _) _)
      ·show Bk _ _ _ (msR.flat [vk2]).toArray
       rw [flat_sing]
       exact Bk.new _ _ _
      ·rw [HG.out]; rfl
     clear hKV hBV c0 c1 c2 p1 p6 p7 p8 zg zp f6 f8 hgp
     go_wp2_with (refine wpList_bsR1 msR_ok (by decide) rfl (.tmp 53) rfl vk2 (by show Value.agg (Tryd.zeroCells58.setIfInBounds 0 (.int .i64 2)) = _; rw [m2_cells]; rfl) ?_)
     go_ret
     exact HE.out
  ·have hg : G = (⟨blI sc 10, nc, si, wt, hh, e, true, rd, ht⟩, false) := by
    rw [HG.out]; unfold greetF; rw [if_neg (by simp), if_neg (by omega)]
   have HG := Lib.hid hg
   clear hg
   refine wp_region_still_lit (by kernel_rfl) (by kernel_rfl) ?_
   refine Sh.out ?_
   iterate 4 (refine hs_step fun K hK => ?_; go_simp; refine hK _ ?_; clear hK K)
   iterate 5 (refine hs_want (by kernel_rfl) fun K hK => ?_; go_simp; refine hK _ ?_; clear hK K)
   iterate 2 (refine hs_step fun K hK => ?_; go_simp; refine hK _ ?_; clear hK K)
   iterate 8 (refine hs_skip (by kernel_rfl) fun K hK => ?_; go_simp; refine hK _ ?_; clear hK K)
   iterate 2 (refine hs_step fun K hK => ?_; go_simp; refine hK _ ?_; clear hK K)
   refine hs_nil ?_
   have HC := Lib.hid (HBL.out W.drew 10 (HKW.out.keep (Below.refl _ _).drew) (by decide))
   go_wp2_with fail
   refine HC.out.mono ?_
   rintro r W2 ⟨rfl, hK2, hb2⟩
   have HE : Hid (GreetP w W2 p v G.1 G.2 (.returned (.slice none 0 0))) := by
    refine ⟨_, [], rfl, ?_, .inl ⟨rfl, rfl⟩, ?_, ?_⟩
    ·rw [HG.out]; exact hK2
    ·rw [HG.out]; rfl
    ·exact ((But.of (S := fun k => k = p) HW.out).drew).trans hb2 (fun i _ h => h)
   have z2 := hK2.lt
   clear hK2 hb2 HC
   go_wp2_with fail
   go_ret
   exact HE.out
 ·by_cases h2 : kd = 2 ∧ kn = true ∧ rd = false
  ·obtain ⟨h2, rfl, rfl⟩ := h2
   subst h2
   have hg : G = (⟨sc, nc, si, wt, hh, e, true, true, ht⟩, false) := by
    rw [HG.out]; unfold greetF; rw [if_neg (by simp), if_pos ⟨rfl, rfl, rfl⟩]
   have HG := Lib.hid hg
   clear hg
   refine wp_region_still_lit (by kernel_rfl) (by kernel_rfl) ?_
   refine Sh.out ?_
   iterate 4 (refine hs_step fun K hK => ?_; go_simp; refine hK _ ?_; clear hK K)
   iterate 5 (refine hs_skip (by kernel_rfl) fun K hK => ?_; go_simp; refine hK _ ?_; clear hK K)
   iterate 2 (refine hs_step fun K hK => ?_; go_simp; refine hK _ ?_; clear hK K)
   iterate 8 (refine hs_skip (by kernel_rfl) fun K hK => ?_; go_simp; refine hK _ ?_; clear hK K)
   iterate 2 (refine hs_step fun K hK => ?_; go_simp; refine hK _ ?_; clear hK K)
   refine hs_nil ?_
   have hbw : But (fun k => k = p) w W.drew := (But.of (S := fun k => k = p) HW.out).drew
   have HE : Hid (GreetP w (W.drew.setCell ⟨p, 7, none⟩ (.bool true)) p v G.1 G.2 (.returned (.slice none 0 0))) := by
    refine ⟨_, [], rfl, ?_, .inl ⟨rfl, rfl⟩, ?_, hbw.set_ (.inl rfl) 7 none _⟩
    ·rw [HG.out]; exact Bk.set_ (Bk.keep HKW.out (Below.refl _ _).drew) 7 _
    ·rw [HG.out]; rfl
   have fz := Bk.frozen HKW.out 7
   clear hbw
   go_wp2_with fail
   go_ret
   exact HE.out
  ·have hg : G = (⟨blI sc 10, nc, si, wt, hh, e, kn, rd, ht⟩, false) := by
    rw [HG.out]; unfold greetF; rw [if_neg (fun h => h1 h.1), if_neg h2]
   have HG := Lib.hid hg
   clear hg
   by_cases h3 : kd = 2
   ·subst h3
    cases kn
    ·clear h2
     refine wp_region_still_lit (by kernel_rfl) (by kernel_rfl) ?_
     refine Sh.out ?_
     iterate 4 (refine hs_step fun K hK => ?_; go_simp; refine hK _ ?_; clear hK K)
     iterate 5 (refine hs_skip (by kernel_rfl) fun K hK => ?_; go_simp; refine hK _ ?_; clear hK K)
     iterate 2 (refine hs_step fun K hK => ?_; go_simp; refine hK _ ?_; clear hK K)
     iterate 8 (refine hs_skip (by kernel_rfl) fun K hK => ?_; go_simp; refine hK _ ?_; clear hK K)
     iterate 2 (refine hs_step fun K hK => ?_; go_simp; refine hK _ ?_; clear hK K)
     refine hs_nil ?_
     have HC := Lib.hid (HBL.out W.drew 10 (HKW.out.keep (Below.refl _ _).drew) (by decide))
     go_wp2_with fail
     refine HC.out.mono ?_
     rintro r W2 ⟨rfl, hK2, hb2⟩
     have HE : Hid (GreetP w W2 p v G.1 G.2 (.returned (.slice none 0 0))) := by
      refine ⟨_, [], rfl, ?_, .inl ⟨rfl, rfl⟩, ?_, ?_⟩
      ·rw [HG.out]; exact hK2
      ·rw [HG.out]; rfl
      ·exact ((But.of (S := fun k => k = p) HW.out).drew).trans hb2 (fun i _ h => h)
     have z2 := hK2.lt
     clear hK2 hb2 HC
     go_wp2_with fail
     go_ret
     exact HE.out
    ·have hrd : rd = true := by
      cases rd
      ·exact absurd ⟨rfl, rfl, rfl⟩ h2
      ·rfl
     subst hrd
     clear h2
     refine wp_region_still_lit (by kernel_rfl) (by kernel_rfl) ?_
     refine Sh.out ?_
     iterate 4 (refine hs_step fun K hK => ?_; go_simp; refine hK _ ?_; clear hK K)
     iterate 5 (refine hs_skip (by kernel_rfl) fun K hK => ?_; go_simp; refine hK _ ?_; clear hK K)
     iterate 2 (refine hs_step fun K hK => ?_; go_simp; refine hK _ ?_; clear hK K)
     iterate 8 (refine hs_skip (by kernel_rfl) fun K hK => ?_; go_simp; refine hK _ ?_; clear hK K)
     iterate 2 (refine hs_step fun K hK => ?_; go_simp; refine hK _ ?_; clear hK K)
     refine hs_nil ?_
     have HC := Lib.hid (HBL.out W.drew 10 (HKW.out.keep (Below.refl _ _).drew) (by decide))
     go_wp2_with fail
     refine HC.out.mono ?_
     rintro r W2 ⟨rfl, hK2, hb2⟩
     have HE : Hid (GreetP w W2 p v G.1 G.2 (.returned (.slice none 0 0))) := by
      refine ⟨_, [], rfl, ?_, .inl ⟨rfl, rfl⟩, ?_, ?_⟩
      ·rw [HG.out]; exact hK2
      ·rw [HG.out]; rfl
      ·exact ((But.of (S := fun k => k = p) HW.out).drew).trans hb2 (fun i _ h => h)
     have z2 := hK2.lt
     clear hK2 hb2 HC
     go_wp2_with fail
     go_ret
     exact HE.out
   ·clear h2
    refine wp_region_still_lit (by kernel_rfl) (by kernel_rfl) ?_
    refine Sh.out ?_
    iterate 4 (refine hs_step fun K hK => ?_; go_simp; refine hK _ ?_; clear hK K)
    iterate 5 (refine hs_skip (by kernel_rfl) fun K hK => ?_; go_simp; refine hK _ ?_; clear hK K)
    iterate 2 (refine hs_step fun K hK => ?_; go_simp; refine hK _ ?_; clear hK K)
    iterate 8 (refine hs_skip (by kernel_rfl) fun K hK => ?_; go_simp; refine hK _ ?_; clear hK K)
    iterate 2 (refine hs_step fun K hK => ?_; go_simp; refine hK _ ?_; clear hK K)
    refine hs_nil ?_
    have HC := Lib.hid (HBL.out W.drew 10 (HKW.out.keep (Below.refl _ _).drew) (by decide))
    go_wp2_with fail
    refine HC.out.mono ?_
    rintro r W2 ⟨rfl, hK2, hb2⟩
    have HE : Hid (GreetP w W2 p v G.1 G.2 (.returned (.slice none 0 0))) := by
     refine ⟨_, [], rfl, ?_, .inl ⟨rfl, rfl⟩, ?_, ?_⟩
     ·rw [HG.out]; exact hK2
     ·rw [HG.out]; rfl
     ·exact ((But.of (S := fun k => k = p) HW.out).drew).trans hb2 (fun i _ h => h)
    have z2 := hK2.lt
    clear hK2 hb2 HC
    go_wp2_with fail
    go_ret
    exact HE.out
end Go.Proofs.YtkpffjcdalclmaaDoor
