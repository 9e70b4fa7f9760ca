/- Ticks, with any nonce. -/
import Derived.Test.YtkpffjcdalclmaaDoorTdA
namespace Go.Proofs.YtkpffjcdalclmaaDoor
open Go.RowKit
set_option linter.unusedVariables false
set_option linter.unusedSimpArgs false
set_option maxRecDepth 100000
def pnN (nc : Nat) (now : Int) : Nat := (IntKind.u64.wrap ((nc : Int) + IntKind.u64.wrap now)).toNat
theorem u64_nn (x : Int) : 0 ≤ IntKind.u64.wrap x ∧ IntKind.u64.wrap x < 18446744073709551616 := by
 simp [IntKind.wrap, IntKind.signed, IntKind.bits]
 omega
theorem curI_pn (m : PeM) (now : Int) : curI { m with si := now, wt := true } = ((pnN m.nc now : Nat) : Int) := by
 unfold curI pnN
 have := (u64_nn ((m.nc : Int) + IntKind.u64.wrap now)).1
 simp only
 omega
set_option maxHeartbeats 4000000 in
theorem pingw_any (p : Nat) (m : PeM) (v : Value) (now : Int) (w : World) (K : PeK w p m v) :
  Calls Tryd.prog 39 #[.pointer (some ⟨p, 1, none⟩), .int .i64 now] w fun r w' => r = .returned (.agg (msR.c (pingM (pnN m.nc now))).toArray) ∧ PeK w' p { m with si := now, wt := true } v ∧ But (fun k => k = p) w w' := by
 have hcu := curI_pn m now
 obtain ⟨N, hN⟩ : ∃ N, N = pnN m.nc now := ⟨_, rfl⟩
 have hcu : curI { m with si := now, wt := true } = (N : Int) := by rw [hN]; exact hcu
 rw [← hN]
 have HCU := Lib.hid hcu
 have HK := Lib.hid K
 have hpw := K.lt
 clear hcu K hN
 go_enter Tryd.func39, Tryd.ntmps39
 go_upto_region 1 with fail
 refine wp_any (fun W => Below w.heap.size w W ∧ Bk W w.heap.size 58 Tryd.zeroCells58) ⟨(Below.refl _ _).alloc (Nat.le_refl _) _, Bk.new _ _ _⟩ ?_
 obtain ⟨g, hg⟩ : ∃ g, g = w.heap.size := ⟨_, rfl⟩
 have HG := Lib.hid hg
 rw [← hg]
 rintro W ⟨hW, K4⟩
 have hgp : g ≠ p := by omega
 have HW : Hid (Below w.heap.size w W) := by rw [← hg]; exact hW
 have HKW := Lib.hid (HK.out.keep HW.out)
 have HK4 := Lib.hid K4
 obtain ⟨sc, nc, si, wt, hh, e, kn, rd, ht⟩ := m
 have p2 : W.cell? ⟨p, 2, none⟩ = some (.int .i64 si) := (Bk.cell HKW.out 2).trans rfl
 have p3 : W.cell? ⟨p, 3, none⟩ = some (.bool wt) := (Bk.cell HKW.out 3).trans rfl
 have f2 := Bk.frozen HKW.out 2
 have f3 := Bk.frozen HKW.out 3
 have zp := HKW.out.lt
 clear hW K4 hg hpw
 go_upto_region 2 with fail
 refine wp_any (fun W' => PeK W' p ⟨sc, nc, now, true, hh, e, kn, rd, ht⟩ v ∧ Bk W' g 58 Tryd.zeroCells58 ∧ But (fun k => k = p) w W')
  ⟨Bk.set_ (Bk.set_ HKW.out 2 _) 3 _, ((((But.refl (fun k => k = p) W).set_ (.inl rfl) 2 none _).set_ (.inl rfl) 3 none _)).keep HK4.out hgp, ((But.of (S := fun k => k = p) HW.out).set_ (.inl rfl) 2 none _).set_ (.inl rfl) 3 none _⟩ ?_
 clear p2 p3 f2 f3 zp HKW HK4 HW
 rintro W2 ⟨hK2, hK4, hb2⟩
 have HC := Lib.hid (current_any p _ v W2 hK2)
 rw [HCU.out] at HC
 have HK2 := Lib.hid hK2
 have HK4 := Lib.hid hK4
 have HB2 := Lib.hid hb2
 clear hK2 hK4 hb2
 go_wp2_with fail
 refine HC.out.mono ?_
 rintro r W3 ⟨rfl, hb3⟩
 have HK3 := Lib.hid (HK2.out.keep hb3)
 have HK5 := Lib.hid (HK4.out.keep hb3)
 have HB3 := Lib.hid (HB2.out.step hb3)
 obtain ⟨MA, hMA⟩ : ∃ MA, MA = (msR.c (pingM N)).toArray := ⟨_, rfl⟩
 have hMA2 : (Tryd.zeroCells58.setIfInBounds 0 (.int .i64 9)).setIfInBounds 1 (.int .u64 (N : Int)) = MA := by rw [hMA]; exact ms9_cells N
 have ha106 : MA.size = 106 := by rw [hMA]; exact msL_len (pingM N).2
 have ho1 : MA.all (·.oneCell') = true := by rw [hMA]; exact all_oneCell_toArray (msL_one (pingM N).1)
 have hth : W3.there g 0 MA.size := Bk.there HK5.out _ (by rw [ha106, msz_len]; exact Nat.le_refl _)
 have hin : (Tryd.prog.info? 58).map (·.size) = some MA.size := by rw [ha106]; exact msi_r
 have HKE : Hid (Bk (W3.setCells g 0 MA.toList) g 58 MA) := Bk.setAll HK5.out (by rw [ha106, msz_len])
 have HIN := Lib.hid hin
 have HPE : Hid (PeK (W3.setCells g 0 MA.toList) p ⟨sc, nc, now, true, hh, e, kn, rd, ht⟩ v) := rowFar HK3.out (Ne.symm hgp) _ _
 have HBE : Hid (But (fun k => k = p) w (W3.setCells g 0 MA.toList)) := by
  have hg2 := HG.out
  exact HB3.out.trans (But.setCells (S := fun k => k = g) rfl _ _ _ (But.refl _ _)) (fun i hi e => by have e2 : i = g := e; omega)
 have HMA := Lib.hid hMA
 clear hb3 HC hMA ha106
 go_wp2_with (refine wpList_store_mid rfl 58 (.tmp 4) (.tmp 14) rfl g 0 MA rfl rfl hth hin ho1 ?_)
 try simp only [Exit.inBlock, Exit.then]
 refine bodyPost_ret (results_cell_row rfl _ _ g 58 MA (0, 0) _ rfl HKE.out Tryd.underlying58 rfl HIN.out) rfl ?_
 exact ⟨by rw [← HMA.out], HPE.out, HBE.out⟩
def tickW (m : PeM) (now : Int) : PeM × List KeyM × Bool :=
 if m.rd = false then (m, [], decide (now - m.si < 60))
 else if m.wt = true then (m, [], decide (now - m.si < 60))
 else if now - m.si < 120 then (m, [], true)
 else ({ m with si := now, wt := true }, [pingK (pnN m.nc now)], true)
def TickWP (w w' : World) (p : Nat) (v : Value) (m : PeM) (now : Int) (r : Ending) : Prop :=
 ∃ (vl : Value) (L : List MsI), r = .returned (.tuple #[vl, .bool (tickW m now).2.2]) ∧ PeK w' p (tickW m now).1 v ∧ MineR msR w' w.heap.size vl L ∧ keysM L = (tickW m now).2.1 ∧ But (fun k => k = p) w w'
set_option maxHeartbeats 4000000 in
theorem tickw_any (p : Nat) (m : PeM) (v : Value) (now : Int) (w : World) (K : PeK w p m v) (h : 0 ≤ m.si ∧ m.si ≤ now ∧ now < 4611686018427387904) :
  Calls Tryd.prog 17 #[.pointer (some ⟨p, 0, none⟩), .int .i64 now] w fun r w' => TickWP w w' p v m now r := by
 have HPS := Lib.hid (passed_any p m v now w K h)
 have HPI : Hid (∀ W, PeK W p m v → Calls Tryd.prog 39 #[.pointer (some ⟨p, 1, none⟩), .int .i64 now] W fun r w' => r = .returned (.agg (msR.c (pingM (pnN m.nc now))).toArray) ∧ PeK w' p { m with si := now, wt := true } v ∧ But (fun k => k = p) W w') := fun W hK => pingw_any p m v now W hK
 obtain ⟨T, hT⟩ : ∃ T, T = tickW m now := ⟨_, rfl⟩
 have HT : Hid (∀ r w', (∃ (vl : Value) (L : List MsI), r = .returned (.tuple #[vl, .bool T.2.2]) ∧ PeK w' p T.1 v ∧ MineR msR w' w.heap.size vl L ∧ keysM L = T.2.1 ∧ But (fun k => k = p) w w') → TickWP w w' p v m now r) := fun r w' h => by rw [hT] at h; exact h
 have HTF := Lib.hid hT
 have HK := Lib.hid K
 have zp := K.lt
 obtain ⟨sc, nc, si, wt, hh, e, kn, rd, ht⟩ := m
 obtain ⟨d, hd⟩ : ∃ d, d = now - si := ⟨_, rfl⟩
 have hd0 : 0 ≤ d := by
  have := h.2.1
  simp only at this
  omega
 have HD := Lib.hid hd
 rw [show now - (⟨sc, nc, si, wt, hh, e, kn, rd, ht⟩ : PeM).si = d from hd.symm] at HPS
 clear K h hT hd
 go_enter Tryd.func17, Tryd.ntmps17
 go_wp2_with fail
 refine HPS.out.mono ?_
 rintro r W ⟨rfl, hb⟩
 have HKW := Lib.hid (HK.out.keep hb)
 have HB := Lib.hid hb
 have p7 : W.cell? ⟨p, 7, none⟩ = some (.bool rd) := (Bk.cell HKW.out 7).trans rfl
 have p3 : W.cell? ⟨p, 3, none⟩ = some (.bool wt) := (Bk.cell HKW.out 3).trans rfl
 have zp := HKW.out.lt
 clear hb HPS
 cases rd
 ·have ht : T = (⟨sc, nc, si, wt, hh, e, kn, false, ht⟩, [], decide (d < 60)) := by rw [HTF.out, HD.out]; rfl
  have HTT := Lib.hid ht
  clear ht
  go_wp2_with fail
  go_ret2
  exact HT.out _ _ ⟨_, [], by rw [HTT.out]; rfl, by rw [HTT.out]; exact HKW.out, .inl ⟨rfl, rfl⟩, by rw [HTT.out]; rfl, But.of HB.out⟩
 ·rcases Bool.eq_false_or_eq_true wt with rfl | rfl
  ·have ht : T = (⟨sc, nc, si, true, hh, e, kn, true, ht⟩, [], decide (d < 60)) := by rw [HTF.out, HD.out]; rfl
   have HTT := Lib.hid ht
   clear ht
   go_wp2_with fail
   go_ret2
   exact HT.out _ _ ⟨_, [], by rw [HTT.out]; rfl, by rw [HTT.out]; exact HKW.out, .inl ⟨rfl, rfl⟩, by rw [HTT.out]; rfl, But.of HB.out⟩
  ·by_cases h120 : d < 120
   ·have q : decide (d < 120) = true := decide_eq_true h120
    have ht : T = (⟨sc, nc, si, false, hh, e, kn, true, ht⟩, [], true) := by
     rw [HTF.out]
     unfold tickW
     rw [if_neg (by simp), if_neg (by simp), if_pos (by rw [← HD.out]; exact h120)]
    have HTT := Lib.hid ht
    clear ht h120
    go_wp2_with fail
    go_ret2
    exact HT.out _ _ ⟨_, [], by rw [HTT.out]; rfl, by rw [HTT.out]; exact HKW.out, .inl ⟨rfl, rfl⟩, by rw [HTT.out]; rfl, But.of HB.out⟩
   ·have q : decide (d < 120) = false := decide_eq_false h120
    have ht : T = (⟨sc, nc, now, true, hh, e, kn, true, ht⟩, [pingK (pnN nc now)], true) := by
     rw [HTF.out]
     unfold tickW
     rw [if_neg (by simp), if_neg (by simp), if_neg (by rw [← HD.out]; exact h120)]
    have HTT := Lib.hid ht
    have HP2 := Lib.hid (HPI.out W HKW.out)
    clear ht
    go_wp2_with fail
    refine HP2.out.mono ?_
    rintro r W3 ⟨rfl, hK3, hb3⟩
    have HE : Hid (∃ (vl : Value) (L : List MsI), (Ending.returned (.tuple #[.slice (some ⟨W3.heap.size, 0, none⟩) 1 1, .bool true]) : Ending) = .returned (.tuple #[vl, .bool T.2.2]) ∧ PeK (W3.alloc (.cells (msR.c (pingM (pnN nc now))).toArray 58)) p T.1 v ∧ MineR msR (W3.alloc (.cells (msR.c (pingM (pnN nc now))).toArray 58)) w.heap.size vl L ∧ keysM L = T.2.1 ∧ But (fun k => k = p) w (W3.alloc (.cells (msR.c (pingM (pnN nc now))).toArray 58))) := by
     have hbb : But (fun k => k = p) w W3 := (But.of (S := fun k => k = p) HB.out).trans hb3 (fun i _ h => h)
     refine ⟨_, [pingM (pnN nc now)], by rw [HTT.out]; rfl, ?_, .inr ⟨W3.heap.size, 1, 0, rfl, rfl, by decide, hbb.size, ?_⟩, by rw [HTT.out]; rfl, hbb.alloc _⟩
     ·rw [HTT.out]; exact hK3.keep ((Below.refl _ _).alloc (Nat.le_refl _) _)
     ·show Bk _ _ _ (msR.flat [pingM (pnN nc now)]).toArray
      rw [flat_sing]
      exact Bk.new _ _ _
    clear hK3 hb3 HP2
    go_wp2_with (refine wpList_bsR1 msR_ok (by decide) rfl (.tmp 35) rfl (pingM (pnN nc now)) rfl ?_)
    go_ret2
    exact HT.out _ _ HE.out
def tickP (m : PeM) (now : Int) : Bool := decide (m.rd = true ∧ m.wt = false ∧ ¬ now - m.si < 120)
def tickN (m : PeM) (tn : Nat) (now : Int) : Nat := if tickP m now = true then pnN m.nc now else tn
set_option maxHeartbeats 4000000 in
theorem ttick_any (p tn : Nat) (m : PeM) (v : Value) (now : Int) (w : World) (K : TdK w p m tn v) (h : 0 ≤ m.si ∧ m.si ≤ now ∧ now < 4611686018427387904) (h0 : m.rd = false → m.si = 0) (hr : m.rd = true → m.kn = true) :
  Calls Tryd.prog 18 #[.pointer (some ⟨p, 0, none⟩), .int .i64 now] w fun r w' => r = .returned (.tuple #[.int .u64 ((if tickP m now = true then pnN m.nc now else 0 : Nat) : Int), .bool (tickP m now), .bool (!(tickW m now).2.2)]) ∧ TdK w' p (tickW m now).1 (tickN m tn now) v ∧ But (fun k => k = p) w w' := by
 have HK := Lib.hid K
 have HR : Hid (∀ (b : Bool) (W : World), tickP m now = false → (tickW m now).2.2 = !b → (tickW m now).1 = m → But (fun k => k = p) w W → TdK W p m tn v → (Ending.returned (.tuple #[.int .u64 0, .bool false, .bool b]) : Ending) = .returned (.tuple #[.int .u64 ((if tickP m now = true then pnN m.nc now else 0 : Nat) : Int), .bool (tickP m now), .bool (!(tickW m now).2.2)]) ∧ TdK W p (tickW m now).1 (tickN m tn now) v ∧ But (fun k => k = p) w W) := fun b W h1 h2 h3 h4 h5 => by
  unfold tickN
  rw [h1, h2, h3]
  refine ⟨?_, h5, h4⟩
  rw [if_neg (by decide), Bool.not_not]
  rfl
 have HB0 : Hid (But (fun k => k = p) w w ∧ But (fun k => k = p) w w.drew) := ⟨But.refl _ _, (But.refl _ _).drew⟩
 have HKD : Hid (TdK w.drew p m tn v) := K.keep (Below.refl _ _).drew
 obtain ⟨sc, nc, si, wt, hh, e, kn, rd, ht⟩ := m
 obtain ⟨h1, h2, h3⟩ := h
 simp only at h1 h2 h0 hr
 have c0 : w.cell? ⟨p, 0, none⟩ = some (.int .u64 (nc : Int)) := (Bk.cell K 0).trans rfl
 have c1 : w.cell? ⟨p, 1, none⟩ = some (.int .u64 (tn : Int)) := (Bk.cell K 1).trans rfl
 have c2 : w.cell? ⟨p, 2, none⟩ = some (.int .i64 0) := (Bk.cell K 2).trans rfl
 have c3 : w.cell? ⟨p, 3, none⟩ = some (.int .i64 si) := (Bk.cell K 3).trans rfl
 have c5 : w.cell? ⟨p, 5, none⟩ = some (.bool kn) := (Bk.cell K 5).trans rfl
 have c6 : w.cell? ⟨p, 6, none⟩ = some (.bool rd) := (Bk.cell K 6).trans rfl
 have c7 : w.cell? ⟨p, 7, none⟩ = some (.bool wt) := (Bk.cell K 7).trans rfl
 have z0 := Bk.lt K
 clear K
 cases rd
 ·have hs := h0 rfl
  subst hs
  have hN : tickP ⟨sc, nc, 0, wt, hh, e, kn, false, ht⟩ now = false := by simp [tickP]
  have hw0 : IntKind.i64.wrap (now - 0) = now := by rw [Int.sub_zero]; exact IntWalk.i64_in _ (by omega)
  have hw1 : IntKind.i64.wrap now = now := IntWalk.i64_in _ (by omega)
  have HN := Lib.hid hN
  clear hN h0 hr h1 h2 h3
  by_cases h60 : (60 : Int) ≤ now
  ·have q : decide ((60 : Int) ≤ now) = true := decide_eq_true h60
   have HT : Hid ((tickW ⟨sc, nc, 0, wt, hh, e, kn, false, ht⟩ now).2.2 = !true) := by
    show decide (now - 0 < 60) = !true
    rw [Int.sub_zero]
    exact decide_eq_false (by omega)
   cases kn
   all_goals
    have hW : Calls Tryd.prog 18 #[.pointer (some ⟨p, 0, none⟩), .int .i64 now] w fun r w' => r = .returned (.tuple #[.int .u64 0, .bool false, .bool true]) ∧ w' = w.drew := by
     clear HR HN HT
     go_enter Tryd.func18, Tryd.ntmps18
     go_upto_region 2 with fail
     go_still_tail 9, (by kernel_rfl)
     change wpList _ _ _ _ _ w.drew
     go_wp2_with fail
     go_ret3
     exact ⟨rfl, rfl⟩
    exact hW.mono (by rintro r w' ⟨rfl, rfl⟩; exact HR.out _ _ HN.out HT.out rfl HB0.out.2 HKD.out)
  ·have q : decide ((60 : Int) ≤ now) = false := decide_eq_false h60
   have HT : Hid ((tickW ⟨sc, nc, 0, wt, hh, e, kn, false, ht⟩ now).2.2 = !false) := by
    show decide (now - 0 < 60) = !false
    rw [Int.sub_zero]
    exact decide_eq_true (by omega)
   cases kn
   all_goals
    have hW : Calls Tryd.prog 18 #[.pointer (some ⟨p, 0, none⟩), .int .i64 now] w fun r w' => r = .returned (.tuple #[.int .u64 0, .bool false, .bool false]) ∧ w' = w.drew := by
     clear HR HN HT
     go_enter Tryd.func18, Tryd.ntmps18
     go_upto_region 2 with fail
     go_still_tail 9, (by kernel_rfl)
     change wpList _ _ _ _ _ w.drew
     go_wp2_with fail
     go_ret3
     exact ⟨rfl, rfl⟩
    exact hW.mono (by rintro r w' ⟨rfl, rfl⟩; exact HR.out _ _ HN.out HT.out rfl HB0.out.2 HKD.out)
 ·have hkn := hr rfl
  subst hkn
  obtain ⟨d, hd⟩ : ∃ d, d = now - si := ⟨_, rfl⟩
  have hw0 : IntKind.i64.wrap (now - si) = d := by rw [hd]; exact IntWalk.i64_in _ (by omega)
  have HD := Lib.hid hd
  clear h0 hr h1 h2 h3 hd
  cases wt
  ·by_cases h120 : d < 120
   ·have q : decide (d < 120) = true := decide_eq_true h120
    have HN : Hid (tickP ⟨sc, nc, si, false, hh, e, true, true, ht⟩ now = false) := by show _ = _; simp [tickP]; rw [← HD.out]; omega
    have HT : Hid ((tickW ⟨sc, nc, si, false, hh, e, true, true, ht⟩ now).2.2 = !false ∧ (tickW ⟨sc, nc, si, false, hh, e, true, true, ht⟩ now).1 = ⟨sc, nc, si, false, hh, e, true, true, ht⟩) := by
     unfold tickW
     rw [if_neg (by simp), if_neg (by simp), if_pos (by rw [← HD.out]; exact h120)]
     exact ⟨rfl, rfl⟩
    clear h120
    have hW : Calls Tryd.prog 18 #[.pointer (some ⟨p, 0, none⟩), .int .i64 now] w fun r w' => r = .returned (.tuple #[.int .u64 0, .bool false, .bool false]) ∧ w' = w := by
     clear HR HN HT
     go_enter Tryd.func18, Tryd.ntmps18
     go_wp2_with fail
     go_ret3
     exact ⟨rfl, rfl⟩
    exact hW.mono (by rintro r w' ⟨rfl, rfl⟩; exact HR.out _ _ HN.out HT.out.1 HT.out.2 HB0.out.1 HK.out)
   ·have q : decide (d < 120) = false := decide_eq_false h120
    have HN : Hid (tickP ⟨sc, nc, si, false, hh, e, true, true, ht⟩ now = true) := by show _ = _; simp [tickP]; rw [← HD.out]; omega
    have HT : Hid ((tickW ⟨sc, nc, si, false, hh, e, true, true, ht⟩ now) = (⟨sc, nc, now, true, hh, e, true, true, ht⟩, [pingK (pnN nc now)], true)) := by
     show _ = _
     unfold tickW
     rw [if_neg (by simp), if_neg (by simp), if_neg (by rw [← HD.out]; exact h120)]
    obtain ⟨N, hN⟩ : ∃ N, N = pnN nc now := ⟨_, rfl⟩
    have hw5 : IntKind.u64.wrap ((nc : Int) + IntKind.u64.wrap now) = (N : Int) := by
     rw [hN]
     unfold pnN
     have := (u64_nn ((nc : Int) + IntKind.u64.wrap now)).1
     omega
    have f7 := Bk.frozen HK.out 7
    have f3 := Bk.frozen HK.out 3
    have f1 := Bk.frozen HK.out 1
    have HE : Hid ((Ending.returned (.tuple #[.int .u64 (N : Int), .bool true, .bool false]) : Ending) = .returned (.tuple #[.int .u64 ((if tickP ⟨sc, nc, si, false, hh, e, true, true, ht⟩ now = true then pnN nc now else 0 : Nat) : Int), .bool (tickP ⟨sc, nc, si, false, hh, e, true, true, ht⟩ now), .bool (!(tickW ⟨sc, nc, si, false, hh, e, true, true, ht⟩ now).2.2)]) ∧ TdK (((w.setCell ⟨p, 7, none⟩ (.bool true)).setCell ⟨p, 3, none⟩ (.int .i64 now)).setCell ⟨p, 1, none⟩ (.int .u64 (N : Int))) p (tickW ⟨sc, nc, si, false, hh, e, true, true, ht⟩ now).1 (tickN ⟨sc, nc, si, false, hh, e, true, true, ht⟩ tn now) v ∧
      But (fun k => k = p) w (((w.setCell ⟨p, 7, none⟩ (.bool true)).setCell ⟨p, 3, none⟩ (.int .i64 now)).setCell ⟨p, 1, none⟩ (.int .u64 (N : Int)))) := by
     unfold tickN
     rw [HN.out, HT.out, if_pos rfl, if_pos rfl, ← hN]
     exact ⟨rfl, Bk.set_ (Bk.set_ (Bk.set_ HK.out 7 _) 3 _) 1 _, (((But.refl (fun k => k = p) w).set_ (.inl rfl) 7 none _).set_ (.inl rfl) 3 none _).set_ (.inl rfl) 1 none _⟩
    clear h120 hN HN HT
    have hW : Calls Tryd.prog 18 #[.pointer (some ⟨p, 0, none⟩), .int .i64 now] w fun r w' => r = .returned (.tuple #[.int .u64 (N : Int), .bool true, .bool false]) ∧ w' = (((w.setCell ⟨p, 7, none⟩ (.bool true)).setCell ⟨p, 3, none⟩ (.int .i64 now)).setCell ⟨p, 1, none⟩ (.int .u64 (N : Int))) := by
     clear HR HE
     go_enter Tryd.func18, Tryd.ntmps18
     go_wp2_with fail
     go_ret3
     exact ⟨rfl, rfl⟩
    exact hW.mono (by rintro r w' ⟨rfl, rfl⟩; exact HE.out)
  ·have HN : Hid (tickP ⟨sc, nc, si, true, hh, e, true, true, ht⟩ now = false) := by show _ = _; simp [tickP]
   by_cases h60 : (60 : Int) ≤ d
   ·have q : decide ((60 : Int) ≤ d) = true := decide_eq_true h60
    have HT : Hid ((tickW ⟨sc, nc, si, true, hh, e, true, true, ht⟩ now).2.2 = !true) := by
     show decide (now - si < 60) = !true
     rw [← HD.out]
     exact decide_eq_false (by omega)
    clear h60
    have hW : Calls Tryd.prog 18 #[.pointer (some ⟨p, 0, none⟩), .int .i64 now] w fun r w' => r = .returned (.tuple #[.int .u64 0, .bool false, .bool true]) ∧ w' = w.drew := by
     clear HR HN HT
     go_enter Tryd.func18, Tryd.ntmps18
     go_upto_region 4 with fail
     go_still_tail 9, (by kernel_rfl)
     change wpList _ _ _ _ _ w.drew
     go_wp2_with fail
     go_ret3
     exact ⟨rfl, rfl⟩
    exact hW.mono (by rintro r w' ⟨rfl, rfl⟩; exact HR.out _ _ HN.out HT.out rfl HB0.out.2 HKD.out)
   ·have q : decide ((60 : Int) ≤ d) = false := decide_eq_false h60
    have HT : Hid ((tickW ⟨sc, nc, si, true, hh, e, true, true, ht⟩ now).2.2 = !false) := by
     show decide (now - si < 60) = !false
     rw [← HD.out]
     exact decide_eq_true (by omega)
    clear h60
    have hW : Calls Tryd.prog 18 #[.pointer (some ⟨p, 0, none⟩), .int .i64 now] w fun r w' => r = .returned (.tuple #[.int .u64 0, .bool false, .bool false]) ∧ w' = w.drew := by
     clear HR HN HT
     go_enter Tryd.func18, Tryd.ntmps18
     go_upto_region 4 with fail
     go_still_tail 9, (by kernel_rfl)
     change wpList _ _ _ _ _ w.drew
     go_wp2_with fail
     go_ret3
     exact ⟨rfl, rfl⟩
    exact hW.mono (by rintro r w' ⟨rfl, rfl⟩; exact HR.out _ _ HN.out HT.out rfl HB0.out.2 HKD.out)
end Go.Proofs.YtkpffjcdalclmaaDoor
