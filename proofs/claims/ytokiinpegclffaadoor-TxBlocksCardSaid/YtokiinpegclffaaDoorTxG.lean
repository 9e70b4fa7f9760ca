/-
  The contract of package tx's Read.
-/
import Derived.Test.YtokiinpegclffaaDoorTxF
import Derived.Laws.ResultCell
namespace Go.Proofs.YtokiinpegclffaaDoor
open Go.RowKit
set_option linter.unusedVariables false
set_option linter.unusedSimpArgs false
set_option maxRecDepth 100000

theorem tx_ret {P : Func} {a : Act} {W : World} {g nm k : Nat} {A : Array Value} {v : Value} (hp : P.results = #[ResultVar.cell nm 25, ResultVar.tmp k]) (hd : a.defers = []) (hv : a.tmps.getD nm undef = .pointer (some ⟨g, 0, none⟩)) (hk : a.tmps.getD k undef = v) (hs : A.size = 2) (hR : Bk W g 25 A) {K : Ending → World → Prop} (hK : K (.returned (.tuple #[.agg A, v])) W) :
    bodyPost Tryd.prog P K Exit.ret a W := by
  have h1 := run_loadVar_row (P := Tryd.prog) W g 25 25 A (0, 0) _ hR Tryd.underlying25 rfl (by rw [hs]; exact tx_infos)
  refine bodyPost_ret (v := .tuple #[.agg A, v]) ?_ hd hK
  rw [results_cell_tmp hp, hv, hk]
  show ((asAddr (.pointer (some ⟨g, 0, none⟩))).run Tryd.prog W).andThen _ = _
  simp only [asAddr, Sem.run_pure, Result.andThen_ok, h1]
theorem MineT.but' {W W' : World} {lo g : Nat} {cs : Array Value} {t : TxM} (h : MineT W lo t) (hb : But (fun k => k = g) W W') (K : Bk W g 25 cs) : MineT W' lo t := ⟨h.1.but' hb K ne_in_tx, fun x hx => (h.2.1 x hx).but' hb K ht_tx, h.2.2.but' hb K ne_out_tx⟩
theorem MineT.mono {W : World} {lo lo' : Nat} {t : TxM} (h : MineT W lo t) (hl : lo' ≤ lo) : MineT W lo' t := by
  refine ⟨?_, fun x hx => (h.2.1 x hx).mono hl, ?_⟩
  · rcases h.1 with e | ⟨T, cap, z, e, hc, hc2, hT, K⟩
    · exact .inl e
    · exact .inr ⟨T, cap, z, e, hc, hc2, by omega, K⟩
  · rcases h.2.2 with e | ⟨T, cap, z, e, hc, hc2, hT, K⟩
    · exact .inl e
    · exact .inr ⟨T, cap, z, e, hc, hc2, by omega, K⟩
def tx0 : TxM := ⟨none, 0, [], none, 0, []⟩
set_option maxHeartbeats 4000000 in
theorem tread_any (v : Value) (xs : List Nat) (w : World) (hb : BsV w w.heap.size v xs) (hl : xs.length ≤ 1000000) (hx : ∀ x ∈ xs, x < 256) :
    Calls Tryd.prog 21 #[v] w fun r w' => ∃ t, r = .returned (.tuple #[.agg #[t.iv, t.ov], .int .i64 ((rdEnd (nxSt (xs, 0)) : Nat) : Int)]) ∧ Below w.heap.size w w' ∧ (rdEnd (nxSt (xs, 0)) = 0 → NextSays (xs, 0) t ∧ MineT w' w.heap.size t) ∧ (rdEnd (nxSt (xs, 0)) ≠ 0 → t = tx0) := by
  have HX := Lib.hid hx
  have HB := Lib.hid hb
  have HI : Hid (StI (xs, 0)) := ⟨hl, by simp only; omega, hx, fun h => absurd rfl h⟩
  obtain ⟨e0, he⟩ : ∃ e0, e0 = rdEnd (nxSt (xs, 0)) := ⟨_, rfl⟩
  have HNX : Hid (∀ W p v1, RdS W p v1 (xs, 0) → Calls Tryd.prog 53 #[.pointer (some ⟨p, 0, none⟩)] W fun r w' => ∃ t, r = .returned (.agg #[t.iv, t.ov]) ∧ NextSays (xs, 0) t ∧ MineT w' W.heap.size t ∧ ∃ v', Took p v1 (nxSt (xs, 0)) W w' v') := fun W p v1 h => tnext_any p v1 _ W h HI.out
  have HEN : Hid (∀ W p v1, RdS W p v1 (nxSt (xs, 0)) → Calls Tryd.prog 50 #[.pointer (some ⟨p, 0, none⟩)] W fun r w' => r = .returned (.int .i64 (e0 : Nat)) ∧ w' = W) := fun W p v1 h => by rw [he]; exact rend_any p v1 _ W h
  have HRD : Hid (∀ W, BsV W W.heap.size v xs → Calls Tryd.prog 46 #[v] W fun e w' => ∃ p v', e = .returned (.pointer (some ⟨p, 0, none⟩)) ∧ Rd w' p v' xs 0 ∧ Below W.heap.size W w' ∧ W.heap.size ≤ p ∧ ∀ k, slb v' k → W.heap.size ≤ k) := fun W h => read_any xs v W h hl hx
  rw [← he]
  clear hb hl hx he
  go_enter Tryd.func21, Tryd.ntmps21
  go_upto_region 1 with fail
  refine wp_any (fun W => Below w.heap.size w W ∧ Bk W w.heap.size 25 #[.slice none 0 0, .slice none 0 0]) ⟨(Below.refl _ _).alloc (Nat.le_refl _) _, Bk.new _ _ _⟩ ?_
  obtain ⟨g2, hg2⟩ : ∃ g2, g2 = w.heap.size := ⟨_, rfl⟩
  have HG := Lib.hid hg2
  rw [← hg2]
  clear hg2
  rintro W ⟨hW, K2⟩
  have HW : Hid (Below w.heap.size w W) := by rw [← HG.out]; exact hW
  have HB1 := Lib.hid ((HB.out.keep HW.out (Nat.le_refl _)).mono HW.out.size)
  clear hW
  go_wp2_with fail
  refine (HRD.out W HB1.out).mono ?_
  rintro e1 W1 ⟨p, v1, rfl, R1, B1, hp, hv1⟩
  have hn2 : ¬ g2 = p := by have := K2.lt; omega
  have HP : Hid (w.heap.size ≤ p) := Nat.le_trans HW.out.size hp
  have K2 := K2.keep B1
  have HW1 := Lib.hid (below_step HW.out HW.out.size B1)
  have HR1 : Hid (RdS W1 p v1 (xs, 0)) := R1
  clear B1 hp hv1 R1 HB1
  go_wp2_with fail
  refine (HNX.out W1 p v1 HR1.out).mono ?_
  rintro e1 W2 ⟨t, he1, hs, MT, v2, T2⟩
  have K2 := T2.2.1.keep K2 hn2
  have HW2 := Lib.hid (HW1.out.trans (T2.2.1.below HW1.out.size (fun k hk => by have e : k = p := hk; rw [e]; exact HP.out)))
  have HR2 := Lib.hid T2.1
  have HSY := Lib.hid hs
  have HMT := Lib.hid (MT.mono HW1.out.size)
  clear MT hs T2
  obtain ⟨a, ha⟩ : ∃ a, a = t.iv := ⟨_, rfl⟩
  obtain ⟨b, hb⟩ : ∃ b, b = t.ov := ⟨_, rfl⟩
  have HAB := Lib.hid (show t.iv = a ∧ t.ov = b from ⟨ha.symm, hb.symm⟩)
  rw [← ha, ← hb] at he1
  obtain ⟨sa, na, ca, ea⟩ : ∃ s n c, a = .slice s n c := ⟨_, _, _, ha⟩
  obtain ⟨sb, nb, cb, eb⟩ : ∃ s n c, b = .slice s n c := ⟨_, _, _, hb⟩
  subst ea
  subst eb
  subst he1
  clear ha hb
  go_upto_region 3 with fail
  have hA : Below W2.heap.size W2 (W2.alloc (.cells #[.slice sa na ca, .slice sb nb cb] 25)) := (Below.refl _ _).alloc (Nat.le_refl _) _
  refine wp_any (fun W => Below w.heap.size w W ∧ Bk W g2 25 #[.slice none 0 0, .slice none 0 0] ∧ Bk W W2.heap.size 25 #[.slice sa na ca, .slice sb nb cb] ∧ RdS W p v2 (nxSt (xs, 0)) ∧ MineT W w.heap.size t) ⟨below_step HW2.out HW2.out.size hA, K2.keep hA, Bk.new _ _ _, Rd.keep HR2.out hA, HMT.out.keep hA⟩ ?_
  clear hA HR2 HMT HW1 HW2 HR1
  generalize W2.heap.size = g5 at *
  clear K2
  rintro W ⟨hW, K2, K5, R, M⟩
  have HW := Lib.hid hW
  have HR := Lib.hid R
  have HM := Lib.hid M
  have HK2 := Lib.hid K2
  have c0 := K5.cell 0
  have c1 := K5.cell 1
  have z5 := K5.lt
  have z2 := K2.lt
  have d0 := K2.cell 0
  have d1 := K2.cell 1
  have f0 := K2.frozen 0
  have f1 := K2.frozen 1
  clear hW R M K2 K5
  go_wp2_with fail
  refine (HEN.out W p v2 HR.out).mono ?_
  rintro e1 W' ⟨rfl, rfl⟩
  clear HEN
  by_cases h0 : e0 = 0
  · have hbe : (((e0 : Nat) : Int) != 0) = false := by rw [h0]; rfl
    have HZ := Lib.hid h0
    clear h0
    go_wp2_with fail
    have hb : But (fun k => k = g2) W' ((W'.setCell ⟨g2, 0, none⟩ (.slice sa na ca)).setCell ⟨g2, 1, none⟩ (.slice sb nb cb)) := But.set_ (S := fun k => k = g2) (But.set_ (S := fun k => k = g2) (But.refl _ _) (.inl rfl) 0 none _) (.inl rfl) 1 none _
    refine tx_ret (g := g2) (A := #[.slice sa na ca, .slice sb nb cb]) rfl rfl rfl rfl rfl ((HK2.out.set_ 0 _).set_ 1 _) ⟨t, ?_, ?_, fun _ => ⟨HSY.out, HM.out.but' hb HK2.out⟩, fun h => absurd HZ.out h⟩
    · rw [HAB.out.1, HAB.out.2, HZ.out]
      rfl
    · exact (HW.out.setCell (by rw [← HG.out]; exact Nat.le_refl _) _).setCell (by rw [← HG.out]; exact Nat.le_refl _) _
  · have hbe : (((e0 : Nat) : Int) != 0) = true := by simp; omega
    have HZ := Lib.hid h0
    clear h0
    go_wp2_with fail
    refine tx_ret (g := g2) (A := #[.slice none 0 0, .slice none 0 0]) rfl rfl rfl rfl rfl ((HK2.out.set_ 0 _).set_ 1 _) ⟨tx0, rfl, ?_, fun h => absurd h HZ.out, fun _ => rfl⟩
    exact (HW.out.setCell (by rw [← HG.out]; exact Nat.le_refl _) _).setCell (by rw [← HG.out]; exact Nat.le_refl _) _
end Go.Proofs.YtokiinpegclffaaDoor
