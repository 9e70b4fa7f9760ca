/- Package ban: Ban. -/
import Derived.Test.YtkpffjcdalclmaaDoorZBanD
namespace Go.Proofs.YtkpffjcdalclmaaDoor
open Go.RowKit
set_option linter.unusedVariables false
set_option linter.unusedSimpArgs false
set_option maxRecDepth 100000
theorem wpList_appG {ops : Array Oper} {rest : List Oper} {o : Oper} {a : Act} {w W : World} {Q : Exit → Act → World → Prop} {v1 v2 v : Value} (t : TypeId) (hg : o.guard = none) (s x : Operand)
    (hop : o.op = Op.call { callee := Callee.builtin Builtin.append, args := #[s, x], argTypes := #[t, t] }) (hty : o.type = t) (hs : a.eval s = v1) (hx : a.eval x = v2)
    (hrun : (Builtin.append_ #[t, t] t #[v1, v2]).run Tryd.prog w = .ok v W) (hK : wpList Tryd.prog ops Q rest (a.put o.dst v) W) : wpList Tryd.prog ops Q (o :: rest) a w := by
  refine wpList_plain hg fun K hK' => ?_
  unfold Oper.wp
  simp [execOp, hop, resolve, invoke, builtin, hs, hx, hty, hrun, Result.andThen]
  exact hK' _ _ hK
set_option maxHeartbeats 2000000 in
theorem ban_any (T : Nat) (v : Value) (lo : Nat) (L : List BanM) (a u : Int) (w : World) (h : Tab w T v lo L) (hlo : lo ≤ w.heap.size) (hlen : L.length ≤ 32) :
    Calls Tryd.prog 30 #[.pointer (some ⟨T, 0, none⟩), .int .i64 a, .int .i64 u] w fun e w' => Turned T v lo (banF L a u) w e w' := by
  have hi := find_any T v lo L a w h
  obtain ⟨R, hR⟩ : ∃ R, R = banF L a u := ⟨_, rfl⟩
  rw [← hR]
  have HR := Lib.hid hR
  have H := Lib.hid h
  have HLEN := Lib.hid hlen
  have hvs := h.M.slice
  clear h hR hlen
  go_enter Tryd.func30, Tryd.ntmps30
  go_wp2_with fail
  refine hi.mono ?_
  rintro e w1 ⟨⟨i, rfl, hix⟩, hb1⟩
  have H1 := Lib.hid (H.out.keep hb1)
  have HB1 := Lib.hid hb1
  rcases hix.find with ⟨rfl, hn⟩ | ⟨k, x, rfl, hx, hf, hp, hb⟩
  · have HNN := Lib.hid hn
    clear hix hn hi hb1
    have hne : ¬ slb v w1.heap.size := fun hs => by
      have := (H1.out.M.slb_lo hs).2.1
      omega
    have c0 := H1.out.G.cell 0
    have z0 := H1.out.G.lt
    have hB2 : Below w1.heap.size w1 (w1.alloc (.cells #[.int .i64 a, .int .i64 u] 114)) := (Below.refl _ _).alloc (Nat.le_refl _) _
    have H2 := Lib.hid (H1.out.keep hB2)
    have K2 : Bk (w1.alloc (.cells #[.int .i64 a, .int .i64 u] 114)) w1.heap.size 114 (banR.c ⟨a, u⟩).toArray := Bk.new _ _ _
    obtain ⟨v', W, hrun, hM, hBut, hSl⟩ := appB banR_ok L [⟨a, u⟩] v (.slice (some ⟨w1.heap.size, 0, none⟩) 1 1) lo (w1.alloc (.cells #[.int .i64 a, .int .i64 u] 114)) H2.out.M (Nat.le_trans (Nat.le_trans hlo HB1.out.size) hB2.size) (one_rowR banR_ok K2) (by have := HLEN.out; simp; omega)
    have G3 := hBut.keep H2.out.G H2.out.apart
    have f3 := G3.frozen 0
    have c3 := G3.cell 0
    have z3 := G3.lt
    have HM3 := Lib.hid hM
    have HBut := Lib.hid (((But.of (S := slb v) HB1.out).step hB2).trans hBut (fun k _ h => h))
    have HSl := Lib.hid hSl
    have HG3 := Lib.hid G3
    change (Builtin.append_ #[76, 76] 76 _).run _ _ = _ at hrun
    clear hM hBut hSl G3 K2 hne
    obtain ⟨s, c, rfl⟩ := hvs
    obtain ⟨s', c', rfl⟩ := HM3.out.slice
    have hmf := mkf
    have H4 : Hid (Tab (W.setCell ⟨T, 0, none⟩ (.slice s' (L.length + 1) c')) T (.slice s' (L.length + 1) c') lo (L ++ [⟨a, u⟩])) := by
      have hM := HM3.out
      have e : (L ++ [(⟨a, u⟩ : BanM)]).length = L.length + 1 := by simp
      rw [e] at hM
      exact ⟨HG3.out.set_ 0 _, hM.but_ (S := fun k => k = T) ((But.refl (fun k => k = T) _).set_ (g := T) (.inl rfl) 0 none _) (fun k hk e => by
        have e : k = T := e
        subst e
        exact (hM.apart HG3.out tab_ne) hk)⟩
    have HB4 : Hid (But (fun k => k = T ∨ slb (.slice s L.length c) k) w (W.setCell ⟨T, 0, none⟩ (.slice s' (L.length + 1) c'))) :=
      (HBut.out.mono (S' := fun k => k = T ∨ slb (.slice s L.length c) k) (fun k _ h => .inr h)).set_ (g := T) (.inl (.inl rfl)) 0 none _
    have HS4 : Hid (∀ k, slb (.slice s' (L.length + 1) c') k → slb (.slice s L.length c) k ∨ w.heap.size ≤ k) := by
      show ∀ _, _
      intro k hk
      have e : (L ++ [(⟨a, u⟩ : BanM)]).length = L.length + 1 := by simp
      rw [← e] at hk
      rcases HSl.out k hk with h | h
      · exact .inl h
      · exact .inr (Nat.le_trans (Nat.le_trans HB1.out.size hB2.size) h)
    have HLO : Hid (w.heap.size ≤ (W.setCell ⟨T, 0, none⟩ (.slice s' (L.length + 1) c')).heap.size) := HB4.out.size
    by_cases h32 : L.length < 32
    · have d32 : decide ((32 : Int) < (L.length : Int) + 1) = false := decide_eq_false (by omega)
      have hr : R = L ++ [⟨a, u⟩] := by rw [HR.out]; unfold banF; rw [HNN.out, if_neg (by decide), if_pos h32]
      have HRR := Lib.hid hr
      clear h32 hr hB2
      go_wp2_with (at_builtin; refine wpList_appG 76 rfl _ _ rfl rfl rfl rfl hrun ?_)
      go_end0
      exact ⟨rfl, _, by rw [HRR.out]; exact H4.out, HB4.out, HS4.out⟩
    · have d32 : decide ((32 : Int) < (L.length : Int) + 1) = true := decide_eq_true (by omega)
      obtain ⟨y, r, hyr⟩ : ∃ y r, L ++ [(⟨a, u⟩ : BanM)] = y :: r := by
        cases L with
        | nil => exact ⟨_, _, rfl⟩
        | cons y r => exact ⟨_, _, rfl⟩
      have hr : R = (y :: r).filter (fun x => !isA (minL y r).addr x) := by rw [HR.out]; unfold banF; rw [HNN.out, if_neg (by decide), if_neg h32, hyr]; rfl
      have HRR := Lib.hid hr
      have H4' : Hid (Tab (W.setCell ⟨T, 0, none⟩ (.slice s' (L.length + 1) c')) T (.slice s' (L.length + 1) c') lo (y :: r)) := by rw [← hyr]; exact H4.out
      have hmin := min_any y r _ _ (H4'.out.M.rows banR_ok)
      obtain ⟨m, hm⟩ : ∃ m, m = minL y r := ⟨_, rfl⟩
      rw [← hm] at hmin hr
      have HRR := Lib.hid hr
      obtain ⟨ma, mt⟩ := m
      unfold bnV bnL at hmin
      simp only [] at hmin
      clear h32 hr hB2 hyr hm
      go_wp2_with (at_builtin; refine wpList_appG 76 rfl _ _ rfl rfl rfl rfl hrun ?_)
      refine hmin.mono ?_
      rintro e w5 ⟨rfl, hb5⟩
      have H5 := H4'.out.keep hb5
      have hB6 : Below w5.heap.size w5 (w5.alloc (.cells #[.int .i64 ma, .int .i64 mt] 114)) := (Below.refl _ _).alloc (Nat.le_refl _) _
      have K6 : Bk (w5.alloc (.cells #[.int .i64 ma, .int .i64 mt] 114)) w5.heap.size 114 #[.int .i64 ma, .int .i64 mt] := Bk.new _ _ _
      have hne : ¬ slb (.slice s' (L.length + 1) c') w5.heap.size := fun hs => by
        have := (H5.M.slb_lo hs).2.1
        omega
      have hp : PredB (slb (.slice s' (L.length + 1) c')) 50 #[.pointer (some ⟨w5.heap.size, 0, none⟩)] (isA ma) (w5.alloc (.cells #[.int .i64 ma, .int .i64 mt] 114)) := fun W' x hb =>
        ban2_any x w5.heap.size ma W' ((hb.keep K6 hne).cell 0) (hb.keep K6 hne).lt
      have hlv := leave_any _ _ _ eg_ban2 T _ lo _ _ (H5.keep hB6) hp
      have HB5 : Hid (But (fun k => k = T ∨ slb (.slice s L.length c) k) w (w5.alloc (.cells #[.int .i64 ma, .int .i64 mt] 114))) := (HB4.out.step hb5).step hB6
      clear hmin hb5 hB6 K6 hne hp H5
      go_wp2_with fail
      refine hlv.mono ?_
      rintro e w7 ⟨rfl, v7, hT7, hB7, hS7⟩
      have HT7 := Lib.hid hT7
      have HB7 := Lib.hid hB7
      have HS7 := Lib.hid hS7
      clear hlv hT7 hB7 hS7
      go_wp2_with fail
      go_end0
      refine ⟨rfl, v7, by rw [HRR.out]; exact HT7.out, HB5.out.trans HB7.out (fun k hk h => ?_), fun k hk => ?_⟩
      · rcases h with h | h
        · exact .inl h
        · rcases HS4.out k h with h | h
          · exact .inr h
          · omega
      · rcases HS7.out k hk with h | h
        · exact HS4.out k h
        · exact .inr (Nat.le_trans HB5.out.size h)
  · have hr : R = L.set k ⟨x.addr, max x.til u⟩ := by rw [HR.out]; unfold banF; rw [hf, if_pos (by rfl)]; exact raise_set a u L k x hx hp hb
    have HRR := Lib.hid hr
    have HX := Lib.hid hx
    have hkl := (List.getElem?_eq_some_iff.1 hx).1
    obtain ⟨b, cc, z, hv, hlo2, hcc, hcz, K⟩ : ∃ b cc z, v = .slice (some ⟨b, 0, none⟩) L.length cc ∧ lo ≤ b ∧ cc < 9223372036854775808 ∧ cc = L.length + z ∧ RowB w1 b (L ++ List.replicate z banR.z) := by
      rcases H1.out.M with ⟨e, e2⟩ | ⟨T, cap, z, e, hc, hc2, hT, K⟩
      · rw [e2] at hkl
        simp at hkl
      · exact ⟨T, cap, z, e, hT, hc2, hc, K⟩
    subst hv
    subst hcz
    have hlen := HLEN.out
    have hx' : (L ++ List.replicate z banR.z)[k]? = some x := by rw [List.getElem?_append_left hkl]; exact hx
    obtain ⟨r0, r1⟩ := K.get hx'
    have f1 := Bk.frozen K (k * 2 + 1)
    have hbl := Bk.lt K
    have c0 := H1.out.G.cell 0
    have z0 := H1.out.G.lt
    have d0 : decide ((0 : Int) ≤ (k : Int)) = true := decide_eq_true (by omega)
    obtain ⟨xa, xt⟩ := x
    change w1.cell? _ = some (.int .i64 xt) at r1
    clear hix hi hb1 hr hf hp hb hx hx' hlen K r0 hvs
    go_upto_region 2 with fail
    go_still_tail 17, (by kernel_rfl)
    change wpList _ _ _ _ _ w1.drew
    go_wp2_with fail
    all_goals (try simp only [Exit.inBlock, Exit.then])
    all_goals refine bodyPost_ret (results_none rfl _ _ _) rfl ?_
    · have e : max xt u = u := by omega
      rw [e] at HRR
      refine ⟨rfl, _, by rw [HRR.out]; exact (H1.out.set HX.out u).keep (Below.refl _ _).drew, ((But.of (S := fun k => k = T ∨ slb (.slice (some ⟨b, 0, none⟩) L.length (L.length + z)) k) HB1.out).set_ (g := b) (.inl (.inr (slb_mk _ _ _ _))) _ none _).drew, fun k hk => .inl hk⟩
    · have e : max xt u = xt := by omega
      rw [e] at HRR
      refine ⟨rfl, _, by rw [HRR.out]; exact (H1.out.set HX.out xt).keep (Below.refl _ _).drew, ((But.of (S := fun k => k = T ∨ slb (.slice (some ⟨b, 0, none⟩) L.length (L.length + z)) k) HB1.out).set_ (g := b) (.inl (.inr (slb_mk _ _ _ _))) _ none _).drew, fun k hk => .inl hk⟩
end Go.Proofs.YtkpffjcdalclmaaDoor
