/-
  PeerHonest: what holds between two steps.
-/
import Derived.Test.YtkpffjcdalclmaaDoorHoB
namespace Go.Proofs.YtkpffjcdalclmaaDoor
open Go.RowKit
set_option linter.unusedVariables false
set_option linter.unusedSimpArgs false
set_option maxRecDepth 100000
/-- A peer, and what is still to be said to it: who hears all of that is never blamed, and waits for nothing. -/
structure HoS (wr : World) (p lo : Nat) (now : Int) (m : PeM) (vp v : Value) (X : List Nat) : Prop where
  kp : PeK wr p m vp
  mp : Mine wr lo vp m.h
  sc : ScOk m
  fs : FsOk ⟨m.h, m.e, []⟩
  t : MineO wr lo v X
  xb : ∀ x ∈ X, x < 256
  ap : ∀ k, slb vp k → ¬ slb v k
  g : HoI (hearM m X).1 ∧ (hearM m X).1.wt = false ∧ (hearM m X).1.nc = 3 ∧ 0 ≤ (hearM m X).1.si ∧ (hearM m X).1.si ≤ now
theorem HoS.keep {wr w2 : World} {p lo : Nat} {now : Int} {m : PeM} {vp v : Value} {X : List Nat} (I : HoS wr p lo now m vp v X) (hb : Below wr.heap.size wr w2) : HoS w2 p lo now m vp v X :=
  ⟨I.kp.keep hb, I.mp.keep hb, I.sc, I.fs, I.t.keep hb, I.xb, I.ap, I.g⟩
theorem HoS.np {wr : World} {p lo : Nat} {now : Int} {m : PeM} {vp v : Value} {X : List Nat} (I : HoS wr p lo now m vp v X) : ¬ slb v p ∧ ¬ slb vp p := by
  refine ⟨fun h => ?_, fun h => ?_⟩
  · obtain ⟨_, _, ys, K⟩ := I.t.slb_lo h; exact absurd (K.type_eq I.kp) (by decide)
  · obtain ⟨_, _, ys, K⟩ := I.mp.slb_lo h; exact absurd (K.type_eq I.kp) (by decide)
theorem hearM_nil {m : PeM} (h : HoI m) : hearM m [] = (m, [], []) := by
  obtain ⟨sc, nc, si, wt, hh, e, kn, rd, ht⟩ := m
  obtain ⟨h1, h2, h3, h4⟩ := h
  simp only at h1 h2
  subst h1
  subst h2
  rw [hearM_of (⟨sc, nc, si, wt, [], 0, kn, rd, ht⟩ : PeM) [] ⟨[], 0, []⟩ rfl]
  simp only [ne_eq, not_true_eq_false, if_false, hearF]
/-- A message more is to be said. -/
theorem HoS.add {w0 wr W : World} {p lo B : Nat} {now : Int} {m : PeM} {vp v v' : Value} {X : List Nat} (I : HoS wr p lo now m vp v X) (x : MsI) (hV : MsV w0 B x.1) (hm : MineO W lo v' (X ++ hoB x)) (hb : But (slb v) wr W) (hs : ∀ k, slb v' k → slb v k ∨ wr.heap.size ≤ k) :
    HoS W p lo now m vp v' (X ++ hoB x) := by
  have h1 := ho_one I.g.1 x hV
  have e : (hearM m (X ++ hoB x)).1 = (hearM (hearM m X).1 (hoB x)).1 := by rw [hearM_app I.sc]
  exact {
    kp := hb.keep I.kp I.np.1
    mp := I.mp.but hb (fun k hk h => I.ap k hk h)
    sc := I.sc
    fs := I.fs
    t := hm
    xb := fun y hy => by
      rcases List.mem_append.1 hy with h | h
      · exact I.xb y h
      · unfold hoB at h
        split at h
        · exact encB_lt hV y h
        · cases h
    ap := fun k hk h => by
      rcases hs k h with h2 | h2
      · exact I.ap k hk h2
      · have := (I.mp.slb_lo hk).2.1; omega
    g := by
      rw [e]
      refine ⟨h1.1, ?_, h1.2.1.trans I.g.2.2.1, by rw [h1.2.2.1]; exact I.g.2.2.2.1, by rw [h1.2.2.1]; exact I.g.2.2.2.2⟩
      cases hw : (hearM (hearM m X).1 (hoB x)).1.wt
      · rfl
      · have := h1.2.2.2 hw
        rw [I.g.2.1] at this
        cases this }
theorem slb_dropA {T o cap n k q r : Nat} (h : slb (.slice (dropA ⟨T, o, none⟩ cap n) q r) k) : slb (.slice (some ⟨T, o, none⟩) q r) k := by
  unfold dropA at h
  split at h
  · exact h
  · rw [Go.WideShapes.add_plain] at h
    have e := slb_some h
    exact ⟨_, _, _, rfl, e.symm ▸ rfl⟩
/-- A piece is heard. -/
theorem HoS.piece {wr w' : World} {p lo T o cap n nn : Nat} {now : Int} {m : PeM} {vp : Value} {X : List Nat} {r : Ending} (I : HoS wr p lo now m vp (.slice (some ⟨T, o, none⟩) n cap) X) (h : HearP wr w' p lo vp m (X.take nn) r) (hn : nn ≤ X.length) :
    ∃ vp', HoS w' p lo now (hearM m (X.take nn)).1 vp' (.slice (dropA ⟨T, o, none⟩ cap nn) (n - nn) (cap - nn)) (X.drop nn) ∧ But (fun k => k = p ∨ slb vp k) wr w' := by
  obtain ⟨vp', vs, va, S, A, e1, K1, M1, hS, hA, kS, kA, b1, s1⟩ := h
  have hh := hearM_h m (X.take nn)
  have hfs := feedL_fs (X.take nn) I.fs (fun x hx => I.xb x (List.mem_of_mem_take hx))
  have nt : ∀ k, slb (.slice (some ⟨T, o, none⟩) n cap) k → ¬ (k = p ∨ slb vp k) := fun k hk h => h.elim (fun e => I.np.1 (e ▸ hk)) (fun e => I.ap k e hk)
  refine ⟨vp', ?_, b1⟩
  exact {
    kp := K1
    mp := M1
    sc := (hearM_sc _ I.sc).1
    fs := by rw [hh.1, hh.2.1]; exact ⟨hfs.1, hfs.2.1, (by intro x hx; cases hx)⟩
    t := (I.t.but b1 nt).rest nn hn
    xb := fun x hx => I.xb x (List.mem_of_mem_drop hx)
    ap := fun k hk h => by
      have h2 := slb_dropA h
      have h3 : slb (.slice (some ⟨T, o, none⟩) n cap) k := ⟨_, _, _, rfl, (slb_some h2).symm ▸ rfl⟩
      rcases s1 k hk with h4 | h4
      · exact I.ap k h4 h3
      · have := (I.t.slb_lo h3).2.1; omega
    g := by
      have e : hearM m X = hearM m (X.take nn ++ X.drop nn) := by rw [List.take_append_drop]
      have h := I.g
      rw [e, hearM_app I.sc] at h
      exact h }
theorem pong_wt {m : PeM} (h : HoI m) (N : Nat) (hN : N < 18446744073709551616) (hc : curI m = (N : Int)) : HoI (hearM m (encL (kindL 10) (toL N 8))).1 ∧ (hearM m (encL (kindL 10) (toL N 8))).1.wt = false ∧ (hearM m (encL (kindL 10) (toL N 8))).1.nc = m.nc ∧ (hearM m (encL (kindL 10) (toL N 8))).1.si = m.si := by
  rw [pong_hear m N hN h.1 h.2.1 h.2.2.2 (by rw [h.2.2.1]; decide)]
  have e : ({ m with h := [], e := 0 } : PeM) = m := by
    obtain ⟨sc, nc, si, wt, hh, e, kn, rd, ht⟩ := m
    obtain ⟨h1, h2, h3, h4⟩ := h
    simp only at h1 h2
    subst h1
    subst h2
    rfl
  simp only [e]
  unfold ansF
  rw [if_pos (by rw [beq_iff_eq]; exact hc.symm)]
  exact ⟨h, rfl, rfl, rfl⟩
/-- All is said, and it is later; there is no ping. -/
theorem HoS.calm {wr w' : World} {p lo : Nat} {now : Int} {m : PeM} {vp v : Value} (I : HoS wr p lo now m vp v []) (hK : PeK w' p m vp) (hb : But (fun k => k = p) wr w') : HoS w' p lo now m vp v [] :=
  ⟨hK, I.mp.but hb (fun k hk e => I.np.2 (e ▸ hk)), I.sc, I.fs, I.t.but hb (fun k hk e => I.np.1 (e ▸ hk)), I.xb, I.ap, I.g⟩
theorem HoS.start {wr : World} {p lo : Nat} {v vp : Value} (hK : PeK wr p (pe0 3 0) vp) (hm : Mine wr lo vp []) (ht : Mine wr lo v (helB 4 0)) (ha : ∀ k, slb vp k → ¬ slb v k) : HoS wr p lo 0 (pe0 3 0) vp v (helB 4 0) where
  kp := hK
  mp := hm
  sc := pe0_sc 3 0
  fs := pe0_fs 3 0
  t := .of ht
  xb := helB_lt 4 0
  ap := ha
  g := by
    rw [hear_hello 3 4 0 0 hel_d40.1 hel_d40.2.1 hel_d40.2.2 (by decide)]
    exact ⟨⟨rfl, rfl, rfl, rfl⟩, rfl, rfl, Int.le_refl _, Int.le_refl _⟩
theorem HoS.later {wr : World} {p lo : Nat} {now n2 : Int} {m : PeM} {vp v : Value} {X : List Nat} (I : HoS wr p lo now m vp v X) (h : now ≤ n2) : HoS wr p lo n2 m vp v X :=
  ⟨I.kp, I.mp, I.sc, I.fs, I.t, I.xb, I.ap, I.g.1, I.g.2.1, I.g.2.2.1, I.g.2.2.2.1, Int.le_trans I.g.2.2.2.2 h⟩
/-- The end of what is said: the peer is good. -/
theorem HoS.good {wr : World} {p lo : Nat} {now : Int} {m : PeM} {vp v : Value} (I : HoS wr p lo now m vp v []) (hI : HoI m) : m.wt = false ∧ m.nc = 3 ∧ 0 ≤ m.si ∧ m.si ≤ now := by
  have h := I.g
  rw [hearM_nil hI] at h
  exact h.2
theorem nil_wt (m : PeM) : (hearM m []).1.rd = m.rd ∧ (hearM m []).1.wt = m.wt ∧ (hearM m []).1.nc = m.nc ∧ (hearM m []).1.si = m.si ∧ (hearM m []).1.h = m.h ∧ (hearM m []).1.e = m.e := by
  unfold hearM
  simp only
  have e : feedL ⟨m.h, m.e, []⟩ [] = ⟨m.h, m.e, []⟩ := rfl
  rw [e]
  simp only [hearF]
  split <;> exact ⟨rfl, rfl, rfl, rfl, rfl, rfl⟩
/-- Who has heard all is good. -/
theorem HoS.fine {wr : World} {p lo : Nat} {now : Int} {m : PeM} {vp v : Value} (I : HoS wr p lo now m vp v []) : HoI m := by
  have h := I.g.1
  have h2 := nil_wt m
  have he : m.e = 0 := h2.2.2.2.2.2.symm.trans h.2.1
  have e : (hearM m []).1.sc = m.sc := by
    unfold hearM
    simp only
    have e : feedL ⟨m.h, m.e, []⟩ [] = ⟨m.h, m.e, []⟩ := rfl
    rw [e]
    simp only [hearF]
    rw [if_neg (by simp [he])]
  exact ⟨h2.2.2.2.2.1.symm.trans h.1, he, e.symm.trans h.2.2.1, h2.1.symm.trans h.2.2.2⟩
/-- A ping is answered: its pong is to be said. -/
theorem HoS.pinged {wr w1 W : World} {p lo : Nat} {now : Int} {m : PeM} {vp v v' : Value} (I : HoS wr p lo now m vp v []) (h0 : 0 ≤ now ∧ now ≤ 1000000) (hK : PeK w1 p { m with si := now, wt := true } vp) (hb : But (fun k => k = p) wr w1)
    (hm : MineO W lo v' (encL (kindL 10) (toL (3 + now.toNat) 8))) (hb2 : But (slb v) w1 W) (hs : ∀ k, slb v' k → slb v k ∨ w1.heap.size ≤ k) : HoS W p lo now { m with si := now, wt := true } vp v' (encL (kindL 10) (toL (3 + now.toNat) 8)) := by
  have hI := I.fine
  have hg := I.good hI
  have hI2 : HoI { m with si := now, wt := true } := hI
  have hc : curI { m with si := now, wt := true } = ((3 + now.toNat : Nat) : Int) := by
    have h := curI_of { m with si := now, wt := true } h0.1 (by show (m.nc : Int) + now < _; rw [hg.2.1]; omega)
    rw [h]
    show ((m.nc + now.toNat : Nat) : Int) = _
    rw [hg.2.1]
  have hp := pong_wt hI2 (3 + now.toNat) (by omega) hc
  have hM1 : Mine w1 lo vp m.h := I.mp.but hb (fun k hk e => I.np.2 (e ▸ hk))
  have hs1 := hb.size
  exact {
    kp := hb2.keep hK I.np.1
    mp := hM1.but hb2 (fun k hk h => I.ap k hk h)
    sc := I.sc
    fs := I.fs
    t := hm
    xb := encL_lt _ _ (by decide) (toL_lt 8 _)
    ap := fun k hk h => by
      rcases hs k h with h2 | h2
      · exact I.ap k hk h2
      · have := (I.mp.slb_lo hk).2.1; omega
    g := ⟨hp.1, hp.2.1, hp.2.2.1.trans hg.2.1, by rw [hp.2.2.2]; exact h0.1, by rw [hp.2.2.2]; exact Int.le_refl _⟩ }
end Go.Proofs.YtkpffjcdalclmaaDoor
