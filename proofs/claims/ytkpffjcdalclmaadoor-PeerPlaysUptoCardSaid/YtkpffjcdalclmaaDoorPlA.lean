/- The peer and the law's own peer, side by side: what holds of both between two deeds. -/
import Derived.Test.YtkpffjcdalclmaaDoorTdB
import Derived.Test.YtkpffjcdalclmaaDoorTdT
namespace Go.Proofs.YtkpffjcdalclmaaDoor
open Go.RowKit
set_option linter.unusedVariables false
set_option linter.unusedSimpArgs false
set_option maxRecDepth 100000
theorem greetF_up (m : PeM) (k : Int) (n h : Nat) (hr : m.rd = true) : (greetF m k n h).1.rd = true := by
  unfold greetF
  split
  · split <;> exact hr
  · split
    · rfl
    · exact hr
theorem hear1_up (m : PeM) (f) (hr : m.rd = true) : (hear1 m f).1.rd = true := by
  unfold hear1
  split
  · exact hr
  split
  · exact hr
  split
  · exact hr
  split
  · exact greetF_up m _ _ _ hr
  split
  · exact hr
  split
  · show (ansF m _).rd = true
    rw [(ansF_sc _ _).2.1]
    exact hr
  · exact hr
theorem hearF_up (l : List (List Nat × List Nat)) : ∀ m : PeM, m.rd = true → (hearF m l).1.rd = true := by
  induction l with
  | nil => exact fun _ h => h
  | cons f l ih => exact fun m h => ih _ (hear1_up m f h)
theorem hearM_up (m : PeM) (B : List Nat) (hr : m.rd = true) : (hearM m B).1.rd = true := by
  unfold hearM
  simp only
  have h := hearF_up (feedL ⟨m.h, m.e, []⟩ B).out { m with h := (feedL ⟨m.h, m.e, []⟩ B).h, e := (feedL ⟨m.h, m.e, []⟩ B).e } hr
  split <;> exact h
structure PlI (wr : World) (p q lo : Nat) (m : PeM) (tn : Nat) (now : Int) (vp vq : Value) : Prop where
  kp : PeK wr p m vp
  kq : TdK wr q m tn vq
  mp : Mine wr lo vp m.h
  mq : Mine wr lo vq m.h
  ap : ∀ k, slb vp k → ¬ slb vq k
  sc : ScOk m
  fs : FsOk ⟨m.h, m.e, []⟩
  td : TdI m tn
  si : 0 ≤ m.si ∧ m.si ≤ now
  s0 : m.rd = false → m.si = 0
theorem PlI.keep {wr w2 : World} {p q lo : Nat} {m : PeM} {tn : Nat} {now : Int} {vp vq : Value} (I : PlI wr p q lo m tn now vp vq) (hb : Below wr.heap.size wr w2) : PlI w2 p q lo m tn now vp vq :=
  ⟨I.kp.keep hb, I.kq.keep hb, I.mp.keep hb, I.mq.keep hb, I.ap, I.sc, I.fs, I.td, I.si, I.s0⟩
theorem PlI.later {wr : World} {p q lo : Nat} {m : PeM} {tn : Nat} {now now2 : Int} {vp vq : Value} (I : PlI wr p q lo m tn now vp vq) (h : now ≤ now2) : PlI wr p q lo m tn now2 vp vq :=
  ⟨I.kp, I.kq, I.mp, I.mq, I.ap, I.sc, I.fs, I.td, ⟨I.si.1, Int.le_trans I.si.2 h⟩, I.s0⟩
theorem PlI.qp {wr : World} {p q lo : Nat} {m : PeM} {tn : Nat} {now : Int} {vp vq : Value} (I : PlI wr p q lo m tn now vp vq) : ¬ slb vp q ∧ ¬ slb vq p ∧ ¬ slb vp p ∧ ¬ slb vq q := by
  refine ⟨fun h => ?_, fun h => ?_, fun h => ?_, fun h => ?_⟩
  · obtain ⟨_, _, ys, K⟩ := I.mp.slb_lo h; exact absurd (K.type_eq I.kq) (by decide)
  · obtain ⟨_, _, ys, K⟩ := I.mq.slb_lo h; exact absurd (K.type_eq I.kp) (by decide)
  · obtain ⟨_, _, ys, K⟩ := I.mp.slb_lo h; exact absurd (K.type_eq I.kp) (by decide)
  · obtain ⟨_, _, ys, K⟩ := I.mq.slb_lo h; exact absurd (K.type_eq I.kq) (by decide)
theorem PlI.mid {wr w1 : World} {p q lo : Nat} {m : PeM} {tn : Nat} {now : Int} {vp vq : Value} (I : PlI wr p q lo m tn now vp vq) (hpq : p ≠ q) (hbt : But (fun k => k = p ∨ slb vp k) wr w1) : TdK w1 q m tn vq ∧ Mine w1 lo vq m.h :=
  ⟨hbt.keep I.kq (fun h => h.elim (fun e => hpq e.symm) I.qp.1), I.mq.but hbt (fun k hk h => h.elim (fun e => I.qp.2.1 (e ▸ hk)) (fun e => I.ap k e hk))⟩
theorem PlI.heard {wr w1 w2 : World} {p q lo : Nat} {m : PeM} {tn : Nat} {now : Int} {vp vq : Value} {B : List Nat} {r1 r2 : Ending} (I : PlI wr p q lo m tn now vp vq) (hpq : p ≠ q) (hB : ∀ x ∈ B, x < 256) (h1 : HearP wr w1 p lo vp m B r1) (h2 : TearP tn w1 w2 q lo vq m B r2) :
    ∃ (vs va ws wa vp1 vq1 : Value) (S A S2 A2 : List MsI), r1 = .returned (.tuple #[vs, va]) ∧ r2 = .returned (.tuple #[ws, wa]) ∧ MineR msR w2 wr.heap.size vs S ∧ MineR msR w2 wr.heap.size va A ∧ MineR msR w2 wr.heap.size ws S2 ∧ MineR msR w2 wr.heap.size wa A2 ∧
      keysM S = keysM S2 ∧ keysM A = keysM A2 ∧ PlI w2 p q lo (hearM m B).1 tn now vp1 vq1 ∧ But (fun k => k = p ∨ slb vp k ∨ k = q ∨ slb vq k) wr w2 := by
  obtain ⟨vp1, vs, va, S, A, e1, K1, M1, hS, hA, kS, kA, b1, s1⟩ := h1
  obtain ⟨vq1, ws, wa, S2, A2, e2, K2, M2, hS2, hA2, kS2, kA2, b2, s2⟩ := h2
  have hsz := b1.size
  have hm := I.mid hpq b1
  have nr : ∀ k, wr.heap.size ≤ k → ¬ (k = q ∨ slb vq k) := fun k hk h => by
    rcases h with h | h
    · have := I.kq.lt; omega
    · have := (I.mq.slb_lo h).2.1; omega
  have hh := hearM_h m B
  have hfs := feedL_fs B I.fs hB
  have nv : ∀ k, slb vp1 k → ¬ slb vq k := fun k h1 h2 => by
    rcases s1 k h1 with h | h
    · exact I.ap k h h2
    · have := (I.mq.slb_lo h2).2.1; omega
  refine ⟨vs, va, ws, wa, vp1, vq1, S, A, S2, A2, e1, e2, hS.but_ b2 (fun k hk => nr k (hS.slb_lo hk).1), hA.but_ b2 (fun k hk => nr k (hA.slb_lo hk).1), hS2.mono hsz, hA2.mono hsz, kS.trans kS2.symm, kA.trans kA2.symm, ?_, ?_⟩
  · exact {
      kp := b2.keep K1 (fun h => h.elim (fun e => hpq e) I.qp.2.1)
      kq := K2
      mp := M1.but b2 (fun k hk h => h.elim (fun e => by
        obtain ⟨_, _, ys, K⟩ := M1.slb_lo hk
        rw [e] at K
        exact absurd (K.type_eq hm.1) (by decide)) (nv k hk))
      mq := M2
      ap := fun k h1 h2 => by
        rcases s2 k h2 with h | h
        · exact nv k h1 h
        · have := (M1.slb_lo h1).2.1; omega
      sc := (hearM_sc B I.sc).1
      fs := by rw [hh.1, hh.2.1]; exact ⟨hfs.1, hfs.2.1, (by intro x hx; cases hx)⟩
      td := I.td.hM B
      si := by rw [hh.2.2.2]; exact I.si
      s0 := fun h => by
        rw [hh.2.2.2]
        refine I.s0 ?_
        cases hr : m.rd
        · rfl
        · rw [hearM_up m B hr] at h; cases h }
  · exact (b1.mono (fun k _ h => h.elim (fun e => .inl e) (fun e => .inr (.inl e)))).trans b2 (fun k hk h => h.elim (fun e => .inr (.inr (.inl e))) (fun e => .inr (.inr (.inr e))))
theorem PlI.blamed {wr w1 w2 : World} {p q lo : Nat} {m : PeM} {tn : Nat} {now n : Int} {vp vq : Value} (I : PlI wr p q lo m tn now vp vq) (hpq : p ≠ q) (K1 : PeK w1 p { m with sc := blI m.sc n } vp) (b1 : But (fun k => k = p) wr w1) (K2 : TdK w2 q { m with sc := blI m.sc n } tn vq) (b2 : But (fun k => k = q) w1 w2) :
    PlI w2 p q lo { m with sc := blI m.sc n } tn now vp vq := by
  have hin := blI_in n I.sc
  have hm := I.mid hpq (b1.mono (fun k _ h => .inl h))
  exact {
    kp := b2.keep K1 hpq
    kq := K2
    mp := (I.mp.but b1 (fun k hk e => I.qp.2.2.1 (e ▸ hk))).but b2 (fun k hk e => I.qp.1 (e ▸ hk))
    mq := hm.2.but b2 (fun k hk e => I.qp.2.2.2 (e ▸ hk))
    ap := I.ap
    sc := ⟨hin.1, hin.2.1⟩
    fs := I.fs
    td := ⟨I.td.1, I.td.2⟩
    si := I.si
    s0 := I.s0 }
theorem told_held (q lo : Nat) (m : PeM) (tn : Nat) (v : Value) (w : World) (K : TdK w q m tn v) (hM : Mine w lo v m.h) :
    Calls Tryd.prog 26 #[.pointer (some ⟨q, 9, none⟩)] w fun r w' => r = .returned (.int .i64 ((m.h.length : Nat) : Int)) ∧ Below w.heap.size w w' := by
  obtain ⟨s, c, rfl⟩ := hM.slice
  exact (fheld_any (FT := 37) (FR := tdA m tn (.slice s m.h.length c)) (fo := 9) q lo m.h.length c m.e s m.h w ⟨K, hM⟩).mono (by rintro r w' ⟨h1, h2⟩; subst h2; exact ⟨h1, Below.refl _ _⟩)
theorem tickW_cases (m : PeM) (tn : Nat) (now : Int) : (tickP m now = false ∧ (tickW m now).1 = m ∧ tickN m tn now = tn ∧ (tickW m now).2.1 = []) ∨
    (tickP m now = true ∧ m.rd = true ∧ (tickW m now).1 = { m with si := now, wt := true } ∧ tickN m tn now = pnN m.nc now ∧ (tickW m now).2 = ([pingK (pnN m.nc now)], true)) := by
  unfold tickN tickP tickW
  cases hr : m.rd
  · exact .inl ⟨by simp, rfl, by simp, rfl⟩
  · cases hw : m.wt
    · by_cases h : now - m.si < 120
      · exact .inl ⟨by simp [h], by simp [h], by simp [h], by simp [h]⟩
      · exact .inr ⟨by simp [h], rfl, by simp [h], by simp [h], by simp [h]⟩
    · exact .inl ⟨by simp, by simp, by simp, by simp⟩
theorem PlI.ticked {wr w1 w2 : World} {p q lo : Nat} {m : PeM} {tn : Nat} {now : Int} {vp vq : Value} (I : PlI wr p q lo m tn now vp vq) (hpq : p ≠ q) (h0 : 0 ≤ now) (K1 : PeK w1 p (tickW m now).1 vp) (b1 : But (fun k => k = p) wr w1) (K2 : TdK w2 q (tickW m now).1 (tickN m tn now) vq) (b2 : But (fun k => k = q) w1 w2) :
    PlI w2 p q lo (tickW m now).1 (tickN m tn now) now vp vq := by
  have hm := I.mid hpq (b1.mono (fun k _ h => .inl h))
  have hmp := (I.mp.but b1 (fun k hk e => I.qp.2.2.1 (e ▸ hk))).but b2 (fun k hk e => I.qp.1 (e ▸ hk))
  have hmq := hm.2.but b2 (fun k hk e => I.qp.2.2.2 (e ▸ hk))
  rcases tickW_cases m tn now with ⟨_, e1, e2, _⟩ | ⟨_, hr, e1, e2, _⟩
  · rw [e1] at K1
    rw [e1, e2] at K2 ⊢
    exact ⟨b2.keep K1 hpq, K2, hmp, hmq, I.ap, I.sc, I.fs, I.td, I.si, I.s0⟩
  · rw [e1] at K1
    rw [e1, e2] at K2 ⊢
    exact ⟨b2.keep K1 hpq, K2, hmp, hmq, I.ap, I.sc, I.fs, ⟨I.td.1, fun _ => (curI_pn m now).symm⟩, ⟨h0, Int.le_refl _⟩, fun h => by rw [show m.rd = false from h] at hr; cases hr⟩
end Go.Proofs.YtkpffjcdalclmaaDoor
