/- The law's own peer: what it is, how it is blamed, what holds while it hears. -/
import Derived.Test.YtkpffjcdalclmaaDoorPeZ
import Derived.Test.YtkpffjcdalclmaaDoorPfA
namespace Go.Proofs.YtkpffjcdalclmaaDoor
open Go.RowKit
set_option linter.unusedVariables false
set_option linter.unusedSimpArgs false
set_option maxRecDepth 100000
def tdA (m : PeM) (tn : Nat) (v : Value) : Array Value := #[.int .u64 (m.nc : Int), .int .u64 (tn : Int), .int .i64 0, .int .i64 m.si, .int .i64 m.sc, .bool m.kn, .bool m.rd, .bool m.wt, .int .u32 (m.ht : Int), v, .int .i64 (m.e : Int)]
def TdK (w : World) (p : Nat) (m : PeM) (tn : Nat) (v : Value) : Prop := Bk w p 37 (tdA m tn v)
theorem TdK.keep {w W : World} {p : Nat} {m : PeM} {tn : Nat} {v : Value} (h : TdK w p m tn v) (hb : Below w.heap.size w W) : TdK W p m tn v := Bk.keep h hb
theorem TdK.lt {w : World} {p : Nat} {m : PeM} {tn : Nat} {v : Value} (h : TdK w p m tn v) : p < w.heap.size := Bk.lt h
def TdI (m : PeM) (tn : Nat) : Prop := (m.rd = true → m.kn = true) ∧ (m.wt = true → (tn : Int) = curI m)
theorem curI_same {m m' : PeM} (h1 : m'.nc = m.nc) (h2 : m'.si = m.si) : curI m' = curI m := by unfold curI; rw [h1, h2]
theorem greetF_wt (m : PeM) (k : Int) (n h : Nat) : (greetF m k n h).1.wt = m.wt := by
  unfold greetF
  split
  · split <;> rfl
  · split <;> rfl
theorem ansF_wt (m : PeM) (n : Nat) : (ansF m n).wt = true → m.wt = true := by
  unfold ansF
  split
  · intro h; cases h
  · exact id
theorem hear1_wt (m : PeM) (f) : (hear1 m f).1.wt = true → m.wt = true := by
  unfold hear1
  split
  · exact id
  split
  · exact id
  split
  · exact id
  split
  · show (greetF m _ _ _).1.wt = true → _
    rw [greetF_wt]
    exact id
  split
  · exact id
  split
  · exact ansF_wt m _
  · exact id
theorem TdI.h1 {m : PeM} {tn : Nat} (h : TdI m tn) (f) : TdI (hear1 m f).1 tn :=
  ⟨hear1_rd m f h.1, fun hw => by rw [curI_same (hear1_rest m f).2.2.1 (hear1_rest m f).2.2.2]; exact h.2 (hear1_wt m f hw)⟩
theorem TdI.hF (l : List (List Nat × List Nat)) : ∀ {m : PeM} {tn : Nat}, TdI m tn → TdI (hearF m l).1 tn := by
  induction l with
  | nil => exact fun h => h
  | cons f l ih => exact fun h => ih (h.h1 f)
theorem TdI.hM {m : PeM} {tn : Nat} (h : TdI m tn) (B : List Nat) : TdI (hearM m B).1 tn := by
  unfold hearM
  simp only
  have h1 : TdI { m with h := (feedL ⟨m.h, m.e, []⟩ B).h, e := (feedL ⟨m.h, m.e, []⟩ B).e } tn := h
  have h2 := TdI.hF (feedL ⟨m.h, m.e, []⟩ B).out h1
  split
  · exact h2
  · exact h2
instance tdFd (m : PeM) (tn : Nat) (v : Value) : FdOk 37 (tdA m tn v) 9 := ⟨by decide, by decide, by show 9 + 1 < 11; decide⟩
structure TInv (tn : Nat) (W1 wr : World) (p : Nat) (m1 : PeM) (v1 : Value) (fs : List (List Nat × List Nat)) (vs va : Value) (S A : List MsI) : Prop where
  K : TdK wr p (hearF m1 fs).1 tn v1
  b : But (fun k => k = p) W1 wr
  s : MineR msR wr W1.heap.size vs S
  a : MineR msR wr W1.heap.size va A
  ks : keysM S = (hearF m1 fs).2.1
  ka : keysM A = (hearF m1 fs).2.2
  ap : ∀ k, slb vs k → ¬ slb va k
theorem TInv.keep {tn : Nat} {W1 wr w2 : World} {p : Nat} {m1 : PeM} {v1 : Value} {fs} {vs va : Value} {S A : List MsI} (h : TInv tn W1 wr p m1 v1 fs vs va S A) (hb : Below wr.heap.size wr w2) : TInv tn W1 w2 p m1 v1 fs vs va S A :=
  ⟨h.K.keep hb, h.b.step hb, h.s.keep hb, h.a.keep hb, h.ks, h.ka, h.ap⟩
theorem TInv.step {tn : Nat} {W1 wr w2 : World} {p : Nat} {m1 m2 : PeM} {v1 : Value} {fs} {f} {vs va : Value} {S A : List MsI} (h : TInv tn W1 wr p m1 v1 fs vs va S A) (hp : p < W1.heap.size) (hb : But (fun k => k = p) wr w2) (hK : TdK w2 p m2 tn v1)
    (he : hear1 (hearF m1 fs).1 f = (m2, [], [])) : TInv tn W1 w2 p m1 v1 (fs ++ [f]) vs va S A := by
  refine ⟨?_, h.b.trans hb (fun i _ h => h), h.s.but_ hb (fun k hk e => ?_), h.a.but_ hb (fun k hk e => ?_), ?_, ?_, h.ap⟩
  · rw [hearF_snoc, he]; exact hK
  · have := (h.s.slb_lo hk).1; omega
  · have := (h.a.slb_lo hk).1; omega
  · rw [hearF_snoc, he]; simpa using h.ks
  · rw [hearF_snoc, he]; simpa using h.ka
theorem TInv.ans {tn : Nat} {W1 wr w2 w3 : World} {p : Nat} {m1 m2 : PeM} {v1 : Value} {fs} {f} {vs va va' : Value} {S A L : List MsI} {ks : List KeyM} (h : TInv tn W1 wr p m1 v1 fs vs va S A) (hp : p < W1.heap.size) (hb : But (fun k => k = p) wr w2) (hK : TdK w2 p m2 tn v1)
    (hM : MineR msR w3 W1.heap.size va' (A ++ L)) (hb3 : But (slb va) w2 w3) (hs3 : ∀ k, slb va' k → slb va k ∨ w2.heap.size ≤ k) (hk : keysM L = ks)
    (he : hear1 (hearF m1 fs).1 f = (m2, [], ks)) : TInv tn W1 w3 p m1 v1 (fs ++ [f]) vs va' S (A ++ L) := by
  have hs2 : MineR msR w2 W1.heap.size vs S := h.s.but_ hb (fun k hk e => by have := (h.s.slb_lo hk).1; omega)
  refine ⟨?_, (h.b.trans hb (fun i _ h => h)).trans hb3 (fun i hi h2 => ?_), hs2.but_ hb3 (fun k hk e => h.ap k hk e), hM, ?_, ?_, fun k hk e => ?_⟩
  · rw [hearF_snoc, he]; exact hb3.keep hK (fun e => by have := (h.a.slb_lo e).1; omega)
  · have := (h.a.slb_lo h2).1; omega
  · rw [hearF_snoc, he]; simpa using h.ks
  · rw [hearF_snoc, he, keysM_app, h.ka, hk]
  · rcases hs3 k e with h2 | h2
    · exact h.ap k hk h2
    · have := (h.s.slb_lo hk).2.1
      have := hb.size
      omega
theorem TInv.say {tn : Nat} {W1 w2 w3 : World} {p : Nat} {m1 : PeM} {v1 : Value} {fs} {f} {vs va vs' : Value} {S A L : List MsI} {ks : List KeyM} (h : TInv tn W1 w2 p m1 v1 fs vs va S A) (hp : p < W1.heap.size)
    (hM : MineR msR w3 W1.heap.size vs' (S ++ L)) (hb3 : But (slb vs) w2 w3) (hs3 : ∀ k, slb vs' k → slb vs k ∨ w2.heap.size ≤ k) (hk : keysM L = ks)
    (he : hear1 (hearF m1 fs).1 f = ((hearF m1 fs).1, ks, [])) : TInv tn W1 w3 p m1 v1 (fs ++ [f]) vs' va (S ++ L) A := by
  refine ⟨?_, h.b.trans hb3 (fun i hi h2 => ?_), hM, h.a.but_ hb3 (fun k hk e => h.ap k e hk), ?_, ?_, fun k hk e => ?_⟩
  · rw [hearF_snoc, he]; exact hb3.keep h.K (fun e => by have := (h.s.slb_lo e).1; omega)
  · have := (h.s.slb_lo h2).1; omega
  · rw [hearF_snoc, he, keysM_app, h.ks, hk]
  · rw [hearF_snoc, he]; simpa using h.ka
  · rcases hs3 k hk with h2 | h2
    · exact h.ap k h2 e
    · have := (h.a.slb_lo e).2.1
      omega
theorem TInv.lens {tn : Nat} {W1 wr : World} {p : Nat} {m1 : PeM} {v1 : Value} {fs} {vs va : Value} {S A : List MsI} (h : TInv tn W1 wr p m1 v1 fs vs va S A) : S.length + A.length ≤ fs.length := by
  have h1 := hearF_len fs m1
  rw [← h.ks, ← h.ka] at h1
  unfold keysM at h1
  simpa using h1
theorem TInv.stop {tn : Nat} {W1 wr : World} {p : Nat} {m1 : PeM} {v1 : Value} {fs} {vs va : Value} {S A : List MsI} (h : TInv tn W1 wr p m1 v1 fs vs va S A) (hb : (hearF m1 fs).1.sc = 100) (r : List (List Nat × List Nat)) : TInv tn W1 wr p m1 v1 (fs ++ r) vs va S A := by
  have e : hearF m1 (fs ++ r) = ((hearF m1 fs).1, (hearF m1 fs).2.1, (hearF m1 fs).2.2) := by rw [hearF_app, hearF_bad hb]; simp
  exact ⟨by rw [e]; exact h.K, h.b, h.s, h.a, by rw [e]; exact h.ks, by rw [e]; exact h.ka, h.ap⟩
def TearP (tn : Nat) (w w' : World) (p lo : Nat) (v : Value) (m : PeM) (B : List Nat) (r : Ending) : Prop :=
  ∃ (v' vs va : Value) (S A : List MsI), r = .returned (.tuple #[vs, va]) ∧ TdK w' p (hearM m B).1 tn v' ∧ Mine w' lo v' (hearM m B).1.h ∧ MineR msR w' w.heap.size vs S ∧ MineR msR w' w.heap.size va A ∧ keysM S = (hearM m B).2.1 ∧ keysM A = (hearM m B).2.2 ∧
    But (fun k => k = p ∨ slb v k) w w' ∧ ∀ k, slb v' k → slb v k ∨ w.heap.size ≤ k
theorem TInv.done0 {tn : Nat} {w W1 wr : World} {p lo : Nat} {m m1 : PeM} {v v1 : Value} {B : List Nat} {s : FS} {vs va : Value} {S A : List MsI} (hs : s = feedL ⟨m.h, m.e, []⟩ B) (hm : m1 = { m with h := s.h, e := s.e }) (I : TInv tn W1 wr p m1 v1 s.out vs va S A) (he : s.e = 0)
    (hM : Mine wr lo v1 s.h) (hb : But (fun k => k = p ∨ slb v k) w W1) (hv : ∀ k, slb v1 k → slb v k ∨ w.heap.size ≤ k) : TearP tn w wr p lo v m B (.returned (.tuple #[vs, va])) := by
  have e := hearM_of m B s hs
  rw [← hm, if_neg (by omega)] at e
  have hh := hearM_h m B
  rw [← hs] at hh
  refine ⟨v1, vs, va, S, A, rfl, ?_, ?_, I.s.mono hb.size, I.a.mono hb.size, ?_, ?_, hb.trans I.b (fun i _ h => .inl h), hv⟩
  · rw [e]; exact I.K
  · rw [hh.1]; exact hM
  · rw [e]; exact I.ks
  · rw [e]; exact I.ka
theorem TInv.done1 {tn : Nat} {w W1 wr w2 : World} {p lo : Nat} {m m1 : PeM} {v v1 : Value} {B : List Nat} {s : FS} {vs va : Value} {S A : List MsI} (hs : s = feedL ⟨m.h, m.e, []⟩ B) (hm : m1 = { m with h := s.h, e := s.e }) (I : TInv tn W1 wr p m1 v1 s.out vs va S A) (he : s.e ≠ 0)
    (hM : Mine w2 lo v1 s.h) (hb : But (fun k => k = p ∨ slb v k) w W1) (hv : ∀ k, slb v1 k → slb v k ∨ w.heap.size ≤ k) (hp : p < W1.heap.size) (hb2 : But (fun k => k = p) wr w2) (hK : TdK w2 p { (hearF m1 s.out).1 with sc := blI (hearF m1 s.out).1.sc 100 } tn v1) :
    TearP tn w w2 p lo v m B (.returned (.tuple #[vs, va])) := by
  have e := hearM_of m B s hs
  rw [← hm, if_pos he] at e
  have hh := hearM_h m B
  rw [← hs] at hh
  refine ⟨v1, vs, va, S, A, rfl, ?_, ?_, (I.s.but_ hb2 (fun k hk e => ?_)).mono hb.size, (I.a.but_ hb2 (fun k hk e => ?_)).mono hb.size, ?_, ?_, (hb.trans I.b (fun i _ h => .inl h)).trans hb2 (fun i _ h => .inl h), hv⟩
  · rw [e]; exact hK
  · rw [hh.1]; exact hM
  · have := (I.s.slb_lo hk).1; omega
  · have := (I.a.slb_lo hk).1; omega
  · rw [e]; exact I.ks
  · rw [e]; exact I.ka
set_option maxHeartbeats 4000000 in
theorem tblame_any (p tn : Nat) (m : PeM) (v : Value) (n : Int) (w : World) (K : TdK w p m tn v) (hm : 0 ≤ m.sc ∧ m.sc ≤ 100) (hn : -9223372036854775808 ≤ n ∧ n ≤ 9223372036854775807) :
    Calls Tryd.prog 20 #[.pointer (some ⟨p, 0, none⟩), .int .i64 n] w fun r w' => r = .returned (.tuple #[]) ∧ TdK w' p { m with sc := blI m.sc n } tn v ∧ But (fun k => k = p) w w' := by
  obtain ⟨sc, nc, si, wt, h, e, kn, rd, ht⟩ := m
  obtain ⟨h1, h2⟩ := hm
  simp only at h1 h2
  have HK := Lib.hid K
  have c0 : w.cell? ⟨p, 4, none⟩ = some (.int .i64 sc) := (Bk.cell K 4).trans rfl
  have fz := Bk.frozen K 4
  have z0 := Bk.lt K
  have q2 : IntKind.i64.wrap (sc + max 0 (min n 100)) = sc + max 0 (min n 100) := IntWalk.i64_in _ (by omega)
  have HP : Hid (∀ z : Int, z = blI sc n → TdK (w.setCell ⟨p, 4, none⟩ (.int .i64 z)) p ⟨blI sc n, nc, si, wt, h, e, kn, rd, ht⟩ tn v ∧ But (fun k => k = p) w (w.setCell ⟨p, 4, none⟩ (.int .i64 z))) := by
    rintro z rfl
    exact ⟨Bk.set_ K 4 _, (But.refl (fun k => k = p) w).set_ (.inl rfl) 4 none _⟩
  clear K q2
  go_enter Tryd.func20, Tryd.ntmps20
  go_wp2_with fail
  all_goals go_end0
  all_goals refine ⟨rfl, HP.out _ ?_⟩
  all_goals first | (unfold blI; omega) | (unfold blI wrap64; omega)
end Go.Proofs.YtkpffjcdalclmaaDoor
