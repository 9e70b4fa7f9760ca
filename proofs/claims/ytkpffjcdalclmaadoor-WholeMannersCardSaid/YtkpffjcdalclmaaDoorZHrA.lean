/- What a peer hears: the mathematics. -/
import Derived.Test.YtkpffjcdalclmaaDoorZPeB
import Derived.Test.YtkpffjcdalclmaaDoorZRwB
namespace Go.Proofs.YtkpffjcdalclmaaDoor
open Go.RowKit
set_option linter.unusedVariables false
set_option linter.unusedSimpArgs false
set_option maxRecDepth 100000
def FrOk (f : List Nat × List Nat) : Prop := (∀ x ∈ f.1, x < 256) ∧ (∀ x ∈ f.2, x < 256) ∧ f.2.length ≤ 16408
def FsOk (s : FS) : Prop := FOk s ∧ (∀ x ∈ s.h, x < 256) ∧ ∀ f ∈ s.out, FrOk f
theorem tell_fs (h : List Nat) (o) (hx : ∀ x ∈ h, x < 256) (hl : h.length ≤ 16408) (ho : ∀ f ∈ o, FrOk f) : (∀ x ∈ (tell h o).h, x < 256) ∧ ∀ f ∈ (tell h o).out, FrOk f := by
  unfold tell
  split
  · exact ⟨fun x hx => (by cases hx), ho⟩
  · split
    · refine ⟨fun x hx => (by cases hx), fun f hf => ?_⟩
      rcases List.mem_append.1 hf with h1 | h1
      · exact ho f h1
      · rw [List.mem_singleton.1 h1]
        exact ⟨wordN_lt h hx, fun x hx' => hx x (List.mem_of_mem_drop hx'), by show (h.drop 24).length ≤ _; rw [List.length_drop]; omega⟩
    · exact ⟨hx, ho⟩
theorem feed1_fs {s : FS} (h : FsOk s) (x : Nat) (hx : x < 256) : FsOk (feed1 s x) := by
  refine ⟨feed1_ok h.1 x, ?_⟩
  unfold feed1
  split
  · exact h.2
  · rename_i he
    have he : s.e = 0 := Classical.byContradiction he
    have hl := hOk_len (h.1.2.1 he)
    refine tell_fs _ _ (fun y hy => ?_) (by rw [List.length_append, List.length_singleton]; omega) h.2.2
    rcases List.mem_append.1 hy with h1 | h1
    · exact h.2.1 y h1
    · rw [List.mem_singleton.1 h1]; exact hx
theorem feedL_fs (b : List Nat) : ∀ {s : FS}, FsOk s → (∀ x ∈ b, x < 256) → FsOk (feedL s b) := by
  induction b with
  | nil => exact fun h _ => h
  | cons x b ih => exact fun h hb => ih (feed1_fs h x (hb x List.mem_cons_self)) (fun y hy => hb y (List.mem_cons_of_mem _ hy))
theorem FsOk.room {s : FS} (h : FsOk s) : s.h.length < 16408 := by
  by_cases he : s.e = 0
  · exact hOk_len (h.1.2.1 he)
  · rw [h.1.1 he]; decide
def decKey (k : Nat) (xs : List Nat) : KeyM :=
  ((k : Int), if k = 1 then (rdNum (rdNum (xs, 0) 4).2 8).1 else if k = 9 ∨ k = 10 then (rdNum (xs, 0) 8).1 else 0,
   if k = 3 then idOf (rdTake (nmSts (rdCount (xs, 0) 32).1 (rdCount (xs, 0) 32).2) 32).1 else zeros 32,
   if k = 3 then (rdCount (xs, 0) 32).1 else if k = 5 ∨ k = 6 ∨ k = 8 then (rdCount (xs, 0) 64).1 else 0,
   if k = 4 then (rdCount (xs, 0) 32).1 else 0)
def decHt (k : Nat) (xs : List Nat) : Nat := if k = 1 then (rdNum (rdNum (rdNum (xs, 0) 4).2 8).2 4).1 else 0
theorem dec_key (k : Nat) (xs : List Nat) (m : MsM) (hk : m.kd = (k : Int)) (h : DecSays k xs m) : keyM m = decKey k xs ∧ m.ht = decHt k xs := by
  unfold DecSays at h
  by_cases h7 : k = 7
  · rw [if_pos h7] at h
    obtain ⟨_, h1, h2, h3, h4, h5⟩ := h
    subst h7
    unfold keyM decKey decHt
    rw [hk, h3, h4, h5, h1, h2]
    exact ⟨rfl, rfl⟩
  · rw [if_neg h7] at h
    obtain ⟨_, a1, a3, a4, a5, a9, _, _, _, b1, b2, b3, b4, b5⟩ := h
    unfold keyM decKey decHt
    rw [hk]
    have e1 : m.nc = if k = 1 then (rdNum (rdNum (xs, 0) 4).2 8).1 else if k = 9 ∨ k = 10 then (rdNum (xs, 0) 8).1 else 0 := by
      by_cases h1 : k = 1
      · rw [if_pos h1]; exact (a1 h1).1
      · rw [if_neg h1]
        by_cases h9 : k = 9 ∨ k = 10
        · rw [if_pos h9]; exact a9 h9
        · rw [if_neg h9]; exact b2 (by omega)
    have e2 : m.st.1 = if k = 3 then idOf (rdTake (nmSts (rdCount (xs, 0) 32).1 (rdCount (xs, 0) 32).2) 32).1 else zeros 32 := by
      by_cases h1 : k = 3
      · rw [if_pos h1]; exact (a3 h1).2
      · rw [if_neg h1]; exact b3 h1
    have e3 : m.nm.length = if k = 3 then (rdCount (xs, 0) 32).1 else if k = 5 ∨ k = 6 ∨ k = 8 then (rdCount (xs, 0) 64).1 else 0 := by
      by_cases h1 : k = 3
      · rw [if_pos h1]; exact (a3 h1).1.1
      · rw [if_neg h1]
        by_cases h5 : k = 5 ∨ k = 6 ∨ k = 8
        · rw [if_pos h5]; exact (a5 h5).1
        · rw [if_neg h5]; exact b4 (by omega)
    have e4 : m.hd.length = if k = 4 then (rdCount (xs, 0) 32).1 else 0 := by
      by_cases h1 : k = 4
      · rw [if_pos h1]; exact (a4 h1).1
      · rw [if_neg h1]; exact b5 h1
    have e5 : m.ht = if k = 1 then (rdNum (rdNum (rdNum (xs, 0) 4).2 8).2 4).1 else 0 := by
      by_cases h1 : k = 1
      · rw [if_pos h1]; exact (a1 h1).2
      · rw [if_neg h1]; exact b1 h1
    rw [e1, e2, e3, e4, e5]
    exact ⟨rfl, rfl⟩
def pongK (n : Nat) : KeyM := (10, n, zeros 32, 0, 0)
def hear1 (m : PeM) (f : List Nat × List Nat) : PeM × List KeyM × List KeyM :=
  if m.sc = 100 then (m, [], [])
  else if decE f.1 f.2 = 90 then (m, [], [])
  else if decE f.1 f.2 ≠ 0 then ({ m with sc := blI m.sc 20 }, [], [])
  else if m.rd = false ∨ kindN f.1 = 1 ∨ kindN f.1 = 2 then
    ((greetF m (kindN f.1 : Int) (decKey (kindN f.1) f.2).2.1 (decHt (kindN f.1) f.2)).1, [], if (greetF m (kindN f.1 : Int) (decKey (kindN f.1) f.2).2.1 (decHt (kindN f.1) f.2)).2 = true then [verK] else [])
  else if kindN f.1 = 9 then (m, [], [pongK (decKey (kindN f.1) f.2).2.1])
  else if kindN f.1 = 10 then (ansF m (decKey (kindN f.1) f.2).2.1, [], [])
  else (m, [decKey (kindN f.1) f.2], [])
def hearF (m : PeM) : List (List Nat × List Nat) → PeM × List KeyM × List KeyM
  | [] => (m, [], [])
  | f :: r => ((hearF (hear1 m f).1 r).1, (hear1 m f).2.1 ++ (hearF (hear1 m f).1 r).2.1, (hear1 m f).2.2 ++ (hearF (hear1 m f).1 r).2.2)
theorem hearF_app (l r : List (List Nat × List Nat)) : ∀ m, hearF m (l ++ r) = ((hearF (hearF m l).1 r).1, (hearF m l).2.1 ++ (hearF (hearF m l).1 r).2.1, (hearF m l).2.2 ++ (hearF (hearF m l).1 r).2.2) := by
  induction l with
  | nil => intro m; simp [hearF]
  | cons f l ih => intro m; simp only [List.cons_append, hearF, ih, List.append_assoc]
theorem hearF_one (m : PeM) (f : List Nat × List Nat) : hearF m [f] = hear1 m f := by simp [hearF]
theorem hearF_snoc (m : PeM) (l : List (List Nat × List Nat)) (f : List Nat × List Nat) : hearF m (l ++ [f]) = ((hear1 (hearF m l).1 f).1, (hearF m l).2.1 ++ (hear1 (hearF m l).1 f).2.1, (hearF m l).2.2 ++ (hear1 (hearF m l).1 f).2.2) := by rw [hearF_app, hearF_one]
theorem hear1_bad {m : PeM} (h : m.sc = 100) (f) : hear1 m f = (m, [], []) := if_pos h
theorem hearF_bad {m : PeM} (h : m.sc = 100) (l : List (List Nat × List Nat)) : hearF m l = (m, [], []) := by
  induction l with
  | nil => rfl
  | cons f l ih =>
    unfold hearF
    rw [hear1_bad h]
    simp only [ih]
    rfl
def hearM (m : PeM) (B : List Nat) : PeM × List KeyM × List KeyM :=
  let s := feedL ⟨m.h, m.e, []⟩ B
  let r := hearF { m with h := s.h, e := s.e } s.out
  (if s.e ≠ 0 then { r.1 with sc := blI r.1.sc 100 } else r.1, r.2.1, r.2.2)
theorem greetF_rest (m : PeM) (k : Int) (n h : Nat) : (greetF m k n h).1.h = m.h ∧ (greetF m k n h).1.e = m.e ∧ (greetF m k n h).1.nc = m.nc ∧ (greetF m k n h).1.si = m.si := by
  unfold greetF
  split
  · split <;> exact ⟨rfl, rfl, rfl, rfl⟩
  · split <;> exact ⟨rfl, rfl, rfl, rfl⟩
theorem ansF_rest (m : PeM) (n : Nat) : (ansF m n).h = m.h ∧ (ansF m n).e = m.e ∧ (ansF m n).nc = m.nc ∧ (ansF m n).si = m.si := by
  unfold ansF
  split <;> exact ⟨rfl, rfl, rfl, rfl⟩
theorem hear1_rest (m : PeM) (f) : (hear1 m f).1.h = m.h ∧ (hear1 m f).1.e = m.e ∧ (hear1 m f).1.nc = m.nc ∧ (hear1 m f).1.si = m.si := by
  unfold hear1
  split
  · exact ⟨rfl, rfl, rfl, rfl⟩
  split
  · exact ⟨rfl, rfl, rfl, rfl⟩
  split
  · exact ⟨rfl, rfl, rfl, rfl⟩
  split
  · exact greetF_rest _ _ _ _
  split
  · exact ⟨rfl, rfl, rfl, rfl⟩
  split
  · exact ansF_rest _ _
  · exact ⟨rfl, rfl, rfl, rfl⟩
theorem hearF_rest (l : List (List Nat × List Nat)) : ∀ m, (hearF m l).1.h = m.h ∧ (hearF m l).1.e = m.e ∧ (hearF m l).1.nc = m.nc ∧ (hearF m l).1.si = m.si := by
  induction l with
  | nil => intro m; exact ⟨rfl, rfl, rfl, rfl⟩
  | cons f l ih =>
    intro m
    have h1 := ih (hear1 m f).1
    have h2 := hear1_rest m f
    exact ⟨h1.1.trans h2.1, h1.2.1.trans h2.2.1, h1.2.2.1.trans h2.2.2.1, h1.2.2.2.trans h2.2.2.2⟩
def ScOk (m : PeM) : Prop := 0 ≤ m.sc ∧ m.sc ≤ 100
theorem greetF_sc {m : PeM} (h : ScOk m) (k : Int) (n t : Nat) : ScOk (greetF m k n t).1 ∧ m.sc ≤ (greetF m k n t).1.sc := by
  unfold greetF
  split
  · split
    · exact ⟨⟨(blI_in 100 h).1, (blI_in 100 h).2.1⟩, (blI_in 100 h).2.2⟩
    · exact ⟨h, Int.le_refl _⟩
  · split
    · exact ⟨h, Int.le_refl _⟩
    · exact ⟨⟨(blI_in 10 h).1, (blI_in 10 h).2.1⟩, (blI_in 10 h).2.2⟩
theorem ansF_sc (m : PeM) (n : Nat) : (ansF m n).sc = m.sc ∧ (ansF m n).rd = m.rd ∧ (ansF m n).kn = m.kn ∧ (ansF m n).ht = m.ht := by
  unfold ansF
  split <;> exact ⟨rfl, rfl, rfl, rfl⟩
theorem hear1_sc {m : PeM} (h : ScOk m) (f) : ScOk (hear1 m f).1 ∧ m.sc ≤ (hear1 m f).1.sc := by
  unfold hear1
  split
  · exact ⟨h, Int.le_refl _⟩
  split
  · exact ⟨h, Int.le_refl _⟩
  split
  · exact ⟨⟨(blI_in 20 h).1, (blI_in 20 h).2.1⟩, (blI_in 20 h).2.2⟩
  split
  · exact greetF_sc h _ _ _
  split
  · exact ⟨h, Int.le_refl _⟩
  split
  · exact ⟨by unfold ScOk; rw [(ansF_sc _ _).1]; exact h, by rw [(ansF_sc _ _).1]; exact Int.le_refl _⟩
  · exact ⟨h, Int.le_refl _⟩
theorem hearF_sc (l : List (List Nat × List Nat)) : ∀ {m : PeM}, ScOk m → ScOk (hearF m l).1 ∧ m.sc ≤ (hearF m l).1.sc := by
  induction l with
  | nil => intro m h; exact ⟨h, Int.le_refl _⟩
  | cons f l ih =>
    intro m h
    have h1 := hear1_sc h f
    have h2 := ih h1.1
    exact ⟨h2.1, Int.le_trans h1.2 h2.2⟩
theorem hearM_h (m : PeM) (B : List Nat) : (hearM m B).1.h = (feedL ⟨m.h, m.e, []⟩ B).h ∧ (hearM m B).1.e = (feedL ⟨m.h, m.e, []⟩ B).e ∧ (hearM m B).1.nc = m.nc ∧ (hearM m B).1.si = m.si := by
  unfold hearM
  simp only
  have h1 := hearF_rest (feedL ⟨m.h, m.e, []⟩ B).out { m with h := (feedL ⟨m.h, m.e, []⟩ B).h, e := (feedL ⟨m.h, m.e, []⟩ B).e }
  split <;> exact h1
theorem feedL_outlen (b : List Nat) : ∀ s : FS, (feedL s b).out.length ≤ s.out.length + b.length := by
  induction b with
  | nil => intro s; exact Nat.le_refl _
  | cons x b ih =>
    intro s
    have h1 := ih (feed1 s x)
    have h2 : (feed1 s x).out.length ≤ s.out.length + 1 := by
      unfold feed1
      split
      · omega
      · unfold tell
        split
        · exact Nat.le_succ _
        · split
          · show (s.out ++ _).length ≤ _
            rw [List.length_append, List.length_singleton]
            exact Nat.le_refl _
          · exact Nat.le_succ _
    rw [List.length_cons]
    exact Nat.le_trans h1 (by omega)
theorem hear1_len (m : PeM) (f) : (hear1 m f).2.1.length + (hear1 m f).2.2.length ≤ 1 := by
  unfold hear1
  split
  · exact Nat.zero_le _
  split
  · exact Nat.zero_le _
  split
  · exact Nat.zero_le _
  split
  · show 0 + List.length (if _ then _ else _) ≤ 1
    split <;> decide
  split
  · exact Nat.le_refl _
  split
  · exact Nat.zero_le _
  · exact Nat.le_refl _
theorem hearF_len (l : List (List Nat × List Nat)) : ∀ m, (hearF m l).2.1.length + (hearF m l).2.2.length ≤ l.length := by
  induction l with
  | nil => intro m; exact Nat.le_refl _
  | cons f l ih =>
    intro m
    have h1 := ih (hear1 m f).1
    have h2 := hear1_len m f
    show ((hear1 m f).2.1 ++ (hearF (hear1 m f).1 l).2.1).length + ((hear1 m f).2.2 ++ (hearF (hear1 m f).1 l).2.2).length ≤ _
    rw [List.length_append, List.length_append, List.length_cons]
    omega
structure HInv (W1 wr : World) (p : Nat) (m1 : PeM) (v1 : Value) (fs : List (List Nat × List Nat)) (vs va : Value) (S A : List MsI) : Prop where
  K : PeK wr p (hearF m1 fs).1 v1
  b : But (fun k => k = p) W1 wr
  s : MineR msR wr W1.heap.size vs S
  a : MineR msR wr W1.heap.size va A
  ks : keysM S = (hearF m1 fs).2.1
  ka : keysM A = (hearF m1 fs).2.2
  ap : ∀ k, slb vs k → ¬ slb va k
theorem HInv.keep {W1 wr w2 : World} {p : Nat} {m1 : PeM} {v1 : Value} {fs} {vs va : Value} {S A : List MsI} (h : HInv W1 wr p m1 v1 fs vs va S A) (hb : Below wr.heap.size wr w2) : HInv W1 w2 p m1 v1 fs vs va S A :=
  ⟨h.K.keep hb, h.b.step hb, h.s.keep hb, h.a.keep hb, h.ks, h.ka, h.ap⟩
theorem keysM_app (S L : List MsI) : keysM (S ++ L) = keysM S ++ keysM L := List.map_append
theorem HInv.step {W1 wr w2 : World} {p : Nat} {m1 m2 : PeM} {v1 : Value} {fs} {f} {vs va : Value} {S A : List MsI} (h : HInv W1 wr p m1 v1 fs vs va S A) (hp : p < W1.heap.size) (hb : But (fun k => k = p) wr w2) (hK : PeK w2 p m2 v1)
    (he : hear1 (hearF m1 fs).1 f = (m2, [], [])) : HInv W1 w2 p m1 v1 (fs ++ [f]) vs va S A := by
  refine ⟨?_, h.b.trans hb (fun i _ h => h), h.s.but_ hb (fun k hk e => ?_), h.a.but_ hb (fun k hk e => ?_), ?_, ?_, h.ap⟩
  · rw [hearF_snoc, he]; exact hK
  · have := (h.s.slb_lo hk).1; omega
  · have := (h.a.slb_lo hk).1; omega
  · rw [hearF_snoc, he]; simpa using h.ks
  · rw [hearF_snoc, he]; simpa using h.ka
theorem HInv.ans {W1 wr w2 w3 : World} {p : Nat} {m1 m2 : PeM} {v1 : Value} {fs} {f} {vs va va' : Value} {S A L : List MsI} {ks : List KeyM} (h : HInv W1 wr p m1 v1 fs vs va S A) (hp : p < W1.heap.size) (hb : But (fun k => k = p) wr w2) (hK : PeK w2 p m2 v1)
    (hM : MineR msR w3 W1.heap.size va' (A ++ L)) (hb3 : But (slb va) w2 w3) (hs3 : ∀ k, slb va' k → slb va k ∨ w2.heap.size ≤ k) (hk : keysM L = ks)
    (he : hear1 (hearF m1 fs).1 f = (m2, [], ks)) : HInv W1 w3 p m1 v1 (fs ++ [f]) vs va' S (A ++ L) := by
  have hs2 : MineR msR w2 W1.heap.size vs S := h.s.but_ hb (fun k hk e => by have := (h.s.slb_lo hk).1; omega)
  refine ⟨?_, (h.b.trans hb (fun i _ h => h)).trans hb3 (fun i hi h2 => ?_), hs2.but_ hb3 (fun k hk e => h.ap k hk e), hM, ?_, ?_, fun k hk e => ?_⟩
  · rw [hearF_snoc, he]; exact hb3.keep hK (fun e => by have := (h.a.slb_lo e).1; omega)
  · have := (h.a.slb_lo h2).1; omega
  · rw [hearF_snoc, he]; simpa using h.ks
  · rw [hearF_snoc, he, keysM_app, h.ka, hk]
  · rcases hs3 k e with h2 | h2
    · exact h.ap k hk h2
    · have := (h.s.slb_lo hk).2.1
      have := hb.size
      omega
theorem HInv.say {W1 w2 w3 : World} {p : Nat} {m1 : PeM} {v1 : Value} {fs} {f} {vs va vs' : Value} {S A L : List MsI} {ks : List KeyM} (h : HInv W1 w2 p m1 v1 fs vs va S A) (hp : p < W1.heap.size)
    (hM : MineR msR w3 W1.heap.size vs' (S ++ L)) (hb3 : But (slb vs) w2 w3) (hs3 : ∀ k, slb vs' k → slb vs k ∨ w2.heap.size ≤ k) (hk : keysM L = ks)
    (he : hear1 (hearF m1 fs).1 f = ((hearF m1 fs).1, ks, [])) : HInv W1 w3 p m1 v1 (fs ++ [f]) vs' va (S ++ L) A := by
  refine ⟨?_, h.b.trans hb3 (fun i hi h2 => ?_), hM, h.a.but_ hb3 (fun k hk e => h.ap k e hk), ?_, ?_, fun k hk e => ?_⟩
  · rw [hearF_snoc, he]; exact hb3.keep h.K (fun e => by have := (h.s.slb_lo e).1; omega)
  · have := (h.s.slb_lo h2).1; omega
  · rw [hearF_snoc, he, keysM_app, h.ks, hk]
  · rw [hearF_snoc, he]; simpa using h.ka
  · rcases hs3 k hk with h2 | h2
    · exact h.ap k h2 e
    · have := (h.a.slb_lo e).2.1
      omega
theorem HInv.lens {W1 wr : World} {p : Nat} {m1 : PeM} {v1 : Value} {fs} {vs va : Value} {S A : List MsI} (h : HInv W1 wr p m1 v1 fs vs va S A) : S.length + A.length ≤ fs.length := by
  have h1 := hearF_len fs m1
  rw [← h.ks, ← h.ka] at h1
  unfold keysM at h1
  simpa using h1
theorem HInv.stop {W1 wr : World} {p : Nat} {m1 : PeM} {v1 : Value} {fs} {vs va : Value} {S A : List MsI} (h : HInv W1 wr p m1 v1 fs vs va S A) (hb : (hearF m1 fs).1.sc = 100) (r : List (List Nat × List Nat)) : HInv W1 wr p m1 v1 (fs ++ r) vs va S A := by
  have e : hearF m1 (fs ++ r) = ((hearF m1 fs).1, (hearF m1 fs).2.1, (hearF m1 fs).2.2) := by rw [hearF_app, hearF_bad hb]; simp
  exact ⟨by rw [e]; exact h.K, h.b, h.s, h.a, by rw [e]; exact h.ks, by rw [e]; exact h.ka, h.ap⟩
def HearP (w w' : World) (p lo : Nat) (v : Value) (m : PeM) (B : List Nat) (r : Ending) : Prop :=
  ∃ (v' vs va : Value) (S A : List MsI), r = .returned (.tuple #[vs, va]) ∧ PeK w' p (hearM m B).1 v' ∧ Mine w' lo v' (hearM m B).1.h ∧ MineR msR w' w.heap.size vs S ∧ MineR msR w' w.heap.size va A ∧ keysM S = (hearM m B).2.1 ∧ keysM A = (hearM m B).2.2 ∧
    But (fun k => k = p ∨ slb v k) w w' ∧ ∀ k, slb v' k → slb v k ∨ w.heap.size ≤ k
theorem hearM_of (m : PeM) (B : List Nat) (s : FS) (hs : s = feedL ⟨m.h, m.e, []⟩ B) : hearM m B = (if s.e ≠ 0 then { (hearF { m with h := s.h, e := s.e } s.out).1 with sc := blI (hearF { m with h := s.h, e := s.e } s.out).1.sc 100 } else (hearF { m with h := s.h, e := s.e } s.out).1, (hearF { m with h := s.h, e := s.e } s.out).2.1, (hearF { m with h := s.h, e := s.e } s.out).2.2) := by
  subst hs
  rfl
theorem HInv.done0 {w W1 wr : World} {p lo : Nat} {m m1 : PeM} {v v1 : Value} {B : List Nat} {s : FS} {vs va : Value} {S A : List MsI} (hs : s = feedL ⟨m.h, m.e, []⟩ B) (hm : m1 = { m with h := s.h, e := s.e }) (I : HInv W1 wr p m1 v1 s.out vs va S A) (he : s.e = 0)
    (hM : Mine wr lo v1 s.h) (hb : But (fun k => k = p ∨ slb v k) w W1) (hv : ∀ k, slb v1 k → slb v k ∨ w.heap.size ≤ k) : HearP w wr p lo v m B (.returned (.tuple #[vs, va])) := by
  have e := hearM_of m B s hs
  rw [← hm, if_neg (by omega)] at e
  have hh := hearM_h m B
  rw [← hs] at hh
  refine ⟨v1, vs, va, S, A, rfl, ?_, ?_, I.s.mono hb.size, I.a.mono hb.size, ?_, ?_, hb.trans I.b (fun i _ h => .inl h), hv⟩
  · rw [e]; exact I.K
  · rw [hh.1]; exact hM
  · rw [e]; exact I.ks
  · rw [e]; exact I.ka
theorem HInv.done1 {w W1 wr w2 : World} {p lo : Nat} {m m1 : PeM} {v v1 : Value} {B : List Nat} {s : FS} {vs va : Value} {S A : List MsI} (hs : s = feedL ⟨m.h, m.e, []⟩ B) (hm : m1 = { m with h := s.h, e := s.e }) (I : HInv W1 wr p m1 v1 s.out vs va S A) (he : s.e ≠ 0)
    (hM : Mine w2 lo v1 s.h) (hb : But (fun k => k = p ∨ slb v k) w W1) (hv : ∀ k, slb v1 k → slb v k ∨ w.heap.size ≤ k) (hp : p < W1.heap.size) (hb2 : But (fun k => k = p) wr w2) (hK : PeK w2 p { (hearF m1 s.out).1 with sc := blI (hearF m1 s.out).1.sc 100 } v1) :
    HearP w w2 p lo v m B (.returned (.tuple #[vs, va])) := by
  have e := hearM_of m B s hs
  rw [← hm, if_pos he] at e
  have hh := hearM_h m B
  rw [← hs] at hh
  refine ⟨v1, vs, va, S, A, rfl, ?_, ?_, (I.s.but_ hb2 (fun k hk e => ?_)).mono hb.size, (I.a.but_ hb2 (fun k hk e => ?_)).mono hb.size, ?_, ?_, (hb.trans I.b (fun i _ h => .inl h)).trans hb2 (fun i _ h => .inl h), hv⟩
  · rw [e]; exact hK
  · rw [hh.1]; exact hM
  · have := (I.s.slb_lo hk).1; omega
  · have := (I.a.slb_lo hk).1; omega
  · rw [e]; exact I.ks
  · rw [e]; exact I.ka
instance peFd (m : PeM) (v : Value) : FdOk 65 (peA m v) 4 := ⟨by decide, by decide, by show 4 + 1 < 9; decide⟩
theorem ms10_cells (n : Nat) : (Tryd.zeroCells58.setIfInBounds 0 (.int .i64 10)).setIfInBounds 1 (.int .u64 (n : Int)) = (msL { ms0 with kd := 10, nc := n }).toArray := by
  rw [msz, ms_kd]
  exact ms_nc { ms0 with kd := 10 } n
def pongM (n : Nat) : MsI := ⟨{ ms0 with kd := 10, nc := n }, hd0_is⟩
theorem keys_pong (n : Nat) : keysM [pongM n] = [pongK n] := rfl
theorem msz_len : Tryd.zeroCells58.size = 106 := by rw [msz]; exact msL_len hd0_is
end Go.Proofs.YtkpffjcdalclmaaDoor
