/-
  Package trace's laws: what holds between the deeds.
-/
import Derived.Test.YtcedljfdnbenoaaTrP
namespace Go.Proofs.Ytcedljfdnbenoaa
open Go.RowKit
set_option linter.unusedVariables false
set_option linter.unusedSimpArgs false
set_option maxRecDepth 100000

theorem ovr_mid (A Y B X : List Value) (hl : X.length = Y.length) : ovr (A ++ (Y ++ B)).toArray A.length X = (A ++ (X ++ B)).toArray := by
  apply Array.ext_getElem?
  intro q
  rw [ovr_get, List.getElem?_toArray, List.getElem?_toArray, List.size_toArray, List.length_append, List.length_append]
  by_cases q1 : q < A.length
  · rw [if_neg (by omega), List.getElem?_append_left q1, List.getElem?_append_left q1]
  · by_cases q2 : q < A.length + X.length
    · rw [if_pos (by omega), List.getElem?_append_right (by omega), List.getElem?_append_left (by omega)]
    · rw [if_neg (by omega), List.getElem?_append_right (by omega), List.getElem?_append_right (by omega), List.getElem?_append_right (by omega), List.getElem?_append_right (by omega), hl]
section
variable {α : Type} {R : RowT α}
theorem flat_put (h : R.Ok) (A Y B X : List α) (hl : X.length = Y.length) : ovr (R.flat (A ++ (Y ++ B))).toArray (A.length * R.k) (R.flat X) = (R.flat (A ++ (X ++ B))).toArray := by
  rw [flat_app, flat_app, flat_app, flat_app, ← h.flat_len A]
  exact ovr_mid _ _ _ _ (by rw [h.flat_len, h.flat_len, hl])
theorem split_at' (D : List α) (i : Nat) (hi : i < D.length) : ∃ y, D = D.take i ++ ([y] ++ D.drop (i + 1)) ∧ D[i]? = some y := by
  refine ⟨D[i], ?_, List.getElem?_eq_getElem hi⟩
  have : [D[i]] ++ D.drop (i + 1) = D.drop i := by rw [List.drop_eq_getElem_cons hi]; rfl
  rw [this, List.take_append_drop]
theorem set_split (D : List α) (i : Nat) (x : α) (hi : i < D.length) : D.set i x = D.take i ++ ([x] ++ D.drop (i + 1)) := by
  rw [List.set_eq_take_append_cons_drop, if_pos hi]; rfl
theorem flat_set (h : R.Ok) (D : List α) (i : Nat) (x : α) (hi : i < D.length) : ovr (R.flat D).toArray (i * R.k) (R.c x) = (R.flat (D.set i x)).toArray := by
  obtain ⟨y, e, _⟩ := split_at' D i hi
  have hl : (D.take i).length = i := by rw [List.length_take]; omega
  have := flat_put h (D.take i) [y] (D.drop (i + 1)) [x] rfl
  rw [← e, hl, ← set_split D i x hi, flat_sing] at this
  exact this
theorem flat_cell (h : R.Ok) (D : List α) (i j : Nat) (x x' : α) (v : Value) (hx : D[i]? = some x) (hj : j < R.k) (hc : (R.c x).set j v = R.c x') : (R.flat D).toArray.setIfInBounds (i * R.k + j) v = (R.flat (D.set i x')).toArray := by
  have hi := (List.getElem?_eq_some_iff.1 hx).1
  obtain ⟨y, e, hy⟩ := split_at' D i hi
  obtain rfl : y = x := Option.some.inj (hy.symm.trans hx)
  have hl : (D.take i).length = i := by rw [List.length_take]; omega
  rw [set_split D i x' hi, List.setIfInBounds_toArray]
  congr 1
  conv => lhs; rw [e]
  rw [flat_app, flat_app, flat_sing, flat_app, flat_app, flat_sing, List.set_append_right _ _ (by rw [h.flat_len, hl]; omega), h.flat_len, hl, show i * R.k + j - i * R.k = j by omega, List.set_append_left _ _ (by rw [h.len]; exact hj), hc]
end
theorem step_app {α : Type} {R : RowT α} (h : R.Ok) {ops : Array Oper} {o : Oper} {a : Act} {w : World} {K : Act → World → Prop} {Q : Exit → Act → World → Prop} {E : Prop} {v1 v2 : Value} (xs ys : List α) (lo : Nat)
    (hg : o.guard = none) (s y : Operand) (hop : o.op = Op.call { callee := Callee.builtin Builtin.append, args := #[s, y], argTypes := #[R.t, R.t] }) (hty : o.type = R.t)
    (hs : a.eval s = v1) (hy : a.eval y = v2) (hm : MineR R w lo v1 xs) (hlo : lo ≤ w.heap.size) (hu : RowV R w w.heap.size v2 ys) (hlt : xs.length + ys.length ≤ 1048576)
    (hK : ∀ v W, MineR R W lo v (xs ++ ys) → But (slb v1) w W → (∀ k, slb v k → slb v1 k ∨ w.heap.size ≤ k) → K (a.put o.dst v) W) :
    if Region.wanted o (yielded ops a.tmps) = true then Oper.wp Try.prog o a w K Q else E := by
  obtain ⟨v, W, hrun, hM, hb, hbut⟩ := appR h xs ys v1 v2 lo w hm hlo hu hlt
  have hw : Region.wanted o (yielded ops a.tmps) = true := by simp [Region.wanted, hg]
  rw [if_pos hw]
  unfold Oper.wp
  simp [execOp, hop, resolve, invoke, builtin, hs, hy, hty, hrun, Result.andThen]
  exact hK v W hM hb hbut
theorem run_size_one (w : World) : (Go.sizeOf 60).run Try.prog w = .ok 6 w := by
  obtain ⟨i, hi, hn⟩ := Option.map_eq_some_iff.1 on_size
  simp [Go.sizeOf, typeInfo, hi, hn]
theorem slice_to {m c f b : Nat} (hf : f ≤ c) (W : World) : (Instr.slice 56 (.slice (some ⟨b, 0, none⟩) m c) none (some (.int .i64 (f : Int))) none).run Try.prog W = .ok (.slice (some ⟨b, 0, none⟩) f c) W := by
  have h0 : (0 : Int) ≤ (f : Int) ∧ (f : Int) ≤ (c : Int) := by omega
  simp [Instr.slice, Instr.sliceBounds, Instr.sliceBound, asIntOf, run_underlying Try.underlying56, run_size_one, Addr.add, hf]
def fromA (b f m c : Nat) : Option Addr := if c = f then some ⟨b, 0, none⟩ else some ⟨b, f * 6, none⟩
theorem slice_from {m c f b : Nat} (hf : f ≤ m) (hc : m ≤ c) (W : World) : (Instr.slice 56 (.slice (some ⟨b, 0, none⟩) m c) (some (.int .i64 (f : Int))) none none).run Try.prog W = .ok (.slice (fromA b f m c) (m - f) (c - f)) W := by
  have h0 : (0 : Int) ≤ (f : Int) ∧ (f : Int) ≤ (m : Int) := by omega
  unfold fromA
  by_cases hz : f = 0
  · subst hz
    simp [Instr.slice, Instr.sliceBounds, Instr.sliceBound, asIntOf, run_underlying Try.underlying56, run_size_one, Addr.add]
  have hz2 : ¬ f * 6 = 0 := by omega
  simp [Instr.slice, Instr.sliceBounds, Instr.sliceBound, asIntOf, run_underlying Try.underlying56, run_size_one, Addr.add, hf]
  rw [if_neg hz2]
theorem row_to {w : World} {lo b m c f : Nat} {D : List OneM} (h : MineR onR w lo (.slice (some ⟨b, 0, none⟩) m c) D) (hf : f ≤ D.length) : RowV onR w w.heap.size (.slice (some ⟨b, 0, none⟩) f c) (D.take f) := by
  obtain ⟨s, cap, e, h1, h2, h4⟩ := h.rows onR_ok
  cases e
  have hl : (D.take f).length = f := by rw [List.length_take]; omega
  refine ⟨some ⟨b, 0, none⟩, c, by rw [hl], by omega, h2, fun hne => ?_⟩
  obtain ⟨b', o', e, hb, hc⟩ := h4 (fun e => hne (by rw [e]; exact List.take_nil))
  cases e
  refine ⟨b, 0, rfl, hb, fun i x hx => hc i x ?_⟩
  have hi := (List.getElem?_eq_some_iff.1 hx).1
  rw [List.getElem?_take_of_lt (by omega)] at hx
  exact hx
theorem row_from {w : World} {lo b m c f : Nat} {D : List OneM} (h : MineR onR w lo (.slice (some ⟨b, 0, none⟩) m c) D) (hf : f ≤ D.length) : RowV onR w w.heap.size (.slice (fromA b f m c) (m - f) (c - f)) (D.drop f) := by
  obtain ⟨s, cap, e, h1, h2, h4⟩ := h.rows onR_ok
  cases e
  have hl : (D.drop f).length = D.length - f := List.length_drop
  refine ⟨_, c - f, by rw [hl], by omega, by omega, fun hne => ?_⟩
  obtain ⟨b', o', e, hb, hc⟩ := h4 (fun e => hne (by rw [e]; exact List.drop_nil))
  cases e
  have hlt : f < D.length := by
    rcases Nat.lt_or_ge f D.length with h | h
    · exact h
    · exact absurd (List.drop_eq_nil_of_le h) hne
  refine ⟨b, f * 6, by unfold fromA; rw [if_neg (by omega)], hb, fun i x hx => ?_⟩
  rw [List.getElem?_drop] at hx
  have := hc (f + i) x hx
  rw [Nat.zero_add, show (f + i) * onR.k = f * 6 + i * onR.k by rw [Nat.add_mul]; rfl] at this
  exact this
/-- The blocks that the law keeps: that of its peers, and those of what they are asked for. -/
def FL (va : Value) (L : List OneM) : Nat → Prop := fun q => slb va q ∨ ∃ o ∈ L, slb o.sv q
/-- What holds between the rounds; E: other blocks that stay. -/
structure Pl (w W : World) (g N : Nat) (E : Nat → Prop) (va : Value) (L : List OneM) (M : BkM) : Prop where
  I : InvP (L.map (·.p)) M
  F : HasF w W (fun q => FL va L q ∨ E q) g N M
  V : MineR onR W w.heap.size va L
  A : ∀ q ∈ L, RowV byR W W.heap.size q.sv q.p.ak
  X : ∀ q ∈ L, ∀ b, slb q.sv b → ¬ slb va b
theorem Pl.keep {w W W' : World} {g N : Nat} {E : Nat → Prop} {va : Value} {L : List OneM} {M : BkM} (h : Pl w W g N E va L M) (hb : Below W.heap.size W W') : Pl w W' g N E va L M :=
  ⟨h.I, h.F.keep hb, h.V.keep hb, fun q hq => ((h.A q hq).keep hb (Nat.le_refl _)).mono hb.size, h.X⟩
theorem Pl.more {w W W' : World} {g N : Nat} {E E' : Nat → Prop} {va : Value} {L : List OneM} {M : BkM} (h : Pl w W g N E va L M) (hb : Below W.heap.size W W') (hE : ∀ q, E' q → E q ∨ (W.heap.size ≤ q ∧ q < W'.heap.size)) : Pl w W' g N E' va L M :=
  ⟨h.I, h.F.more hb (fun q hq => hq.elim (fun e => .inl (.inl e)) (fun e => (hE q e).elim (fun e => .inl (.inr e)) .inr)), h.V.keep hb, fun q hq => ((h.A q hq).keep hb (Nat.le_refl _)).mono hb.size, h.X⟩
theorem Pl.less {w W : World} {g N N' : Nat} {E : Nat → Prop} {va : Value} {L : List OneM} {M : BkM} (h : Pl w W g N E va L M) (hN : N ≤ N') : Pl w W g N' (fun _ => False) va L M :=
  ⟨h.I, (h.F.more (Below.refl _ _) (fun q hq => hq.elim (fun e => .inl (.inl e)) (fun e => e.elim))).mono hN, h.V, h.A, h.X⟩
theorem Pl.same {w W W' : World} {g N N' : Nat} {E : Nat → Prop} {va : Value} {L : List OneM} {M M' : BkM} (h : Pl w W g N E va L M) (hF : HasF w W' (fun q => FL va L q ∨ E q) g N' M') (hs : SameF (fun q => FL va L q ∨ E q) W W') (hz : W.heap.size ≤ W'.heap.size) (hI : InvP (L.map (·.p)) M') : Pl w W' g N' E va L M' :=
  ⟨hI, hF, h.V.same hs (fun q hq => .inl (.inl hq)), fun q hq => ((h.A q hq).same hs (fun k hk => .inl (.inr ⟨q, hq, hk⟩))).mono hz, h.X⟩
theorem RowV.bnd {α : Type} {R : RowT α} {w : World} {B C : Nat} {v : Value} {L : List α} (h : RowV R w B v L) (hlt : ∀ k, slb v k → k < C) : RowV R w C v L := by
  obtain ⟨s, cap, rfl, h1, h2, h4⟩ := h
  refine ⟨s, cap, rfl, h1, h2, fun hne => ?_⟩
  obtain ⟨b, o, e, hb, hc⟩ := h4 hne
  exact ⟨b, o, e, hlt b (by rw [e]; exact slb_mk b o _ _), hc⟩
theorem HasF.lt {w W : World} {F : Nat → Prop} {g N : Nat} {M : BkM} (h : HasF w W F g N M) {k : Nat} (hk : F k) : k < W.heap.size := by
  obtain ⟨_, _, _, r, _⟩ := h
  exact (r k hk).1
/-- The same, but what peers and book say of each other. -/
structure Pq (w W : World) (g N : Nat) (E : Nat → Prop) (va : Value) (L : List OneM) (M : BkM) : Prop where
  F : HasF w W (fun q => FL va L q ∨ E q) g N M
  V : MineR onR W w.heap.size va L
  A : ∀ q ∈ L, RowV byR W W.heap.size q.sv q.p.ak
  X : ∀ q ∈ L, ∀ b, slb q.sv b → ¬ slb va b
theorem Pq.pl {w W : World} {g N : Nat} {E : Nat → Prop} {va : Value} {L : List OneM} {M : BkM} (h : Pq w W g N E va L M) (hI : InvP (L.map (·.p)) M) : Pl w W g N E va L M := ⟨hI, h.F, h.V, h.A, h.X⟩
theorem Pl.q {w W W' : World} {g N N' : Nat} {E : Nat → Prop} {va : Value} {L : List OneM} {M M' : BkM} (h : Pl w W g N E va L M) (hF : HasF w W' (fun q => FL va L q ∨ E q) g N' M') (hs : SameF (fun q => FL va L q ∨ E q) W W') : Pq w W' g N' E va L M' :=
  ⟨hF, h.V.same hs (fun q hq => .inl (.inl hq)), fun q hq => ((h.A q hq).same hs (fun k hk => .inl (.inr ⟨q, hq, hk⟩))).bnd (fun k hk => hF.lt (.inl (.inr ⟨q, hq, hk⟩))), h.X⟩
theorem Pq.more {w W W' : World} {g N : Nat} {E E' : Nat → Prop} {va : Value} {L : List OneM} {M : BkM} (h : Pq w W g N E va L M) (hb : Below W.heap.size W W') (hE : ∀ q, E' q → E q ∨ (W.heap.size ≤ q ∧ q < W'.heap.size)) : Pq w W' g N E' va L M :=
  ⟨h.F.more hb (fun q hq => hq.elim (fun e => .inl (.inl e)) (fun e => (hE q e).elim (fun e => .inl (.inr e)) .inr)), h.V.keep hb, fun q hq => ((h.A q hq).keep hb (Nat.le_refl _)).mono hb.size, h.X⟩
theorem Pq.less {w W : World} {g N N' : Nat} {E : Nat → Prop} {va : Value} {L : List OneM} {M : BkM} (h : Pq w W g N E va L M) (hN : N ≤ N') : Pq w W g N' (fun _ => False) va L M :=
  ⟨(h.F.more (Below.refl _ _) (fun q hq => hq.elim (fun e => .inl (.inl e)) (fun e => e.elim))).mono hN, h.V, h.A, h.X⟩
theorem Pq.rowK {w W W' : World} {g N : Nat} {E : Nat → Prop} {va : Value} {L : List OneM} {M : BkM} (h : Pq w W g N E va L M) (hbut : But (slb va) W W') {q : OneM} (hq : q ∈ L) : RowV byR W' W'.heap.size q.sv q.p.ak :=
  ((h.A q hq).same (F := slb q.sv) (fun k hk => hbut.block k (h.F.lt (.inl (.inr ⟨q, hq, hk⟩))) (h.X q hq k hk)) (fun _ h => h)).mono hbut.size
/-- One more. -/
theorem Pq.app1 {w W W' : World} {g N : Nat} {E : Nat → Prop} {va v' : Value} {L : List OneM} {M : BkM} {i : Int} (h : Pq w W g N E va L M) (hbut : But (slb va) W W') (hm : MineR onR W' w.heap.size v' (L ++ [⟨newP i, none, 0⟩])) (hs : ∀ k, slb v' k → slb va k ∨ W.heap.size ≤ k) :
    Pq w W' g N (fun _ => False) v' (L ++ [⟨newP i, none, 0⟩]) M := by
  refine ⟨h.F.app hbut (fun k hk _ => ⟨.inl (.inl hk), (h.V.slb_lo hk).1⟩) (fun k hk => ?_), hm, fun q hq => ?_, fun q hq b hb hv => ?_⟩
  · rcases hk with (hk | ⟨o, ho, hk⟩) | hk
    · rcases hs k hk with h' | h'
      · exact .inl (.inl (.inl h'))
      · exact .inr ⟨h', (hm.slb_lo hk).2.1⟩
    · rcases List.mem_append.1 ho with ho | ho
      · exact .inl (.inl (.inr ⟨o, ho, hk⟩))
      · rw [List.mem_singleton.1 ho] at hk
        exact absurd hk (slb_none _ _ _)
    · exact hk.elim
  · rcases List.mem_append.1 hq with hq | hq
    · exact h.rowK hbut hq
    · rw [List.mem_singleton.1 hq]
      exact ⟨none, 0, rfl, Nat.le_refl _, by decide, fun e => absurd rfl e⟩
  · rcases List.mem_append.1 hq with hq | hq
    · rcases hs b hv with h' | h'
      · exact h.X q hq b hb h'
      · have := h.F.lt (.inl (.inr ⟨q, hq, hb⟩))
        omega
    · rw [List.mem_singleton.1 hq] at hb
      exact slb_none _ _ _ hb
/-- Some of them, in a row of their own. -/
theorem Pq.part {w W W' : World} {g N : Nat} {E : Nat → Prop} {va v' : Value} {L L' : List OneM} {M : BkM} (h : Pq w W g N E va L M) (hb : Below W.heap.size W W') (hm : MineR onR W' w.heap.size v' L') (hs : ∀ k, slb v' k → W.heap.size ≤ k) (hsub : ∀ q ∈ L', q ∈ L) :
    Pq w W' g N (fun _ => False) v' L' M := by
  refine ⟨h.F.more hb (fun k hk => ?_), hm, fun q hq => ((h.A q (hsub q hq)).keep hb (Nat.le_refl _)).mono hb.size, fun q hq b hb' hv => ?_⟩
  · rcases hk with (hk | ⟨o, ho, hk⟩) | hk
    · exact .inr ⟨hs k hk, (hm.slb_lo hk).2.1⟩
    · exact .inl (.inl (.inr ⟨o, hsub o ho, hk⟩))
    · exact hk.elim
  · have := h.F.lt (.inl (.inr ⟨q, hsub q hq, hb'⟩))
    have := hs b hv
    omega
/-- One is another one now. -/
theorem Pq.set {w W W' : World} {g N : Nat} {E : Nat → Prop} {va : Value} {L : List OneM} {M : BkM} {i : Nat} {o' : OneM} (h : Pq w W g N E va L M) (hbut : But (slb va) W W') (hm : MineR onR W' w.heap.size va (L.set i o')) (hr : RowV byR W W.heap.size o'.sv o'.p.ak)
    (hx : ∀ b, slb o'.sv b → ((∃ o ∈ L, slb o.sv b) ∨ E b) ∧ ¬ slb va b) : Pq w W' g N (fun _ => False) va (L.set i o') M := by
  have hmem : ∀ q ∈ L.set i o', q = o' ∨ q ∈ L := fun q hq => (List.mem_or_eq_of_mem_set hq).symm
  refine ⟨h.F.app hbut (fun k hk _ => ⟨.inl (.inl hk), (h.V.slb_lo hk).1⟩) (fun k hk => ?_), hm, fun q hq => ?_, fun q hq b hb hv => ?_⟩
  · rcases hk with (hk | ⟨o, ho, hk⟩) | hk
    · exact .inl (.inl (.inl hk))
    · rcases hmem o ho with rfl | ho
      · rcases (hx k hk).1 with h' | h'
        · exact .inl (.inl (.inr h'))
        · exact .inl (.inr h')
      · exact .inl (.inl (.inr ⟨o, ho, hk⟩))
    · exact hk.elim
  · rcases hmem q hq with rfl | hq
    · exact (hr.same (F := slb q.sv) (fun k hk => hbut.block k (h.F.lt ((hx k hk).1.elim (fun h' => .inl (.inr h')) .inr)) (hx k hk).2) (fun _ h => h)).mono hbut.size
    · exact h.rowK hbut hq
  · rcases hmem q hq with rfl | hq
    · exact (hx b hb).2 hv
    · exact h.X q hq b hb hv
theorem MineR.cell1 {w : World} {b k n c lo j : Nat} {D : List OneM} {x x' : OneM} {v : Value} (h : MineR onR w lo (.slice (some ⟨b, 0, none⟩) n c) D) (hx : D[k]? = some x) (hj : j < 6) (hc : (onL x).set j v = onL x') :
    MineR onR (w.setCell ⟨b, k * 6 + j, none⟩ v) lo (.slice (some ⟨b, 0, none⟩) n c) (D.set k x') := by
  rcases h with ⟨e, _⟩ | ⟨T', cap, z, e, hc1, hc2, hT, K⟩
  · cases e
  · cases e
    have hk := (List.getElem?_eq_some_iff.1 hx).1
    refine .inr ⟨b, c, z, by rw [List.length_set], by rw [List.length_set]; exact hc1, hc2, hT, ?_⟩
    have hx' : (D ++ List.replicate z onR.z)[k]? = some x := by rw [List.getElem?_append_left hk]; exact hx
    have e := Bk.set_ K (k * 6 + j) v
    have e2 := flat_cell onR_ok (D ++ List.replicate z onR.z) k j x x' v hx' hj hc
    change (onR.flat (D ++ List.replicate z onR.z)).toArray.setIfInBounds (k * 6 + j) v = _ at e2
    rw [e2, List.set_append_left _ _ hk] at e
    exact e
theorem MineR.row1 {w : World} {b k n c lo : Nat} {D : List OneM} {x' : OneM} (h : MineR onR w lo (.slice (some ⟨b, 0, none⟩) n c) D) (hk : k < D.length) :
    MineR onR (w.setCells b (k * 6) (onL x')) lo (.slice (some ⟨b, 0, none⟩) n c) (D.set k x') := by
  rcases h with ⟨e, _⟩ | ⟨T', cap, z, e, hc1, hc2, hT, K⟩
  · cases e
  · cases e
    refine .inr ⟨b, c, z, by rw [List.length_set], by rw [List.length_set]; exact hc1, hc2, hT, ?_⟩
    have hi : k < (D ++ List.replicate z onR.z).length := by rw [List.length_append]; omega
    have e := Bk.ovr_ (w := w) (onL x') (k * 6) _ _ K
    have e2 := flat_set onR_ok (D ++ List.replicate z onR.z) k x' hi
    change ovr (onR.flat (D ++ List.replicate z onR.z)).toArray (k * 6) (onL x') = _ at e2
    rw [e2, List.set_append_left _ _ hk] at e
    exact e
theorem MineR.at1 {w : World} {lo : Nat} {v : Value} {D : List OneM} (h : MineR onR w lo v D) {k : Nat} {x : OneM} (hx : D[k]? = some x) : ∃ b c T, v = .slice (some ⟨b, 0, none⟩) D.length c ∧ lo ≤ b ∧ b < w.heap.size ∧ w.rangeAt b (0 + k * 6) (onL x) ∧ Bk w b 60 T ∧ k * 6 + 6 ≤ T.size := by
  have hk := (List.getElem?_eq_some_iff.1 hx).1
  rcases h with ⟨_, e⟩ | ⟨T', cap, z, e, hc, hc2, hT, K⟩
  · rw [e] at hk; simp at hk
  · refine ⟨T', cap, _, e, hT, K.lt, rowr_row onR_ok K k x hx, K, ?_⟩
    rw [List.size_toArray, onR_ok.flat_len, List.length_append]
    show _ ≤ _ * 6
    omega
end Go.Proofs.Ytcedljfdnbenoaa
