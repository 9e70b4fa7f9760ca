/-
  Package ban: a law's own rows beside a table.
-/
import Derived.Test.YtckmkbnmbleegaaBanI
namespace Go.Proofs.Ytckmkbnmbleegaa
open Go.RowKit
set_option linter.unusedVariables false
set_option linter.unusedSimpArgs false
set_option maxRecDepth 100000

def pairR : RowT BanM := ⟨23, 28, 2, 16, bnL, ⟨0, 0⟩⟩
theorem pair_facts : (Try.prog.info? 23).map (fun i => (i.zero.map (·.cells), i.size, i.bytes)) = some (some #[.int .i64 0, .int .i64 0], 2, 16) := by kernel_rfl
theorem pair_info : ∃ i v, Try.prog.info? 23 = some i ∧ i.zero = some v ∧ i.size = 2 ∧ i.bytes = 16 ∧ v.cells = #[.int .i64 0, .int .i64 0] := by
  obtain ⟨i, hi, hs⟩ := Option.map_eq_some_iff.1 pair_facts
  simp only [Prod.mk.injEq, Option.map_eq_some_iff] at hs
  obtain ⟨⟨v, hv, hc⟩, h1, h2⟩ := hs
  exact ⟨i, v, hi, hv, h1, h2, hc⟩
theorem pairR_ok : pairR.Ok where
  ht := Try.underlying28
  info := pair_info
  len := fun x => rfl
  one := fun x v hv => by
    rcases List.mem_cons.1 hv with rfl | hv
    · rfl
    · rw [List.mem_singleton.1 hv]; rfl
  pos := by decide
  bys := by decide
theorem Tab.appP {w W : World} {T : Nat} {v : Value} {lo lo2 : Nat} {M : List BanM} {v8 : Value} {KL : List BanM} (h : Tab w T v lo M) (hK : MineR pairR w lo2 v8 KL) (hb : But (slb v8) w W) : Tab W T v lo M :=
  ⟨hb.keep h.G (hK.apart h.G (by decide)), h.M.but_ hb (fun k hk hk8 => by
    obtain ⟨_, _, ys, K⟩ := h.M.slb_lo hk
    exact (hK.apart K (by decide)) hk8)⟩
theorem MineR.turnedP {w W : World} {T : Nat} {v : Value} {lo lo2 : Nat} {M : List BanM} {v8 : Value} {KL : List BanM} (hK : MineR pairR w lo2 v8 KL) (h : Tab w T v lo M) (hb : But (fun k => k = T ∨ slb v k) w W) : MineR pairR W lo2 v8 KL :=
  hK.but_ hb (fun k hk hs => by
    rcases hs with rfl | hs
    · exact (hK.apart h.G (by decide)) hk
    · obtain ⟨_, _, ys, K⟩ := h.M.slb_lo hs
      exact (hK.apart K (by decide)) hk)
/-- One row's second part is written. -/
theorem MineR.setP {w : World} {b k : Nat} {n c : Nat} {lo : Nat} {D : List BanM} {x : BanM} (h : MineR pairR w lo (.slice (some ⟨b, 0, none⟩) n c) D) (hx : D[k]? = some x) (u : Int) :
    MineR pairR (w.setCell ⟨b, k * 2 + 1, none⟩ (.int .i64 u)) lo (.slice (some ⟨b, 0, none⟩) n c) (D.set k ⟨x.addr, u⟩) := by
  rcases h with ⟨e, _⟩ | ⟨T', cap, z, e, hc, hc2, hT, K⟩
  · cases e
  · cases e
    have hk := (List.getElem?_eq_some_iff.1 hx).1
    refine .inr ⟨b, c, z, by rw [List.length_set], by rw [List.length_set]; exact hc, hc2, hT, ?_⟩
    have hx' : (D ++ List.replicate z pairR.z)[k]? = some x := by rw [List.getElem?_append_left hk]; exact hx
    have hi : k < (D ++ List.replicate z pairR.z).length := by rw [List.length_append]; omega
    have e := Bk.set_ K (k * 2 + 1) (.int .i64 u)
    have e2 := flat_set pairR_ok (D ++ List.replicate z pairR.z) k ⟨x.addr, u⟩ hi
    have e3 : (pairR.flat (D ++ List.replicate z pairR.z)).toArray.setIfInBounds (k * 2) (.int .i64 x.addr) = (pairR.flat (D ++ List.replicate z pairR.z)).toArray := by
      refine set_same _ _ _ ?_
      rw [List.getElem?_toArray]
      exact pairR_ok.flat_get _ k 0 x hx' (by decide)
    change ((pairR.flat (D ++ List.replicate z pairR.z)).toArray.setIfInBounds (k * 2) (.int .i64 x.addr)).setIfInBounds (k * 2 + 1) (.int .i64 u) = _ at e2
    rw [e3] at e2
    rw [← List.set_append_left _ _ hk, ← e2]
    exact e
theorem MineR.getP {w : World} {lo : Nat} {v : Value} {D : List BanM} (h : MineR pairR w lo v D) {k : Nat} {x : BanM} (hx : D[k]? = some x) : ∃ b c, v = .slice (some ⟨b, 0, none⟩) D.length c ∧ lo ≤ b ∧ b < w.heap.size ∧
    w.cell? ⟨b, k * 2, none⟩ = some (.int .i64 x.addr) ∧ w.cell? ⟨b, k * 2 + 1, none⟩ = some (.int .i64 x.til) ∧ w.frozen? ⟨b, k * 2 + 1, none⟩ = false := by
  have hk := (List.getElem?_eq_some_iff.1 hx).1
  rcases h with ⟨_, e⟩ | ⟨T', cap, z, e, hc, hc2, hT, K⟩
  · rw [e] at hk; simp at hk
  · have hx' : (D ++ List.replicate z pairR.z)[k]? = some x := by rw [List.getElem?_append_left hk]; exact hx
    refine ⟨T', cap, e, hT, K.lt, ?_, ?_, K.frozen _⟩
    · rw [K.cell, List.getElem?_toArray]
      exact pairR_ok.flat_get _ k 0 x hx' (by decide)
    · rw [K.cell, List.getElem?_toArray]
      exact pairR_ok.flat_get _ k 1 x hx' (by decide)
theorem list_set_same {D : List BanM} {k : Nat} {x : BanM} (h : D[k]? = some x) : D.set k x = D := by
  obtain ⟨hk, e⟩ := List.getElem?_eq_some_iff.1 h
  rw [← e, List.set_getElem_self]
theorem slice_inj {s s' : Option Addr} {n n' c c' : Nat} (h : Value.slice s n c = .slice s' n' c') : s = s' ∧ n = n' ∧ c = c' := by
  injection h with h1 h2 h3
  exact ⟨h1, h2, h3⟩
theorem minL_snoc (x : BanM) (l : List BanM) : ∀ m, minL m (l ++ [x]) = if x.til < (minL m l).til then x else minL m l := by
  induction l with
  | nil => intro m; rfl
  | cons y r ih => intro m; exact ih _
/-- One more looked at for the shortest. -/
theorem min_step {y x : BanM} {r : List BanM} {j : Nat} (hx : (y :: r)[j]? = some x) : minL y (r.take (j + 1 - 1)) = if x.til < (minL y (r.take (j - 1))).til then x else minL y (r.take (j - 1)) := by
  cases j with
  | zero =>
    obtain rfl : y = x := by simpa using hx
    show minL y (r.take 0) = if y.til < (minL y (r.take 0)).til then y else minL y (r.take 0)
    rw [List.take_zero]
    show y = if y.til < y.til then y else y
    rw [if_neg (by omega)]
  | succ j =>
    have hx2 : r[j]? = some x := by simpa using hx
    show minL y (r.take (j + 1)) = if x.til < (minL y (r.take j)).til then x else minL y (r.take j)
    rw [List.take_add_one, hx2]
    exact minL_snoc x _ y
/-- All of an address are banned longer. -/
def upA (a u : Int) (x : BanM) : BanM := if isA a x = true then ⟨x.addr, max x.til u⟩ else x
theorem raise_map {a u : Int} {M : List BanM} (h : (ads M).Nodup) : raise a u M = M.map (upA a u) := by
  induction M with
  | nil => rfl
  | cons x r ih =>
    have hr : (ads r).Nodup := (List.nodup_cons.1 h).2
    have hxr : x.addr ∉ ads r := (List.nodup_cons.1 h).1
    unfold raise
    rw [List.map_cons]
    by_cases hx : isA a x = true
    · rw [if_pos hx]
      have ha : x.addr = a := by simpa [isA] using hx
      have e1 : upA a u x = ⟨x.addr, max x.til u⟩ := by unfold upA; rw [if_pos hx]
      have e2 : r.map (upA a u) = r := by
        refine (List.map_congr_left (fun y hy => ?_)).trans (List.map_id r)
        have hy2 : ¬ isA a y = true := fun e => hxr (by
          have : y.addr = a := by simpa [isA] using e
          rw [ha, ← this]
          exact List.mem_map.2 ⟨y, hy, rfl⟩)
        show upA a u y = id y
        unfold upA
        rw [if_neg hy2]
        rfl
      rw [e1, e2]
    · rw [if_neg hx]
      have e1 : upA a u x = x := by unfold upA; rw [if_neg hx]
      rw [e1, ih hr]
theorem map_none {a u : Int} {M : List BanM} (h : M.find? (isA a) = none) : M.map (upA a u) = M := by
  refine (List.map_congr_left (fun y hy => ?_)).trans (List.map_id M)
  have := List.find?_eq_none.1 h y hy
  show upA a u y = id y
  unfold upA
  rw [if_neg this]
  rfl
theorem any_find {a : Int} {M : List BanM} : M.any (isA a) = (M.find? (isA a)).isSome := by
  rw [List.isSome_find?]
/-- Without the one of an address, if they are unlike. -/
theorem filter_erase {D : List BanM} (h : (ads D).Nodup) : ∀ {f : Nat} {x : BanM}, D[f]? = some x → D.filter (fun y => !isA x.addr y) = D.take f ++ D.drop (f + 1) := by
  induction D with
  | nil => intro f x hx; cases hx
  | cons y r ih =>
    intro f x hx
    have hr : (ads r).Nodup := (List.nodup_cons.1 h).2
    have hyr : y.addr ∉ ads r := (List.nodup_cons.1 h).1
    cases f with
    | zero =>
      obtain rfl : y = x := by simpa using hx
      rw [List.filter_cons_of_neg (by simp [isA])]
      show _ = [] ++ r
      rw [List.nil_append]
      refine List.filter_eq_self.2 (fun z hz => ?_)
      simp only [isA, Bool.not_eq_true', beq_eq_false_iff_ne]
      intro e
      exact hyr (by rw [← e]; exact List.mem_map.2 ⟨z, hz, rfl⟩)
    | succ f =>
      have hx2 : r[f]? = some x := by simpa using hx
      have hne : (!isA x.addr y) = true := by
        simp only [isA, Bool.not_eq_true', beq_eq_false_iff_ne]
        intro e
        exact hyr (by rw [e]; exact List.mem_map.2 ⟨x, List.mem_of_getElem? hx2, rfl⟩)
      rw [List.filter_cons_of_pos (p := fun y => !isA x.addr y) hne, ih hr hx2]
      rfl
/-- The last one of an address. -/
def lastT (M : List BanM) (a : Int) : Int × Bool := M.foldl (fun s x => if isA a x = true then (x.til, true) else s) (0, false)
theorem lastT_snoc (M : List BanM) (a : Int) (x : BanM) : lastT (M ++ [x]) a = if isA a x = true then (x.til, true) else lastT M a := by
  unfold lastT
  rw [List.foldl_append]
  rfl
theorem foldT {a : Int} {M : List BanM} (h : (ads M).Nodup) : ∀ s : Int × Bool, M.foldl (fun s x => if isA a x = true then (x.til, true) else s) s = match M.find? (isA a) with | some x => (x.til, true) | none => s := by
  induction M with
  | nil => intro s; rfl
  | cons x r ih =>
    intro s
    have hr : (ads r).Nodup := (List.nodup_cons.1 h).2
    have hxr : x.addr ∉ ads r := (List.nodup_cons.1 h).1
    rw [List.foldl_cons, ih hr]
    by_cases hx : isA a x = true
    · have ha : x.addr = a := by simpa [isA] using hx
      rw [if_pos hx, List.find?_cons_of_pos hx, (find_none_iff a r).2 (by rw [← ha]; exact hxr)]
    · rw [if_neg hx, List.find?_cons_of_neg hx]
theorem lastT_til {M : List BanM} (h : (ads M).Nodup) (a : Int) : lastT M a = til M a := by
  unfold lastT til
  rw [foldT h]
  cases M.find? (isA a) <;> rfl
theorem step_app {α : Type} {R : RowT α} (h : R.Ok) {ops : Array Oper} {o : Oper} {a : Act} {w : World} {K : Act → World → Prop} {Q : Exit → Act → World → Prop} {E : Prop} {v1 v2 : Value} (xs ys : List α) (lo : Nat)
    (hg : o.guard = none) (s y : Operand) (hop : o.op = Op.call { callee := Callee.builtin Builtin.append, args := #[s, y], argTypes := #[R.t, R.t] }) (hty : o.type = R.t)
    (hs : a.eval s = v1) (hy : a.eval y = v2) (hm : MineR R w lo v1 xs) (hlo : lo ≤ w.heap.size) (hu : RowV R w w.heap.size v2 ys) (hlt : xs.length + ys.length ≤ 1048576)
    (hK : ∀ v W, MineR R W lo v (xs ++ ys) → But (slb v1) w W → (∀ k, slb v k → slb v1 k ∨ w.heap.size ≤ k) → K (a.put o.dst v) W) :
    if Region.wanted o (yielded ops a.tmps) = true then Oper.wp Try.prog o a w K Q else E := by
  obtain ⟨v, W, hrun, hM, hb, hbut⟩ := appR h xs ys v1 v2 lo w hm hlo hu hlt
  have hw : Region.wanted o (yielded ops a.tmps) = true := by simp [Region.wanted, hg]
  rw [if_pos hw]
  unfold Oper.wp
  simp [execOp, hop, resolve, invoke, builtin, hs, hy, hty, hrun, Result.andThen]
  exact hK v W hM hb hbut
theorem size_pair : (Try.prog.info? 23).map (·.size) = some 2 := by kernel_rfl
theorem run_size_pair (w : World) : (Go.sizeOf 23).run Try.prog w = .ok 2 w := by
  obtain ⟨i, hi, hn⟩ := Option.map_eq_some_iff.1 size_pair
  simp [Go.sizeOf, typeInfo, hi, hn]
theorem slice_to {m c f b : Nat} (hf : f ≤ c) (W : World) : (Instr.slice 28 (.slice (some ⟨b, 0, none⟩) m c) none (some (.int .i64 (f : Int))) none).run Try.prog W = .ok (.slice (some ⟨b, 0, none⟩) f c) W := by
  have h0 : (0 : Int) ≤ (f : Int) ∧ (f : Int) ≤ (c : Int) := by omega
  simp [Instr.slice, Instr.sliceBounds, Instr.sliceBound, asIntOf, run_underlying Try.underlying28, run_size_pair, Addr.add, hf]
def fromA (b f m c : Nat) : Option Addr := if c = f then some ⟨b, 0, none⟩ else some ⟨b, f * 2, none⟩
theorem slice_from {m c f b : Nat} (hf : f ≤ m) (hc : m ≤ c) (W : World) : (Instr.slice 28 (.slice (some ⟨b, 0, none⟩) m c) (some (.int .i64 (f : Int))) none none).run Try.prog W = .ok (.slice (fromA b f m c) (m - f) (c - f)) W := by
  have h0 : (0 : Int) ≤ (f : Int) ∧ (f : Int) ≤ (m : Int) := by omega
  unfold fromA
  by_cases hz : f = 0
  · subst hz
    simp [Instr.slice, Instr.sliceBounds, Instr.sliceBound, asIntOf, run_underlying Try.underlying28, run_size_pair, Addr.add]
  have hz2 : ¬ f * 2 = 0 := by omega
  simp [Instr.slice, Instr.sliceBounds, Instr.sliceBound, asIntOf, run_underlying Try.underlying28, run_size_pair, Addr.add, hf]
  rw [if_neg hz2]
theorem row_to {w : World} {lo b m c f : Nat} {D : List BanM} (h : MineR pairR w lo (.slice (some ⟨b, 0, none⟩) m c) D) (hf : f ≤ D.length) : RowV pairR w w.heap.size (.slice (some ⟨b, 0, none⟩) f c) (D.take f) := by
  obtain ⟨s, cap, e, h1, h2, h4⟩ := h.rows pairR_ok
  cases e
  have hl : (D.take f).length = f := by rw [List.length_take]; omega
  refine ⟨some ⟨b, 0, none⟩, c, by rw [hl], by omega, h2, fun hne => ?_⟩
  obtain ⟨b', o', e, hb, hc⟩ := h4 (fun e => hne (by rw [e]; exact List.take_nil))
  cases e
  refine ⟨b, 0, rfl, hb, fun i x hx => hc i x ?_⟩
  have hi := (List.getElem?_eq_some_iff.1 hx).1
  rw [List.getElem?_take_of_lt (by omega)] at hx
  exact hx
theorem row_from {w : World} {lo b m c f : Nat} {D : List BanM} (h : MineR pairR w lo (.slice (some ⟨b, 0, none⟩) m c) D) (hf : f ≤ D.length) : RowV pairR w w.heap.size (.slice (fromA b f m c) (m - f) (c - f)) (D.drop f) := by
  obtain ⟨s, cap, e, h1, h2, h4⟩ := h.rows pairR_ok
  cases e
  have hl : (D.drop f).length = D.length - f := List.length_drop
  refine ⟨_, c - f, by rw [hl], by omega, by omega, fun hne => ?_⟩
  obtain ⟨b', o', e, hb, hc⟩ := h4 (fun e => hne (by rw [e]; exact List.drop_nil))
  cases e
  have hlt : f < D.length := by
    rcases Nat.lt_or_ge f D.length with h | h
    · exact h
    · exact absurd (List.drop_eq_nil_of_le h) hne
  refine ⟨b, f * 2, by unfold fromA; rw [if_neg (by omega)], hb, fun i x hx => ?_⟩
  rw [List.getElem?_drop] at hx
  have := hc (f + i) x hx
  rw [Nat.zero_add, show (f + i) * pairR.k = f * 2 + i * pairR.k by rw [Nat.add_mul]; rfl] at this
  exact this
end Go.Proofs.Ytckmkbnmbleegaa
