/-
  Package trace: who isn't asked any more; who goes.
-/
import Derived.Test.YtcedljfdnbenoaaTrC
import Derived.Deep.RegionHeld
namespace Go.Proofs.Ytcedljfdnbenoaa
open Go.RowKit
open Go.Maps (Keyed IsMap)
set_option linter.unusedVariables false
set_option linter.unusedSimpArgs false
set_option maxRecDepth 100000

/-- One isn't asked for a block any more. -/
def freeM (M : BkM) (id : Int) (x : I32) : BkM := if M.A x = some id then { M with A := upd M.A x none, L := fun j => if j = id then (M.L id).filter (fun z => !decide (z = x)) else M.L j } else M
theorem id_load (w : World) (q : Nat) (t : TypeId) (x : I32) (K : Bk w q t (idL x).toArray) : (loadCellsFrom ⟨q, 0, none⟩ 0 32 #[]).run Try.prog w = .ok (idL x).toArray w := by
  have e := run_loadCells_list (P := Try.prog) w ⟨q, 0, none⟩ (idL x) (fun j v hv => by
    rw [Addr.add_mid]
    have := idb_range K j v hv
    simpa using this)
  rw [idL_len] at e
  exact e
theorem id_agg (w : World) : (isAgg 36).run Try.prog w = .ok true w := by kernel_rfl
theorem id_sz (w : World) : (sizeOf 36).run Try.prog w = .ok 32 w := by kernel_rfl
/-- A delete whose outcome is known, as a step of a region that draws. -/
theorem step_dl {ops : Array Oper} {o : Oper} {a : Act} {w W : World} {K : Act → World → Prop} {Q : Exit → Act → World → Prop} {E : Prop} {M X V : Value} (hg : o.guard = none) (m x : Operand) (t k : TypeId)
    (hop : o.op = Op.call { callee := Callee.builtin Builtin.delete, args := #[m, x], argTypes := #[t, k] })
    (hm : a.eval m = M) (hx : a.eval x = X) (hrun : (Builtin.delete_ #[t, k] o.type #[M, X]).run Try.prog w = .ok V W) (hK : K (a.put o.dst V) W) :
    if Region.wanted o (yielded ops a.tmps) = true then Oper.wp Try.prog o a w K Q else E := by
  have hw : Region.wanted o (yielded ops a.tmps) = true := by simp [Region.wanted, hg]
  rw [if_pos hw]
  unfold Oper.wp
  simp [execOp, hop, resolve, invoke, builtin, hm, hx, hrun, Result.andThen]
  exact hK
theorem step_mu {ops : Array Oper} {o : Oper} {a : Act} {w W : World} {K : Act → World → Prop} {Q : Exit → Act → World → Prop} {E : Prop} {M X V : Value} (hg : o.guard = none) (m x v : Operand) (t : TypeId) (hop : o.op = Op.mapUpdate t m x v)
    (hm : a.eval m = M) (hx : a.eval x = X) (hv : a.eval v = V) (hrun : (Instr.mapUpdate t M X V).run Try.prog w = .ok () W) (hK : K (a.put o.dst undef) W) :
    if Region.wanted o (yielded ops a.tmps) = true then Oper.wp Try.prog o a w K Q else E := by
  have hw : Region.wanted o (yielded ops a.tmps) = true := by simp [Region.wanted, hg]
  rw [if_pos hw]
  unfold Oper.wp
  simp [execOp, hop, hm, hx, hv, hrun, Result.andThen]
  exact hK
theorem free_goes {w : World} {S : Nat → Prop} {g N : Nat} {M : BkM} {tv av : Value} {sz : Nat} {P : Int → Nat} (h : BkJ w S g M tv av sz P) (hsz : sz ≤ N) (id : Int) (x : I32) (hx : M.A x = some id) (ty : TypeId) :
    ∃ w', (Builtin.delete_ #[25, 36] ty #[av, idV x]).run Try.prog w = .ok (.tuple #[]) w' ∧ Goes S w g N (freeM M id x) w' ∧ ∀ k t cs, Bk w k t cs → Bk w' k t cs := by
  obtain ⟨w', hrun, hm, hb⟩ := h.ma.del akE_ok (x := x) trivial ty
  have hgn : ∀ k, (∃ t cs, Bk w k t cs) → av ≠ .map (some k) := fun k ⟨t, cs, K⟩ e => by
    rcases h.ma with ⟨e', _⟩ | ⟨b, e', D, hD, _⟩
    · rw [e'] at e; cases e
    · rw [e'] at e
      cases e
      obtain ⟨es, clock, hb, _⟩ := hD
      unfold Bk at K
      rw [hb] at K
      cases K
  refine ⟨w', hrun, ⟨S, ⟨tv, av, if (M.A x).isSome = true then sz - 1 else sz, P, ?_, ?_⟩, fun k hk => .inl hk, hb.mono (fun k _ e => h.sa k e)⟩, fun k t cs K => hb.keep K (hgn k ⟨t, cs, K⟩)⟩
  · split <;> omega
  unfold freeM
  rw [if_pos hx]
  refine ⟨hb.keep h.G (hgn _ ⟨_, _, h.G⟩), h.sg, h.mt.but hb (fun k e => h.ne k e), hm, h.st, h.sa, h.ne, h.nn, fun z j => ?_, fun j => ?_, fun i k e => ⟨(h.tk i k e).1, hb.keep (h.tk i k e).2 (hgn _ ⟨_, _, (h.tk i k e).2⟩)⟩, h.tj⟩
  · show upd M.A x none z = some j ↔ z ∈ (if j = id then (M.L id).filter (fun z => !decide (z = x)) else M.L j)
    by_cases ez : z = x
    · subst ez
      rw [upd_same]
      refine ⟨fun e => (by cases e), fun e => ?_⟩
      by_cases ej : j = id
      · rw [if_pos ej] at e
        have := (List.mem_filter.1 e).2
        simp at this
      · rw [if_neg ej] at e
        have := (h.hA z j).2 e
        rw [hx] at this
        exact absurd (Option.some.inj this).symm ej
    · rw [upd_other _ _ ez, h.hA z j]
      by_cases ej : j = id
      · rw [if_pos ej, ej, List.mem_filter]
        simp [ez]
      · rw [if_neg ej]
  · show (if j = id then (M.L id).filter (fun z => !decide (z = x)) else M.L j).Nodup
    split
    · exact (h.nd id).filter _
    · exact h.nd j
set_option maxHeartbeats 4000000 in
theorem free_any {w : World} {S : Nat → Prop} {g N : Nat} {M : BkM} (h : BkI w S g N M) (id : Int) (x : I32) :
    Calls Try.prog 19 #[bkP g, .int .i64 id, idV x] w fun e w' => e = .returned (.tuple #[]) ∧ Goes S w g N (freeM M id x) w' := by
  obtain ⟨tv, av, sz, P, h1, h⟩ := h
  obtain ⟨w1, hw1⟩ : ∃ w1, w1 = w.alloc (.cells (idL x).toArray 36) := ⟨_, rfl⟩
  have hB : Below w.heap.size w w1 := by rw [hw1]; exact (Below.refl _ _).alloc (Nat.le_refl _) _
  have h2 := h.keep hB
  have hc : ∀ W, Below w1.heap.size w1 W → W.cell? ⟨g, 1, none⟩ = some av := fun W hb => (h2.keep hb).G.cell 1
  have hl : ∀ W, Below w1.heap.size w1 W → (Instr.lookup 25 av (.agg (idL x).toArray) true).run Try.prog W = .ok (Value.tuple #[valO akE (M.A x), .bool (M.A x).isSome]) W := fun W hb => (h2.keep hb).ma.look akE_ok (x := x) trivial
  have hK : Bk w1 w.heap.size 36 (idL x).toArray := by rw [hw1]; exact Bk.new _ _ _
  obtain ⟨tl, htl⟩ : ∃ tl : TypeId, tl = 36 := ⟨_, rfl⟩
  obtain ⟨s32, hs32⟩ : ∃ sz : Nat, sz = 32 := ⟨_, rfl⟩
  have hag : ∀ w, (isAgg tl).run Try.prog w = .ok true w := by rw [htl]; exact id_agg
  have hsz : ∀ w, (sizeOf tl).run Try.prog w = .ok s32 w := by rw [htl, hs32]; exact id_sz
  have hla : ∀ W, Below w1.heap.size w1 W → (loadCellsFrom ⟨w.heap.size, 0, none⟩ 0 s32 #[]).run Try.prog W = .ok (idL x).toArray W := by rw [hs32]; exact fun W hb => id_load _ _ _ _ (hK.keep hb)
  have HTL := Lib.hid (show ∀ z, Op.load 36 z = Op.load tl z from fun z => by rw [htl])
  have hdel : M.A x = some id → ∃ w', (Builtin.delete_ #[25, 36] 0 #[av, .agg (idL x).toArray]).run Try.prog w1.drew.drew = .ok (.tuple #[]) w' ∧ Goes S w g N (freeM M id x) w' ∧ w'.cell? ⟨g, 1, none⟩ = some av ∧ (loadCellsFrom ⟨w.heap.size, 0, none⟩ 0 s32 #[]).run Try.prog w' = .ok (idL x).toArray w' := fun hx => by
    obtain ⟨w', r1, ⟨S', r2, r3, r4⟩, r5⟩ := free_goes (h2.keep ((Below.refl _ w1).drew.drew)) h1 id x hx 0
    exact ⟨w', r1, ⟨S', r2, fun k hk => (r3 k hk).elim .inl (fun h => .inr (Nat.le_trans hB.size h)), (But.of (S := S) (hB.trans (((Below.refl _ w1).drew.drew).mono hB.size))).trans r4 (fun i _ h => h)⟩, (r5 _ _ _ (h2.keep ((Below.refl _ w1).drew.drew)).G).cell 1, by rw [hs32]; exact id_load _ _ _ _ (r5 _ _ _ (hK.keep ((Below.refl _ w1).drew.drew)))⟩
  have hstay : M.A x ≠ some id → Goes S w g N (freeM M id x) w1.drew := fun hx => by
    unfold freeM
    rw [if_neg hx]
    exact Goes.stay ⟨tv, av, sz, P, h1, h⟩ (hB.trans ((Below.refl _ w1).drew.mono hB.size))
  have hg := h.G.lt
  have HI : (M.A x = none ∧ Hid (Goes S w g N (freeM M id x) w1.drew)) ∨ ∃ j, M.A x = some j ∧ Hid (j = id → ∃ w', (Builtin.delete_ #[25, 36] 0 #[av, .agg (idL x).toArray]).run Try.prog w1.drew.drew = .ok (.tuple #[]) w' ∧ Goes S w g N (freeM M id x) w' ∧ w'.cell? ⟨g, 1, none⟩ = some av ∧ (loadCellsFrom ⟨w.heap.size, 0, none⟩ 0 s32 #[]).run Try.prog w' = .ok (idL x).toArray w') ∧ Hid (j ≠ id → Goes S w g N (freeM M id x) w1.drew) := by
    cases hx : M.A x with
    | none => exact .inl ⟨rfl, hstay (by rw [hx]; exact fun h => by cases h)⟩
    | some j => exact .inr ⟨j, rfl, fun e => hdel (by rw [hx, e]), fun e => hstay (by rw [hx]; exact fun h => e (Option.some.inj h))⟩
  unfold bkP idV
  obtain ⟨XA, hXA⟩ : ∃ XA, XA = (idL x).toArray := ⟨_, rfl⟩
  have hg1 : g < w1.heap.size := h2.G.lt
  rw [← hXA] at hw1 hl hK hla HI ⊢
  clear hXA hB h2 htl hs32 hdel hstay
  go_enter Try.func19, Try.ntmps19
  go_upto_region 1 with fail
  have htl2 := HTL.out
  simp only [htl2]
  clear htl2
  rw [← hw1]
  obtain ⟨k0, hk0⟩ : ∃ k0, k0 = w.heap.size := ⟨_, rfl⟩
  have hk1 : k0 < w1.heap.size := by rw [hk0]; exact hK.lt
  rw [← hk0] at hla hK HI ⊢
  have HK := Lib.hid hK
  clear hw1 hk0 hK h
  rcases HI with ⟨hx, hG⟩ | ⟨j, hx, hG1, hG2⟩
  · rw [hx] at hl
    change ∀ W, _ → _ = Result.ok (Value.tuple #[.int .i64 0, .bool false]) W at hl
    go_region_held (fun w' => Below w1.heap.size w1 w') (first | with_reducible assumption | exact (Below.refl _ _).drew | exact Below.refl _ _) (fail)
    go_wp2_with fail
    go_end0
    exact ⟨rfl, hG.out⟩
  · rw [hx] at hl
    change ∀ W, _ → _ = Result.ok (Value.tuple #[.int .i64 j, .bool true]) W at hl
    go_region_held (fun w' => Below w1.heap.size w1 w') (first | with_reducible assumption | exact (Below.refl _ _).drew | exact Below.refl _ _) (fail)
    by_cases e : j = id
    · have d1 : (j == id) = true := by simp [e]
      obtain ⟨w', hrun, hG, s1, s2⟩ := hG1.out e
      have t1 := hc _ (Below.refl _ w1).drew.drew
      have t2 := hla _ (Below.refl _ w1).drew.drew
      have HG := Lib.hid hG
      clear hG hG1 hG2
      go_upto_region 3 with fail
      have htl2 := HTL.out
      simp only [htl2]
      clear htl2
      clear hc hla
      go_region_held (fun W' => W'.cell? ⟨g, 1, none⟩ = some av ∧ (loadCellsFrom ⟨k0, 0, none⟩ 0 s32 #[]).run Try.prog W' = .ok XA W') (first | with_reducible assumption | exact ⟨t1, t2⟩ | exact ⟨s1, s2⟩) (refine step_dl rfl _ _ _ _ rfl rfl rfl hrun ?_)
      go_wp2_with fail
      go_end0
      exact ⟨rfl, HG.out⟩
    · have d1 : (j == id) = false := by simp [e]
      have hG := Lib.hid (hG2.out e)
      clear hG1 hG2
      go_wp2_with fail
      go_end0
      exact ⟨rfl, hG.out⟩
/-- Somebody goes. -/
def goneM (M : BkM) (id : Int) : BkM := ⟨updT M.T id none, if (M.T id).isSome = true then M.n - 1 else M.n, fun x => if M.A x = some id then none else M.A x, fun j => if j = id then [] else M.L j⟩
theorem not_map {w : World} {k : Nat} {t : TypeId} {cs : Array Value} (K : Bk w k t cs) {κ β : Type} {E : MpT κ β} {v : Value} {n : Nat} {f : κ → Option β} (h : MapV E w v n f) : v ≠ .map (some k) := fun e => by
  rcases h with ⟨e', _⟩ | ⟨b, e', D, hD, _⟩
  · rw [e'] at e; cases e
  · rw [e'] at e
    cases e
    obtain ⟨es, clock, hb, _⟩ := hD
    unfold Bk at K
    rw [hb] at K
    cases K
/-- A peer is struck. -/
theorem gone_del {w : World} {S : Nat → Prop} {g : Nat} {M : BkM} {tv av : Value} {sz : Nat} {P : Int → Nat} (h : BkJ w S g M tv av sz P) (id : Int) (hid : InI id) (ty : TypeId) :
    ∃ w', (Builtin.delete_ #[24, 3] ty #[tv, .int .i64 id]).run Try.prog w = .ok (.tuple #[]) w' ∧ BkJ w' S g { M with T := updT M.T id none, n := if (M.T id).isSome = true then M.n - 1 else M.n } tv av sz P ∧ But S w w' := by
  obtain ⟨w', hrun, hm, hb⟩ := h.mt.del tkE_ok (x := id) hid ty
  have hf : (fun i => (updT M.T id none i).map fun _ => P i) = upd (fun i => (M.T i).map fun _ => P i) id none := by
    funext i
    unfold updT upd
    by_cases e : i = id
    · rw [if_pos e, if_pos e]; rfl
    · rw [if_neg e, if_neg e]
  have hn : (if ((M.T id).map fun _ => P id).isSome = true then M.n - 1 else M.n) = if (M.T id).isSome = true then M.n - 1 else M.n := by rw [Option.isSome_map]
  have up : ∀ i k, updT M.T id none i = some k → M.T i = some k := fun i k e => by
    unfold updT at e
    by_cases ei : i = id
    · rw [if_pos ei] at e; cases e
    · rw [if_neg ei] at e; exact e
  refine ⟨w', hrun, ⟨hb.keep h.G (not_map h.G h.mt), h.sg, ?_, h.ma.but hb (fun k e e' => h.ne k e' e), h.st, h.sa, h.ne, h.nn, h.hA, h.nd, fun i k e => ⟨(h.tk i k (up i k e)).1, hb.keep (h.tk i k (up i k e)).2 (not_map (h.tk i k (up i k e)).2 h.mt)⟩, fun i j k k' e e' => h.tj i j k k' (up i k e) (up j k' e')⟩, hb.mono (fun k _ e => h.st k e)⟩
  show MapV tkE w' tv (if (M.T id).isSome = true then M.n - 1 else M.n) (fun i => (updT M.T id none i).map fun _ => P i)
  rw [hf, ← hn]
  exact hm
/-- What is left behind the ranging. -/
theorem gone_end {w w' : World} {S : Nat → Prop} {g N : Nat} {M : BkM} {tv av : Value} {sz sz' : Nat} {P : Int → Nat} {id : Int} (h : BkJ w S g { M with T := updT M.T id none, n := if (M.T id).isSome = true then M.n - 1 else M.n } tv av sz P) (hN : sz' ≤ N)
    (hm : MapV akE w' av sz' (fun x => if M.A x = some id then none else M.A x)) (hb : But (fun k => av = .map (some k)) w w') : Goes S w g N (goneM M id) w' := by
  refine ⟨S, ⟨tv, av, sz', P, hN, hb.keep h.G (not_map h.G h.ma), h.sg, h.mt.but hb (fun k e => h.ne k e), hm, h.st, h.sa, h.ne, h.nn, fun x j => ?_, fun j => ?_, fun i k e => ⟨(h.tk i k e).1, hb.keep (h.tk i k e).2 (not_map (h.tk i k e).2 h.ma)⟩, h.tj⟩, fun k hk => .inl hk, hb.mono (fun k _ e => h.sa k e)⟩
  · show (if M.A x = some id then none else M.A x) = some j ↔ x ∈ (if j = id then [] else M.L j)
    have hA : M.A x = some j ↔ x ∈ M.L j := h.hA x j
    by_cases e : M.A x = some id
    · rw [if_pos e]
      by_cases ej : j = id
      · rw [if_pos ej]; exact ⟨fun e => (by cases e), fun e => (by cases e)⟩
      · rw [if_neg ej, ← hA, e]
        exact ⟨fun e => (by cases e), fun e => absurd (Option.some.inj e).symm ej⟩
    · rw [if_neg e, hA]
      by_cases ej : j = id
      · rw [if_pos ej]
        refine ⟨fun h' => absurd (hA.2 h') (by rw [ej]; exact e), fun e => (by cases e)⟩
      · rw [if_neg ej]
  · show (if j = id then [] else M.L j).Nodup
    split
    · exact List.Pairwise.nil
    · exact h.nd j
set_option maxHeartbeats 8000000 in
theorem gone_any {w : World} {S : Nat → Prop} {g N : Nat} {M : BkM} (h : BkI w S g N M) (id : Int) (hid : InI id) :
    Calls Try.prog 13 #[bkP g, .int .i64 id] w fun e w' => e = .returned (.tuple #[]) ∧ Goes S w g N (goneM M id) w' := by
  obtain ⟨tv, av, sz, P, h1, h⟩ := h
  have c0 : w.cell? ⟨g, 0, none⟩ = some tv := h.G.cell 0
  have hg := h.G.lt
  obtain ⟨w1, hrun1, h2, hb1⟩ := gone_del h id hid 0
  have hsize := hb1.size
  have c1 : w1.cell? ⟨g, 1, none⟩ = some av := h2.G.cell 1
  have hg1 : g < w1.heap.size := h2.G.lt
  have up : ∀ w', Goes S w1 g N (goneM M id) w' → Goes S w g N (goneM M id) w' := fun w' ⟨S', r1, r2, r3⟩ => ⟨S', r1, fun k hk => (r2 k hk).elim .inl (fun h => .inr (Nat.le_trans hsize h)), hb1.trans r3 (fun _ _ h => h)⟩
  have HUP := Lib.hid up
  unfold bkP
  rcases h2.ma with ⟨rfl, hz, hf⟩ | ⟨b, rfl, hm⟩
  · have hE : ∀ W, Below w1.heap.size w1 W → Goes S w1 g N (goneM M id) W := fun W hb => by
      have h3 := h2.keep hb
      obtain ⟨S', r1, r2, r3⟩ := gone_end (N := N) h3 (Nat.zero_le N) (w' := W) (.inl ⟨rfl, rfl, fun x => by
        have : M.A x = none := hf x
        show (if M.A x = some id then none else M.A x) = none
        rw [this]
        rfl⟩) (But.refl _ _)
      exact ⟨S', r1, fun k hk => (r2 k hk).elim .inl (fun h => .inr (Nat.le_trans hb.size h)), (But.of (S := S) hb).trans r3 (fun _ _ h => h)⟩
    have HE := Lib.hid hE
    have hrg := run_range_nilMap (P := Try.prog) w1 25 36 3 Try.underlying25
    have hnx : ∀ ty, (Instr.next (.pointer (some ⟨w1.heap.size, 0, none⟩)) false ty).run Try.prog (w1.alloc (.mapIter none 0 #[] 0)) = _ := fun ty => run_next_nilMap w1 ty 0 0 #[]
    clear h h2 up hE
    go_enter Try.func13, Try.ntmps13
    go_wp2_with (first | (at_delete; refine wpList_dl rfl _ _ _ _ rfl rfl rfl hrun1 ?_) | go_in)
    refine wp_loop_rounds 1 ?_
    rw [rounds_succ]
    go_wp2_with fail
    go_end0
    exact ⟨rfl, HUP.out _ (HE.out _ ((Below.refl _ _).alloc (Nat.le_refl _) _))⟩
  · obtain ⟨w2, r1, r2, r3, r4⟩ := hm.range akE_ok
    change RngG akE w2 b w1.heap.size sz M.A (fun x => (M.A x).isSome) at r2
    obtain ⟨r, hr⟩ : ∃ r, r = w1.heap.size := ⟨_, rfl⟩
    rw [← hr] at r1 r2
    change (Instr.range 25 (.map (some b))).run Try.prog w1 = _ at r1
    have hbl : b < w1.heap.size := hm.lt
    have HR := Lib.hid r2
    have HF0 : Hid (∀ x, M.A x = if M.A x = some id ∧ (M.A x).isSome = false then none else M.A x) := by
      show ∀ x, _
      intro x
      rw [if_neg (fun h' => by rw [h'.1] at h'; cases h'.2)]
    have HB : Hid (But (fun k => k = b) w1 w2) := But.of r3
    have HRR := Lib.hid hr
    have HG1 := Lib.hid h2.G
    have HS := Lib.hid hsize
    have hgb : g ≠ b := fun e => not_map h2.G (E := akE) (.inr ⟨b, rfl, hm⟩) (by rw [e])
    have HEND : Hid (∀ W f rem, RngG akE W b r sz f rem → (∀ x, rem x = false) → (∀ x, f x = if M.A x = some id ∧ rem x = false then none else M.A x) → But (fun k => k = b) w1 W → Goes S w g N (goneM M id) W) := by
      show ∀ W f rem, _
      intro W f rem hR hrem hf hB
      obtain ⟨n', hn', hm'⟩ := hR.out
      refine HUP.out W (gone_end h2 (Nat.le_trans hn' h1) (.inr ⟨b, rfl, ?_⟩) (hB.mono (fun k _ e => by rw [e])))
      have hff : f = fun x => if M.A x = some id then none else M.A x := by
        funext x
        rw [hf x, hrem x]
        by_cases e : M.A x = some id
        · rw [if_pos ⟨e, rfl⟩, if_pos e]
        · rw [if_neg (fun h' => e h'.1), if_neg e]
      rw [← hff]
      exact hm'
    obtain ⟨A, hA⟩ : ∃ A, A = M.A := ⟨_, rfl⟩
    rw [← hA] at HR HF0 HEND
    clear h h2 up hm r2 r3 r4 hr hA hsize HUP hb1
    go_enter Try.func13, Try.ntmps13
    go_wp2_with (first | (at_delete; refine wpList_dl rfl _ _ _ _ rfl rfl rfl hrun1 ?_) | (at_range; refine wpList_rg rfl _ _ rfl rfl r1 ?_) | go_in)
    go_frame
    clear r1 c1 hrun1
    go_loopw [5] (fun _ wr => ∃ (f : I32 → Option Int) (rem : I32 → Bool), Hid (RngG akE wr b r sz f rem) ∧ Hid (∀ x, f x = if A x = some id ∧ rem x = false then none else A x) ∧ Hid (But (fun k => k = b) w1 wr)) (fun _ wr => wr.rangeLeft b r)
    case atStart => exact ⟨A, _, HR, HF0, HB⟩
    case round =>
      obtain ⟨f, rem, HG, HF, HW⟩ := hrel
      clear HR HF0 HB
      rcases HG.out.next akE_ok 0 with ⟨hz, hn⟩ | ⟨x, y, w', hx, hrem, hf, hn, hrg, hlt, hbut, hsz, hen⟩
      · have hG := Lib.hid (HEND.out wr f rem HG.out (fun x => hz x trivial) HF.out HW.out)
        clear hz
        go_wp2_with (first | (at_next; refine wpList_nx rfl _ rfl rfl hn ?_) | go_in)
        go_end0
        exact ⟨rfl, hG.out⟩
      · have hfa := HF.out x
        rw [hf, if_neg (fun h' => by rw [hrem] at h'; cases h'.2)] at hfa
        have hB1 : But (fun k => k = b) w1 w' := HW.out.trans hbut (fun i hi e => by rw [e, HRR.out] at hi; omega)
        obtain ⟨hstc, K3, B3⟩ := id_made x w'
        have hrs := hrg.lt
        have h3 := hrg.but (But.of (S := fun _ => False) B3) (fun h => h) (fun h => h)
        have hB3 := hB1.step B3
        have HL3 : Hid (w'.rangeLeft b r < wr.rangeLeft b r) := hlt
        have hag : ∀ w, (isAgg 36).run Try.prog w = .ok true w := id_agg
        change (Instr.entry (.pointer (some ⟨r, 0, none⟩))).run Try.prog w' = .ok (.tuple #[.agg (idL x).toArray, .int .i64 y]) w' at hen
        change (Instr.next (.pointer (some ⟨r, 0, none⟩)) false 0).run Try.prog wr = .ok (.tuple #[.bool true, .agg (idL x).toArray, .int .i64 y]) w' at hn
        have hps := id_size x
        have hs32 := idL_len x
        obtain ⟨PL, hPL⟩ : ∃ PL, PL = idL x := ⟨_, rfl⟩
        have HPL := Lib.hid hPL
        rw [← hPL] at hstc K3 B3 hn hen h3 hB3 hps hs32
        have HFA := Lib.hid hfa.symm
        have HREM := Lib.hid hrem
        have HFX := Lib.hid hf
        have HFF : Hid (∀ z, f z = if A z = some id ∧ rem z = false then none else A z) := HF
        clear hPL hfa hrem hf HF hbut hrg hlt hsz hrs hB1 HG HW
        go_upto_region 4 with (first | (at_next; refine wpList_nx rfl _ rfl rfl hn ?_) | go_in)
        refine wp_any (fun W => Bk W w'.heap.size 36 PL.toArray ∧ (RngG akE W b r sz f (fun z => rem z && !decide (z = x)) ∧ W.rangeLeft b r = w'.rangeLeft b r) ∧ But (fun k => k = b) w1 W) ⟨K3, h3, hB3⟩ ?_
        clear K3 h3 hB3 hstc hn hen B3 hag hps hs32
        generalize w'.heap.size = k0 at *
        generalize w'.rangeLeft b r = lf at *
        clear w'
        rintro W ⟨K, ⟨hR, hL⟩, hB⟩
        have hkl := K.lt
        by_cases e : y = id
        · have d1 : (y == id) = true := by simp [e]
          have hd : Below W.heap.size W W.drew := (Below.refl _ _).drew
          obtain ⟨hRd, hLd⟩ := hR.but (But.of (S := fun _ => False) hd) (fun h => h) (fun h => h)
          obtain ⟨W5, hrun, hR5, hL5, hB5, hs5⟩ := hRd.drop akE_ok (x := x) trivial 0
          have hBd : But (fun k => k = b) w1 W.drew := hB.step hd
          have hBe : But (fun k => k = b) w1 W5 := hBd.trans hB5 (fun _ _ h => h)
          have hkb : k0 ≠ b := fun e => not_map (K.keep hd) (E := akE) (f := f) (n := (hRd.out).choose) (v := .map (some b)) (.inr ⟨b, rfl, (hRd.out).choose_spec.2⟩) (by rw [e])
          have t1 : W.drew.cell? ⟨g, 1, none⟩ = some (.map (some b)) := (hBd.keep HG1.out hgb).cell 1
          have s1 : W5.cell? ⟨g, 1, none⟩ = some (.map (some b)) := (hBe.keep HG1.out hgb).cell 1
          obtain ⟨tl, htl⟩ : ∃ tl : TypeId, tl = 36 := ⟨_, rfl⟩
          obtain ⟨s32, hs32⟩ : ∃ sz : Nat, sz = 32 := ⟨_, rfl⟩
          have hag : ∀ w, (isAgg tl).run Try.prog w = .ok true w := by rw [htl]; exact id_agg
          have hsz : ∀ w, (sizeOf tl).run Try.prog w = .ok s32 w := by rw [htl, hs32]; exact id_sz
          have hld : ∀ V, Bk V k0 36 PL.toArray → (loadCellsFrom ⟨k0, 0, none⟩ 0 s32 #[]).run Try.prog V = .ok PL.toArray V := by rw [hs32, HPL.out]; exact fun V => id_load V k0 _ x
          have t2 := hld _ (K.keep hd)
          have s2 := hld _ (hB5.keep (K.keep hd) hkb)
          have HTL := Lib.hid (show ∀ z, Op.load 36 z = Op.load tl z from fun z => by rw [htl])
          have HLX : Hid (W5.rangeLeft b r < wr.rangeLeft b r) := by have := HL3.out; show _ < _; omega
          have HRX := Lib.hid hR5
          have HBX := Lib.hid hBe
          have HFX' : Hid (∀ z, upd f x none z = if A z = some id ∧ ((rem z && !decide (z = x)) && !decide (z = x)) = false then none else A z) := by
            show ∀ z, _
            intro z
            by_cases ez : z = x
            · subst ez
              rw [upd_same, if_pos ⟨by rw [HFA.out, e], by simp⟩]
            · rw [upd_other _ _ ez, HFF.out z]
              simp [ez]
          change (Builtin.delete_ #[25, 36] 0 #[.map (some b), .agg (idL x).toArray]).run Try.prog W.drew = _ at hrun
          rw [← HPL.out] at hrun
          clear htl hs32 hld hR hL hB hRd hLd hR5 hL5 hB5 hs5 hBe hBd e
          go_upto_region 5 with fail
          have htl2 := HTL.out
          simp only [htl2]
          clear htl2
          go_region_held (fun W' => W'.cell? ⟨g, 1, none⟩ = some (.map (some b)) ∧ (loadCellsFrom ⟨k0, 0, none⟩ 0 s32 #[]).run Try.prog W' = .ok PL.toArray W') (first | with_reducible assumption | exact ⟨t1, t2⟩ | exact ⟨s1, s2⟩) (refine step_dl rfl _ _ _ _ rfl rfl rfl hrun ?_)
          go_wp2_with fail
          go_roundw
          case rel => exact ⟨_, _, HRX, HFX', HBX⟩
          case measure => exact HLX.out
        · have d1 : (y == id) = false := by simp [e]
          have HLX : Hid (W.rangeLeft b r < wr.rangeLeft b r) := by rw [hL]; exact HL3
          have HRX := Lib.hid hR
          have HBX := Lib.hid hB
          have HFX' : Hid (∀ z, f z = if A z = some id ∧ (rem z && !decide (z = x)) = false then none else A z) := by
            show ∀ z, _
            intro z
            by_cases ez : z = x
            · subst ez
              rw [HFX.out, HFA.out, if_neg (fun h' => e (Option.some.inj h'.1))]
            · rw [HFF.out z]
              simp [ez]
          clear hR hL hB K e
          go_wp2_with fail
          go_roundw
          case rel => exact ⟨_, _, HRX, HFX', HBX⟩
          case measure => exact HLX.out
end Go.Proofs.Ytcedljfdnbenoaa
