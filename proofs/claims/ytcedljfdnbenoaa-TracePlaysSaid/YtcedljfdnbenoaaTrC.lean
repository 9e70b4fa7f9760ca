/-
  Package trace: names as rows; peers that come.
-/
import Derived.Test.YtcedljfdnbenoaaTrB
import Derived.WalkSpells
namespace Go.Proofs.Ytcedljfdnbenoaa
open Go.RowKit
open Go.Maps (Keyed IsMap)
set_option linter.unusedVariables false
set_option linter.unusedSimpArgs false
set_option maxRecDepth 100000

theorem cells_store (g : Nat) (l : List Value) (k : Nat) (w : World) (h1 : ∀ v ∈ l, v.oneCell' = true) (hs : l.length = k) (h : w.there g 0 k) : (storeCells ⟨g, 0, none⟩ l).run Try.prog w = .ok () (w.setCells g 0 l) := by
  have e := run_storeCells_cells (P := Try.prog) g 0 l 0 w (fun j hj => by simpa using (h j (by omega)).1) (fun j hj => by simpa using (h j (by omega)).2) (fun v hv => by
    have := h1 v (by simpa using hv)
    simpa using this)
  simpa using e
/-- A variable that is made, and laid. -/
theorem row_made {α : Type} {R : RowT α} (h : R.Ok) (x : α) (w : World) (Z : Array Value) (t : TypeId) (hZ : Z.size = R.k) : (storeCells ⟨w.heap.size, 0, none⟩ (R.c x)).run Try.prog (w.alloc (.cells Z t)) = .ok () ((w.alloc (.cells Z t)).setCells w.heap.size 0 (R.c x)) ∧ Bk ((w.alloc (.cells Z t)).setCells w.heap.size 0 (R.c x)) w.heap.size t (R.c x).toArray ∧ Below w.heap.size w ((w.alloc (.cells Z t)).setCells w.heap.size 0 (R.c x)) := by
  refine ⟨cells_store w.heap.size (R.c x) R.k _ (h.one x) (h.len x) (Bk.there (Bk.new w _ Z) R.k (by rw [hZ]; exact Nat.le_refl _)), ?_, Below.setCells (Nat.le_refl _) _ _ _ ((Below.refl _ _).alloc (Nat.le_refl _) _)⟩
  have h2 : (R.c x).toArray.size = Z.size := by rw [hZ]; exact h.len x
  exact Bk.setAll (xs := (R.c x).toArray) (Bk.new _ _ _) h2

def i0 : I32 := ⟨List.replicate 32 0, by simp⟩
def idR : RowT I32 := ⟨36, 34, 32, 32, idL, i0⟩
theorem idr_facts : (Try.prog.info? 36).map (fun i => (i.zero.map (·.cells), i.size, i.bytes)) = some (some (idL i0).toArray, 32, 32) := by kernel_rfl
theorem idr_info : ∃ i v, Try.prog.info? 36 = some i ∧ i.zero = some v ∧ i.size = 32 ∧ i.bytes = 32 ∧ v.cells = (idL i0).toArray := by
  obtain ⟨i, hi, hs⟩ := Option.map_eq_some_iff.1 idr_facts
  simp only [Prod.mk.injEq, Option.map_eq_some_iff] at hs
  obtain ⟨⟨v, hv, hc⟩, h1, h2⟩ := hs
  exact ⟨i, v, hi, hv, h1, h2, hc⟩
theorem by_ones (l : List Nat) : ∀ v ∈ l.map byteV, v.oneCell' = true := fun v hv => by
  obtain ⟨b, _, rfl⟩ := List.mem_map.1 hv
  rfl
theorem idR_ok : idR.Ok where
  ht := Try.underlying34
  info := idr_info
  len := fun x => by exact idL_len x
  one := fun x => by_ones x.1
  pos := by decide
  bys := by decide
theorem id_made (x : I32) (w : World) : (storeCells ⟨w.heap.size, 0, none⟩ (idL x)).run Try.prog (w.alloc (.cells #[.int .u8 0, .int .u8 0, .int .u8 0, .int .u8 0, .int .u8 0, .int .u8 0, .int .u8 0, .int .u8 0, .int .u8 0, .int .u8 0, .int .u8 0, .int .u8 0, .int .u8 0, .int .u8 0, .int .u8 0, .int .u8 0, .int .u8 0, .int .u8 0, .int .u8 0, .int .u8 0, .int .u8 0, .int .u8 0, .int .u8 0, .int .u8 0, .int .u8 0, .int .u8 0, .int .u8 0, .int .u8 0, .int .u8 0, .int .u8 0, .int .u8 0, .int .u8 0] 36)) = .ok () ((w.alloc (.cells #[.int .u8 0, .int .u8 0, .int .u8 0, .int .u8 0, .int .u8 0, .int .u8 0, .int .u8 0, .int .u8 0, .int .u8 0, .int .u8 0, .int .u8 0, .int .u8 0, .int .u8 0, .int .u8 0, .int .u8 0, .int .u8 0, .int .u8 0, .int .u8 0, .int .u8 0, .int .u8 0, .int .u8 0, .int .u8 0, .int .u8 0, .int .u8 0, .int .u8 0, .int .u8 0, .int .u8 0, .int .u8 0, .int .u8 0, .int .u8 0, .int .u8 0, .int .u8 0] 36)).setCells w.heap.size 0 (idL x)) ∧ Bk ((w.alloc (.cells #[.int .u8 0, .int .u8 0, .int .u8 0, .int .u8 0, .int .u8 0, .int .u8 0, .int .u8 0, .int .u8 0, .int .u8 0, .int .u8 0, .int .u8 0, .int .u8 0, .int .u8 0, .int .u8 0, .int .u8 0, .int .u8 0, .int .u8 0, .int .u8 0, .int .u8 0, .int .u8 0, .int .u8 0, .int .u8 0, .int .u8 0, .int .u8 0, .int .u8 0, .int .u8 0, .int .u8 0, .int .u8 0, .int .u8 0, .int .u8 0, .int .u8 0, .int .u8 0] 36)).setCells w.heap.size 0 (idL x)) w.heap.size 36 (idL x).toArray ∧ Below w.heap.size w ((w.alloc (.cells #[.int .u8 0, .int .u8 0, .int .u8 0, .int .u8 0, .int .u8 0, .int .u8 0, .int .u8 0, .int .u8 0, .int .u8 0, .int .u8 0, .int .u8 0, .int .u8 0, .int .u8 0, .int .u8 0, .int .u8 0, .int .u8 0, .int .u8 0, .int .u8 0, .int .u8 0, .int .u8 0, .int .u8 0, .int .u8 0, .int .u8 0, .int .u8 0, .int .u8 0, .int .u8 0, .int .u8 0, .int .u8 0, .int .u8 0, .int .u8 0, .int .u8 0, .int .u8 0] 36)).setCells w.heap.size 0 (idL x)) := row_made idR_ok x w _ _ rfl

theorem rr_below {C : Nat} {w w' : World} {b o : Nat} {cs : List Value} (h : w.rangeAt b o cs) (hb : Below C w w') (hC : b < C) : w'.rangeAt b o cs := fun j v hv => (hb.cell (p := ⟨b, o + j, none⟩) hC).trans (h j v hv)
theorem idb_range {w : World} {g : Nat} {t : TypeId} {x : I32} (K : Bk w g t (idL x).toArray) : w.rangeAt g 0 (idL x) := fun j v hv => by
  rw [Nat.zero_add, K.cell, List.getElem?_toArray]
  exact hv
theorem id_size (x : I32) : (Try.prog.info? 36).map (·.size) = some (idL x).length := row_size idR_ok x
def updT (T : Int → Option TkM) (i : Int) (y : Option TkM) : Int → Option TkM := fun j => if j = i then y else T j
/-- Somebody comes. -/
def cameM (M : BkM) (id : Int) : BkM := if (M.T id).isSome = true then M else { M with T := updT M.T id (some tk0), n := M.n + 1 }
def cameE (M : BkM) (id : Int) : Int := if (M.T id).isSome = true then 5 else 0
theorem came_put {W : World} {S : Nat → Prop} {g N : Nat} {M : BkM} {a : Nat} {av : Value} {sz : Nat} {P : Int → Nat} (h : BkJ W S g M (.map (some a)) av sz P) (hsz : sz ≤ N) {id : Int} (hid : InI id) (hN : M.n < 1000000) (hT : M.T id = none) :
    ∃ w', (Instr.mapUpdate 24 (.map (some a)) (.int .i64 id) (.pointer (some ⟨W.heap.size, 0, none⟩))).run Try.prog (W.alloc (.cells (tkC tk0) 71)) = .ok () w' ∧ Goes S W g N (cameM M id) w' := by
  have hmt := h.mt
  rcases hmt with ⟨e, _⟩ | ⟨a', e, hmt⟩
  · cases e
  obtain rfl : a = a' := by injection e with e; injection e
  have hb : Below W.heap.size W (W.alloc (.cells (tkC tk0) 71)) := (Below.refl _ _).alloc (Nat.le_refl _) _
  have h1 := h.keep hb
  obtain ⟨w', hrun, hm, hbut⟩ := (hmt.keep hb).put tkE_ok (x := id) hid W.heap.size (by unfold maxLen; omega)
  have hal := hmt.lt
  have hsa : S a := h.st a rfl
  have hpa : ∀ i k, M.T i = some k → P i ≠ a := fun i k e hpa => by
    have := (h.tk i k e).2
    obtain ⟨D, hD, _⟩ := hmt
    obtain ⟨es, clock, hb, _⟩ := hD
    rw [hpa] at this
    unfold Bk at this
    rw [hb] at this
    cases this
  have hga : g ≠ a := fun hga => by
    obtain ⟨D, hD, _⟩ := hmt
    obtain ⟨es, clock, hb, _⟩ := hD
    have := h.G
    rw [hga] at this
    unfold Bk at this
    rw [hb] at this
    cases this
  have hpl : ∀ i k, M.T i = some k → P i < W.heap.size := fun i k e => (h.tk i k e).2.lt
  refine ⟨w', hrun, fun k => S k ∨ k = W.heap.size, ⟨.map (some a), av, sz, fun i => if i = id then W.heap.size else P i, hsz, ?_⟩, fun k hk => ?_, ?_⟩
  · have hM : cameM M id = { M with T := updT M.T id (some tk0), n := M.n + 1 } := by unfold cameM; rw [hT]; rfl
    rw [hM]
    refine ⟨hbut.keep h1.G hga, .inl h.sg, .inr ⟨a, rfl, ?_⟩, h1.ma.but hbut (fun k e ek => h.ne a rfl (ek ▸ e)), fun k e => .inl (h.st k e), fun k e => .inl (h.sa k e), h.ne, h.nn, h.hA, h.nd, fun i k e => ?_, fun i j k k' e e' ep => ?_⟩
    · have hn : (if ((fun i => (M.T i).map fun _ => P i) id).isSome = true then M.n else M.n + 1) = M.n + 1 := by simp [hT]
      rw [hn] at hm
      have hf : (fun i => (updT M.T id (some tk0) i).map fun _ => if i = id then W.heap.size else P i) = upd (fun i => (M.T i).map fun _ => P i) id (some W.heap.size) := by
        funext i
        unfold updT upd
        by_cases e : i = id
        · rw [if_pos e, if_pos e]; simp [e]
        · rw [if_neg e, if_neg e]; simp [e]
      show MapG tkE w' a (M.n + 1) (fun i => (updT M.T id (some tk0) i).map fun _ => if i = id then W.heap.size else P i)
      rw [hf]
      exact hm
    · change updT M.T id (some tk0) i = some k at e
      unfold updT at e
      by_cases ei : i = id
      · rw [if_pos ei] at e
        cases e
        show (S (if i = id then W.heap.size else P i) ∨ (if i = id then W.heap.size else P i) = W.heap.size) ∧ Bk w' (if i = id then W.heap.size else P i) 71 (tkC tk0)
        rw [if_pos ei]
        exact ⟨.inr rfl, hbut.keep (Bk.new _ _ _) (by show ¬ _ = a; omega)⟩
      · rw [if_neg ei] at e
        show (S (if i = id then W.heap.size else P i) ∨ (if i = id then W.heap.size else P i) = W.heap.size) ∧ Bk w' (if i = id then W.heap.size else P i) 71 (tkC k)
        rw [if_neg ei]
        exact ⟨.inl (h.tk i k e).1, hbut.keep (h1.tk i k e).2 (hpa i k e)⟩
    · change updT M.T id (some tk0) i = some k at e
      change updT M.T id (some tk0) j = some k' at e'
      unfold updT at e e'
      change (if i = id then W.heap.size else P i) = (if j = id then W.heap.size else P j) at ep
      by_cases ei : i = id <;> by_cases ej : j = id
      · rw [ei, ej]
      · rw [if_neg ej] at e'
        rw [if_pos ei, if_neg ej] at ep
        have := hpl j k' e'
        omega
      · rw [if_neg ei] at e
        rw [if_neg ei, if_pos ej] at ep
        have := hpl i k e
        omega
      · rw [if_neg ei] at e
        rw [if_neg ej] at e'
        rw [if_neg ei, if_neg ej] at ep
        exact h.tj i j k k' e e' ep
  · rcases hk with hk | rfl
    · exact .inl hk
    · exact .inr (Nat.le_refl _)
  · exact (But.of (S := S) hb).trans hbut (fun i hi e => by rw [e]; exact hsa)
set_option maxHeartbeats 4000000 in
theorem came_any {w : World} {S : Nat → Prop} {g N : Nat} {M : BkM} (h : BkI w S g N M) (id : Int) (hid : InI id) (hN : M.n < 1000000) :
    Calls Try.prog 8 #[bkP g, .int .i64 id] w fun e w' => e = .returned (.int .i64 (cameE M id)) ∧ Goes S w g N (cameM M id) w' := by
  obtain ⟨tv, av, sz, P, h1, h⟩ := h
  have c0 : w.cell? ⟨g, 0, none⟩ = some tv := h.G.cell 0
  have c1 : w.cell? ⟨g, 1, none⟩ = some av := h.G.cell 1
  have f0 := h.G.frozen 0
  have f1 := h.G.frozen 1
  have hg := h.G.lt
  have hl : (Instr.lookup 24 tv (.int .i64 id) true).run Try.prog w = _ := h.mt.look tkE_ok (x := id) hid
  unfold bkP
  cases hT : M.T id with
  | some k =>
    rw [hT] at hl
    change _ = Result.ok (Value.tuple #[.pointer (some ⟨P id, 0, none⟩), .bool true]) w at hl
    have hG : Goes S w g N (cameM M id) w := by
      unfold cameM
      rw [hT]
      exact Goes.stay ⟨tv, av, sz, P, h1, h⟩ (Below.refl _ _)
    have hE : cameE M id = 5 := by unfold cameE; rw [hT]; rfl
    rw [hE]
    clear h hN hT
    go_enter Try.func8, Try.ntmps8
    go_wp2_with (first | (at_lookup; refine wpList_lk rfl _ _ _ rfl rfl rfl hl ?_) | go_in)
    go_ret
    exact ⟨rfl, hG⟩
  | none =>
    rw [hT] at hl
    change _ = Result.ok (Value.tuple #[.pointer none, .bool false]) w at hl
    have hE : cameE M id = 0 := by unfold cameE; rw [hT]; rfl
    rw [hE]
    have heq := fun (r : Option Nat) (w : World) => run_eql_map_nil (P := Try.prog) w 24 3 67 r Try.underlying24
    rcases h.mt with ⟨rfl, _⟩ | ⟨a, rfl, hm⟩
    · have hn0 : M.n = 0 ∧ (∀ x, (M.T x).map (fun _ => P x) = none) := by
        rcases h.mt with ⟨_, h3⟩ | ⟨a, e, _⟩
        · exact h3
        · cases e
      have hA0 : ∀ x, M.A x = none := by
        rcases h.ma with ⟨_, _, h3⟩ | ⟨a, e, _⟩
        · exact h3
        · have := h.nn.1 rfl
          rw [this] at e
          cases e
      have hav : av = .map none := h.nn.1 rfl
      subst hav
      obtain ⟨V, hV⟩ : ∃ V, V = (w.setCell ⟨g, 0, none⟩ (.map (some w.heap.size))).setCell ⟨g, 1, none⟩ (.map (some (w.heap.size + 1))) := ⟨_, rfl⟩
      have hVs : V.heap.size = w.heap.size := by rw [hV]; simp [World.setCell]
      have hVG : Bk V g 27 #[.map (some w.heap.size), .map (some (w.heap.size + 1))] := by rw [hV]; exact (h.G.set_ 0 _).set_ 1 _
      have hVB : But S w V := by
        rw [hV]
        exact ((But.refl S w).set_ (.inl h.sg) 0 none _).set_ (.inl h.sg) 1 none _
      obtain ⟨W, hW⟩ : ∃ W, W = (V.alloc (.map #[] 0)).alloc (.map #[] 0) := ⟨_, rfl⟩
      have hW2 : But S w W ∧ BkJ W (fun k => S k ∨ w.heap.size ≤ k) g M (.map (some w.heap.size)) (.map (some (w.heap.size + 1))) 0 P := by
        refine ⟨?_, ?_, .inl h.sg, .inr ⟨_, rfl, ?_⟩, .inr ⟨_, rfl, ?_⟩, fun k e => by cases e; exact .inr (Nat.le_refl _), fun k e => by cases e; exact .inr (Nat.le_succ _), fun k e e' => ?_, ⟨fun e => (by cases e), fun e => (by cases e)⟩, h.hA, h.nd, fun i k e => ?_, h.tj⟩
        · rw [hW]
          exact (hVB.alloc _).alloc _
        · rw [hW]
          exact (hVG.alloc _).alloc _
        · have hf : (fun i => (M.T i).map fun _ => P i) = fun _ => none := funext hn0.2
          rw [hf, hn0.1, ← hVs, hW]
          exact (MapG.made V).keep ((Below.refl _ _).alloc (Nat.le_refl _) _)
        · have hf : M.A = fun _ => none := funext hA0
          have := MapG.made (E := akE) (V.alloc (.map #[] 0))
          rw [show (V.alloc (.map #[] 0)).heap.size = w.heap.size + 1 by simp [hVs]] at this
          rw [hf, hW]
          exact this
        · injection e with e
          injection e with e
          injection e' with e'
          injection e' with e'
          omega
        · have := hn0.2 i
          rw [e] at this
          cases this
      have hsz : W.heap.size = w.heap.size + 2 := by rw [hW]; simp [hVs]
      obtain ⟨w', hrun, hG⟩ := came_put hW2.2 (Nat.zero_le N) hid hN hT
      have hG : Goes S w g N (cameM M id) w' := by
        obtain ⟨S', h1, h2, h3⟩ := hG
        refine ⟨S', h1, fun k hk => ?_, hW2.1.trans h3 (fun i hi hs => hs.elim (fun h => h) (fun h => by omega))⟩
        rcases h2 k hk with (h | h) | h
        · exact .inl h
        · exact .inr h
        · exact .inr (by omega)
      have hmm := @run_makeMap Try.prog
      have heq := heq none w
      clear h hN hT hn0 hA0 hVs hVG hVB
      go_enter Try.func8, Try.ntmps8
      go_upto_region 6 with (first | (at_lookup; refine wpList_lk rfl _ _ _ rfl rfl rfl hl ?_) | go_in)
      rw [← hV, ← hW]
      clear hV hW hsz
      have c0' := hW2.2.G.cell 0
      have z0 := hW2.2.G.lt
      change W.cell? _ = some (.map (some w.heap.size)) at c0'
      go_wp2_with (first | (at_mapUpdate; refine wpList_mu rfl _ _ _ _ rfl rfl rfl rfl hrun ?_) | go_in)
      go_ret
      exact ⟨rfl, hG⟩
    · obtain ⟨w', hrun, hG⟩ := came_put h h1 hid hN hT
      have heq := heq (some a) w
      clear h hN hT hm
      go_enter Try.func8, Try.ntmps8
      go_wp2_with (first | (at_lookup; refine wpList_lk rfl _ _ _ rfl rfl rfl hl ?_) | (at_mapUpdate; refine wpList_mu rfl _ _ _ _ rfl rfl rfl rfl hrun ?_) | go_in)
      go_ret
      exact ⟨rfl, hG⟩
end Go.Proofs.Ytcedljfdnbenoaa
