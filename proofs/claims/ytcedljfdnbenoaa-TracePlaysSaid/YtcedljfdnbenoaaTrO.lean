/-
  Package trace's laws: what is done, as it comes in; peers told one by one, and a book.
-/
import Derived.Test.YtcedljfdnbenoaaTrN
namespace Go.Proofs.Ytcedljfdnbenoaa
open Go.ChangeShapes Go.WideShapes Go.ChangeAt Go.RowKit
open Go.Deep (open_slice choose_lt)
set_option linter.unusedVariables false
set_option linter.unusedSimpArgs false
set_option maxRecDepth 100000

theorem bytes_trodX {H : Type} {enc : TypeId × Value → H} {w : World} {base f : Nat} {spare : Nat → Bool} {held : Bool} {cs : List Value} {x : DataW H × List MemPlace}
    (hf : DataW.trod enc Try.prog w base spare held f 48 cs = some x) : ∃ (v : Value) (xs : List Nat), cs = [v] ∧ BsV w w.heap.size v xs := by
  rcases open_ints Try.underlying48 Try.underlying5 (by kernel_rfl) hf with ⟨rfl, _⟩ | ⟨a, len, cap, zs, rfl, _, hl, hm, hz, _, hcell, hwz⟩
  · exact ⟨_, [], rfl, none, 0, rfl, Nat.le_refl _, by omega, by simp, fun h => absurd rfl h⟩
  · have hlz : len ≤ zs.length := by rw [hz]; split <;> omega
    have hxl : ((zs.take len).map Int.toNat).length = len := by rw [List.length_map, List.length_take]; omega
    refine ⟨_, (zs.take len).map Int.toNat, rfl, some a, cap, by rw [hxl], by omega, by unfold maxLen at hm; omega, ?_, ?_⟩
    · intro x hx
      simp only [List.mem_map] at hx
      obtain ⟨z, hzm, rfl⟩ := hx
      have := wf_byte (hwz z (List.mem_of_mem_take hzm))
      omega
    · intro hne
      have hpos : 0 < len := by
        rcases Nat.eq_zero_or_pos len with h0 | h0
        · subst h0; simp at hne
        · exact h0
      have c0 := hcell 0 (by omega)
      obtain ⟨b, o, spot⟩ := a
      have hspot : spot = none := by simpa [Addr.add] using World.cell?_spot c0
      subst hspot
      refine ⟨b, o, rfl, ?_, fun i hi => ?_⟩
      · exact block_lt_of_cell (a := ⟨b, o, none⟩) (by have := c0; simpa [Go.WideShapes.add_plain] using this)
      · have hi' : i < len := by rw [hxl] at hi; exact hi
        have ci := hcell i (by omega)
        rw [Addr.add_mid] at ci
        rw [ci]
        have hzi : zs[i]? = some (zs[i]'(by omega)) := List.getElem?_eq_getElem (by omega)
        have hw := wf_byte (hwz _ (List.getElem_mem (show i < zs.length by omega)))
        have e1 : zs.getD i 0 = zs[i]'(by omega) := by rw [List.getD, hzi]; rfl
        have e2 : nth ((zs.take len).map Int.toNat) i = (zs[i]'(by omega)).toNat := by
          unfold nth
          rw [List.getD, List.getElem?_map, List.getElem?_take_of_lt hi', hzi]; rfl
        rw [e1, e2]
        congr 2
        omega

/-- What is done. -/
structure OpM where
  kd : Int
  pr : Int
  mg : Int
  s : Option Addr
  c : Nat
  nm : List Nat
def OpM.nv (x : OpM) : Value := .slice x.s x.nm.length x.c
def opL (x : OpM) : List Value := [.int .i64 x.kd, .int .i64 x.pr, .int .i64 x.mg, x.nv]
def opR : RowT OpM := ⟨58, 55, 4, 48, opL, ⟨0, 0, 0, none, 0, []⟩⟩
theorem op_facts : (Try.prog.info? 58).map (fun i => (i.zero.map (·.cells), i.size, i.bytes)) = some (some #[.int .i64 0, .int .i64 0, .int .i64 0, .slice none 0 0], 4, 48) := by kernel_rfl
theorem op_info : ∃ i v, Try.prog.info? 58 = some i ∧ i.zero = some v ∧ i.size = 4 ∧ i.bytes = 48 ∧ v.cells = #[.int .i64 0, .int .i64 0, .int .i64 0, .slice none 0 0] := by
  obtain ⟨i, hi, hs⟩ := Option.map_eq_some_iff.1 op_facts
  simp only [Prod.mk.injEq, Option.map_eq_some_iff] at hs
  obtain ⟨⟨v, hv, hc⟩, h1, h2⟩ := hs
  exact ⟨i, v, hi, hv, h1, h2, hc⟩
theorem opL_one (x : OpM) : ∀ v ∈ opL x, v.oneCell' = true := fun v hv => by
  simp only [opL, List.mem_cons, List.not_mem_nil, or_false] at hv
  rcases hv with rfl | rfl | rfl | rfl <;> rfl
theorem opR_ok : opR.Ok where
  ht := Try.underlying55
  info := op_info
  len := fun x => rfl
  one := opL_one
  pos := by decide
  bys := by decide
theorem op_trod {H : Type} {enc : TypeId × Value → H} {w : World} {base f : Nat} {spare : Nat → Bool} {held : Bool} {cs : List Value} {d : DataW H × List MemPlace} (hl : cs.length = 4)
    (hf : DataW.trod enc Try.prog w base spare held f 58 cs = some d) : ∃ x : OpM, (InI x.kd ∧ InI x.pr ∧ InI x.mg ∧ BsV w w.heap.size x.nv x.nm) ∧ cs = opR.c x := by
  obtain ⟨d, p⟩ := d
  have h1 : Try.prog.cellsOf 3 = 1 := by kernel_rfl
  have hs1 : Try.prog.cellsOf 48 = 1 := by kernel_rfl
  obtain ⟨xs, n, _, _, _, hxl, hi⟩ := DataW.trod_struct Try.underlying58 hf
  have e0 : DataW.trod enc Try.prog w base spare held n 3 ((cs.drop 0).take (Try.prog.cellsOf 3)) = xs[0]? := hi 0 _ rfl
  rw [h1, List.getElem?_eq_getElem (by rw [hxl]; decide)] at e0
  have e1 : DataW.trod enc Try.prog w base spare held n 3 ((cs.drop 1).take (Try.prog.cellsOf 3)) = xs[1]? := hi 1 _ rfl
  rw [h1, List.getElem?_eq_getElem (by rw [hxl]; decide)] at e1
  have e2 : DataW.trod enc Try.prog w base spare held n 3 ((cs.drop 2).take (Try.prog.cellsOf 3)) = xs[2]? := hi 2 _ rfl
  rw [h1, List.getElem?_eq_getElem (by rw [hxl]; decide)] at e2
  have e3 : DataW.trod enc Try.prog w base spare held n 48 ((cs.drop 3).take (Try.prog.cellsOf 48)) = xs[3]? := hi 3 _ rfl
  rw [hs1, List.getElem?_eq_getElem (by rw [hxl]; decide)] at e3
  obtain ⟨a, a1, a2⟩ := i64_of_trod Try.underlying3 (by rw [hl]; decide) e0
  obtain ⟨b, b1, b2⟩ := i64_of_trod Try.underlying3 (by rw [hl]; decide) e1
  obtain ⟨c, c1, c2⟩ := i64_of_trod Try.underlying3 (by rw [hl]; decide) e2
  obtain ⟨v, zs, k1, k2⟩ := bytes_trodX e3
  obtain ⟨ks, kc, rfl, k3⟩ := k2
  refine ⟨⟨a, b, c, ks, kc, zs⟩, ⟨a1, b1, c1, ks, kc, rfl, k3⟩, ?_⟩
  have h3 : cs.drop 3 = [.slice ks zs.length kc] := by
    rw [← k1, List.take_of_length_le (by rw [List.length_drop, hl]; decide)]
  have h0 := drop_one a2
  rw [List.drop_zero, drop_one b2, drop_one c2, h3] at h0
  exact h0
theorem ops_arg {H : Type} {enc : TypeId × Value → H} {w : World} {base b0 : Nat} {spare : Nat → Bool} {held : Bool} {r : Reach} {v : Value} {d : DataW H} {p : List MemPlace}
    (hv : Value.okWide Try.prog w r b0 55 v) (h : DataW.Trod enc Try.prog w base spare held 55 v d p) : ∃ L : List OpM, RowV opR w w.heap.size v L ∧ ∀ x ∈ L, InI x.kd ∧ InI x.pr ∧ InI x.mg ∧ BsV w w.heap.size x.nv x.nm := by
  obtain ⟨s0, len, cap, rfl⟩ := okWide_slice Try.underlying55 hv
  obtain ⟨fuel, hf⟩ := h
  obtain ⟨s, L, c, h1, h2, h3⟩ := rowsF_trod opR_ok (fun x => InI x.kd ∧ InI x.pr ∧ InI x.mg ∧ BsV w w.heap.size x.nv x.nm) (by kernel_rfl) (fun n cs d hl h2 => op_trod hl h2) hf
  simp [Value.cells] at h1
  obtain ⟨rfl, rfl, rfl⟩ := h1
  exact ⟨L, h2, h3⟩
/-- Peers told one by one, and a book. -/
structure InvP (L : List OneP) (M : BkM) : Prop where
  n : M.n = L.length
  nd : (L.map (·.id)).Nodup
  T : ∀ o ∈ L, M.T o.id = some ⟨o.t, o.r, o.v, o.a⟩
  T0 : ∀ i, (∀ o ∈ L, o.id ≠ i) → M.T i = none
  K : ∀ o ∈ L, M.L o.id = o.ak.map idN
  L0 : ∀ i, (∀ o ∈ L, o.id ≠ i) → M.L i = []
  b : ∀ o ∈ L, (∀ x ∈ o.ak, x < 256) ∧ o.ak.length ≤ 16 ∧ InI o.id ∧ (o.r = true → o.t = true) ∧ (o.a = true → o.v = true ∧ o.t = true)
def AskOk (M : BkM) : Prop := ∀ x j, M.A x = some j ↔ x ∈ M.L j
theorem HasF.ask {w W : World} {F : Nat → Prop} {g N : Nat} {M : BkM} (h : HasF w W F g N M) : AskOk M := by
  obtain ⟨S, ⟨_, _, _, _, _, h⟩, _⟩ := h
  exact h.hA
theorem invP_0 : InvP [] bk0 := ⟨rfl, List.Pairwise.nil, fun o h => (by cases h), fun i _ => rfl, fun o h => (by cases h), fun i _ => rfl, fun o h => (by cases h)⟩
theorem InvP.came_old {L : List OneP} {M : BkM} (h : InvP L M) {o : OneP} (ho : o ∈ L) : cameE M o.id = 5 ∧ cameM M o.id = M := by
  unfold cameE cameM
  rw [h.T o ho]
  exact ⟨rfl, rfl⟩
def newP (i : Int) : OneP := ⟨i, false, false, false, false, []⟩
theorem InvP.came_new {L : List OneP} {M : BkM} (h : InvP L M) {i : Int} (hi : InI i) (hn : ∀ o ∈ L, o.id ≠ i) : cameE M i = 0 ∧ InvP (L ++ [newP i]) (cameM M i) := by
  have hT := h.T0 i hn
  unfold cameE cameM
  rw [hT]
  refine ⟨rfl, ?_, ?_, fun o ho => ?_, fun j hj => ?_, fun o ho => ?_, fun j hj => ?_, fun o ho => ?_⟩
  · show M.n + 1 = _
    rw [h.n, List.length_append]; rfl
  · rw [List.map_append]
    refine List.nodup_append.2 ⟨h.nd, by simp, fun a ha b hb e => ?_⟩
    obtain ⟨o, ho, rfl⟩ := List.mem_map.1 ha
    obtain rfl : b = i := by simpa [newP] using hb
    exact hn o ho e
  · show updT M.T i (some tk0) o.id = _
    unfold updT
    rcases List.mem_append.1 ho with ho | ho
    · rw [if_neg (hn o ho)]; exact h.T o ho
    · rw [List.mem_singleton.1 ho]; exact if_pos rfl
  · show updT M.T i (some tk0) j = _
    unfold updT
    have : j ≠ i := fun e => hj (newP i) (by simp) (by rw [e]; rfl)
    rw [if_neg this]
    exact h.T0 j (fun o ho => hj o (List.mem_append.2 (.inl ho)))
  · show M.L o.id = _
    rcases List.mem_append.1 ho with ho | ho
    · exact h.K o ho
    · rw [List.mem_singleton.1 ho]; exact h.L0 i hn
  · exact h.L0 j (fun o ho => hj o (List.mem_append.2 (.inl ho)))
  · rcases List.mem_append.1 ho with ho | ho
    · exact h.b o ho
    · rw [List.mem_singleton.1 ho]
      exact ⟨fun x hx => (by cases hx), Nat.zero_le _, hi, fun e => (by cases e), fun e => (by cases e)⟩
theorem InvP.gone_new {L : List OneP} {M : BkM} (h : InvP L M) {i : Int} (hn : ∀ o ∈ L, o.id ≠ i) : InvP L (goneM M i) := by
  have hT := h.T0 i hn
  unfold goneM
  refine ⟨?_, h.nd, fun o ho => ?_, fun j hj => ?_, fun o ho => ?_, fun j hj => ?_, h.b⟩
  · show (if (M.T i).isSome = true then M.n - 1 else M.n) = _
    rw [hT]; exact h.n
  · show updT M.T i none o.id = _
    unfold updT
    rw [if_neg (hn o ho)]; exact h.T o ho
  · show updT M.T i none j = _
    unfold updT
    split
    · rfl
    · exact h.T0 j hj
  · show (if o.id = i then [] else M.L o.id) = _
    rw [if_neg (hn o ho)]; exact h.K o ho
  · show (if j = i then [] else M.L j) = _
    split
    · rfl
    · exact h.L0 j hj
theorem ids_ne {L : List OneP} (hn : (L.map (·.id)).Nodup) {k : Nat} {o : OneP} (hk : L[k]? = some o) : ∀ z ∈ L.take k ++ L.drop (k + 1), z.id ≠ o.id ∧ z ∈ L := by
  obtain ⟨hkl, hko⟩ := List.getElem?_eq_some_iff.1 hk
  have hL : L = L.take k ++ o :: L.drop (k + 1) := by
    rw [← hko, List.getElem_cons_drop, List.take_append_drop]
  intro z hz
  rw [hL, List.map_append, List.map_cons] at hn
  obtain ⟨n1, n2, n3⟩ := List.nodup_append.1 hn
  obtain ⟨n4, n5⟩ := List.nodup_cons.1 n2
  rcases List.mem_append.1 hz with h | h
  · exact ⟨fun e => n3 z.id (List.mem_map.2 ⟨z, h, rfl⟩) o.id (by simp) e, List.mem_of_mem_take h⟩
  · exact ⟨fun e => n4 (by rw [← e]; exact List.mem_map.2 ⟨z, h, rfl⟩), List.mem_of_mem_drop h⟩
theorem mem_split {L : List OneP} {k : Nat} {o : OneP} (hk : L[k]? = some o) {z : OneP} (hz : z ∈ L) : z = o ∨ z ∈ L.take k ++ L.drop (k + 1) := by
  obtain ⟨hkl, hko⟩ := List.getElem?_eq_some_iff.1 hk
  have hL : L = L.take k ++ o :: L.drop (k + 1) := by
    rw [← hko, List.getElem_cons_drop, List.take_append_drop]
  rw [hL] at hz
  rcases List.mem_append.1 hz with h | h
  · exact .inr (List.mem_append.2 (.inl h))
  · rcases List.mem_cons.1 h with h | h
    · exact .inl h
    · exact .inr (List.mem_append.2 (.inr h))
theorem InvP.gone_old {L : List OneP} {M : BkM} (h : InvP L M) {k : Nat} {o : OneP} (hk : L[k]? = some o) : InvP (L.take k ++ L.drop (k + 1)) (goneM M o.id) := by
  have hne := ids_ne h.nd hk
  have hkl := (List.getElem?_eq_some_iff.1 hk).1
  have ho := List.mem_of_getElem? hk
  unfold goneM
  refine ⟨?_, ?_, fun z hz => ?_, fun j hj => ?_, fun z hz => ?_, fun j hj => ?_, fun z hz => h.b z (hne z hz).2⟩
  · show (if (M.T o.id).isSome = true then M.n - 1 else M.n) = _
    rw [h.T o ho, h.n, List.length_append, List.length_take, List.length_drop]
    simp
    omega
  · have hs : (L.take k ++ L.drop (k + 1)).Sublist L := by
      have h1 : (L.drop (k + 1)).Sublist (L.drop k) := by rw [← List.drop_drop]; exact List.drop_sublist 1 _
      have := (List.Sublist.refl (L.take k)).append h1
      rwa [List.take_append_drop] at this
    exact h.nd.sublist (hs.map _)
  · show updT M.T o.id none z.id = _
    unfold updT
    rw [if_neg (hne z hz).1]; exact h.T z (hne z hz).2
  · show updT M.T o.id none j = _
    unfold updT
    by_cases e : j = o.id
    · rw [if_pos e]
    · rw [if_neg e]
      exact h.T0 j (fun z hz => (mem_split hk hz).elim (fun h' => by rw [h']; exact fun e' => e e'.symm) (fun h' => hj z h'))
  · show (if z.id = o.id then [] else M.L z.id) = _
    rw [if_neg (hne z hz).1]; exact h.K z (hne z hz).2
  · show (if j = o.id then [] else M.L j) = _
    by_cases e : j = o.id
    · rw [if_pos e]
    · rw [if_neg e]
      exact h.L0 j (fun z hz => (mem_split hk hz).elim (fun h' => by rw [h']; exact fun e' => e e'.symm) (fun h' => hj z h'))
/-- One is another one now. -/
theorem InvP.set {L : List OneP} {M M' : BkM} (h : InvP L M) {k : Nat} {o o' : OneP} (hk : L[k]? = some o) (hid : o'.id = o.id) (hn : M'.n = M.n) (hT : M'.T o.id = some ⟨o'.t, o'.r, o'.v, o'.a⟩) (hT' : ∀ j, j ≠ o.id → M'.T j = M.T j)
    (hK : M'.L o.id = o'.ak.map idN) (hK' : ∀ j, j ≠ o.id → M'.L j = M.L j) (hb : (∀ x ∈ o'.ak, x < 256) ∧ o'.ak.length ≤ 16 ∧ (o'.r = true → o'.t = true) ∧ (o'.a = true → o'.v = true ∧ o'.t = true)) : InvP (L.set k o') M' := by
  have hne := ids_ne h.nd hk
  have hkl := (List.getElem?_eq_some_iff.1 hk).1
  have ho := List.mem_of_getElem? hk
  have hset : L.set k o' = L.take k ++ o' :: L.drop (k + 1) := List.set_eq_take_append_cons_drop.trans (if_pos hkl)
  have hL : L = L.take k ++ o :: L.drop (k + 1) := by
    rw [← (List.getElem?_eq_some_iff.1 hk).2, List.getElem_cons_drop, List.take_append_drop]
  have hmem : ∀ z, z ∈ L.set k o' → z = o' ∨ z ∈ L.take k ++ L.drop (k + 1) := fun z hz => by
    rw [hset] at hz
    rcases List.mem_append.1 hz with h | h
    · exact .inr (List.mem_append.2 (.inl h))
    · rcases List.mem_cons.1 h with h | h
      · exact .inl h
      · exact .inr (List.mem_append.2 (.inr h))
  have hmem' : ∀ z, z ∈ L.take k ++ L.drop (k + 1) → z ∈ L.set k o' := fun z hz => by
    rw [hset]
    rcases List.mem_append.1 hz with h | h
    · exact List.mem_append.2 (.inl h)
    · exact List.mem_append.2 (.inr (List.mem_cons_of_mem _ h))
  have ho' : o' ∈ L.set k o' := by rw [hset]; simp
  refine ⟨by rw [hn, h.n, List.length_set], ?_, fun z hz => ?_, fun j hj => ?_, fun z hz => ?_, fun j hj => ?_, fun z hz => ?_⟩
  · have : (L.set k o').map (·.id) = L.map (·.id) := by
      rw [hset, List.map_append, List.map_cons, hid]
      conv => rhs; rw [hL, List.map_append, List.map_cons]
    rw [this]
    exact h.nd
  · rcases hmem z hz with rfl | hz
    · rw [hid]; exact hT
    · rw [hT' _ (hne z hz).1]; exact h.T z (hne z hz).2
  · have hj' : j ≠ o.id := fun e => hj o' ho' (by rw [hid, e])
    rw [hT' j hj']
    exact h.T0 j (fun z hz => (mem_split hk hz).elim (fun h' => by rw [h']; exact fun e => hj' e.symm) (fun h' => hj z (hmem' z h')))
  · rcases hmem z hz with rfl | hz
    · rw [hid]; exact hK
    · rw [hK' _ (hne z hz).1]; exact h.K z (hne z hz).2
  · have hj' : j ≠ o.id := fun e => hj o' ho' (by rw [hid, e])
    rw [hK' j hj']
    exact h.L0 j (fun z hz => (mem_split hk hz).elim (fun h' => by rw [h']; exact fun e => hj' e.symm) (fun h' => hj z (hmem' z h')))
  · rcases hmem z hz with rfl | hz
    · exact ⟨hb.1, hb.2.1, by rw [hid]; exact (h.b o ho).2.2.1, hb.2.2⟩
    · exact h.b z (hne z hz).2
end Go.Proofs.Ytcedljfdnbenoaa
