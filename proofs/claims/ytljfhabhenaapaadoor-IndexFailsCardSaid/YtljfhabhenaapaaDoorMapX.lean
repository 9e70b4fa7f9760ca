/-
  Maps keyed by ints or by names: what each key holds, as a function; and the ranging over them.
-/
import Derived.Test.YtljfhabhenaapaaDoorRwX
import Derived.Maps.OwnSet
import Derived.Maps.RangeWalk
import Derived.DeepKeys4
namespace Go.Proofs.YtljfhabhenaapaaDoor
open Go.RowKit
open Go.Maps (Keyed IsMap)
open Go.ChangeMaps (setBlock heap_setBlock_same heap_setBlock_other)
set_option linter.unusedVariables false
set_option linter.unusedSimpArgs false
set_option maxRecDepth 100000

/-- 32 bytes. -/
abbrev I32 := {l : List Nat // l.length = 32 ∧ ∀ b ∈ l, b < 256}
theorem idLaidOut : laidOutB Tryd.prog = true := by kernel_rfl
theorem idRowT : (30 : TypeId) < Tryd.prog.types.size := of_decide_eq_true (by kernel_rfl)
theorem idWide : (match Tryd.prog.underlying 30 with | some (.array _ _) | some (.struct _) => true | _ => false) = true := by kernel_rfl
theorem idLaw : Keyed Tryd.prog 30 := Keyed.of_law (deep_law_laid idLaidOut (m := 3) (by omega) idRowT (by kernel_rfl) idWide)
def idL (x : I32) : List Value := x.1.map byteV
def idV (x : I32) : Value := .agg (idL x).toArray
theorem idL_len (x : I32) : (idL x).length = 32 := by unfold idL; rw [List.length_map, x.2.1]
theorem mapM_someK {α β : Type} (f : α → Option β) : ∀ (l : List α), (∀ x ∈ l, ∃ y, f x = some y) → ∃ ys, l.mapM f = some ys := by
  intro l
  induction l with
  | nil => intro _; exact ⟨[], rfl⟩
  | cons a r ih =>
    intro h
    obtain ⟨y, hy⟩ := h a List.mem_cons_self
    obtain ⟨ys, hys⟩ := ih (fun x hx => h x (List.mem_cons_of_mem _ hx))
    exact ⟨y :: ys, by simp [List.mapM_cons, hy, hys]⟩
theorem lit_u8 (d b : Nat) (h : b < 256) : ∃ l, Tryd.prog.keyLits (d + 1) 5 [.int .u8 (b : Int)] = some l := by
  refine ⟨[.int .u8 (b : Int)], ?_⟩
  unfold Program.keyLits
  rw [Tryd.underlying5]
  have hw : (Lit.int .u8 (b : Int)).wf = true := by simp [Lit.wf, IntKind.min, IntKind.max, IntKind.wrap, IntKind.signed, IntKind.bits]; omega
  simp [hw]
theorem lit_id (d : Nat) (x : I32) : ∃ l, Tryd.prog.keyLits (d + 2) 30 (idL x) = some l := by
  unfold Program.keyLits idL
  rw [Tryd.underlying30]
  simp only
  rw [if_pos (by rw [List.length_map, x.2.1]; kernel_rfl), show Tryd.prog.cellsOf 5 = 1 by kernel_rfl]
  obtain ⟨ys, hys⟩ := mapM_someK (fun i => Tryd.prog.keyLits (d + 1) 5 (((x.1.map byteV).drop (i * 1)).take 1)) (List.range 32) (fun i hi => by
    have hi : i < 32 := List.mem_range.1 hi
    have hl : i < x.1.length := by rw [x.2.1]; exact hi
    rw [Nat.mul_one, ← List.map_drop, List.drop_eq_getElem_cons hl, List.map_cons, List.take_succ_cons, List.take_zero]
    exact lit_u8 d _ (x.2.2 _ (List.getElem_mem hl)))
  rw [hys]
  exact ⟨_, rfl⟩
theorem id_key (x : I32) : ∃ kl, keyOf Tryd.prog 30 (idV x) = some kl := by
  obtain ⟨l, hl⟩ := lit_id (Tryd.prog.types.size - 1) x
  refine ⟨.string (keyBytes l), ?_⟩
  unfold keyOf
  rw [Tryd.underlying30]
  simp only
  have hs : Tryd.prog.types.size + 1 = Tryd.prog.types.size - 1 + 2 := by have : 1 ≤ Tryd.prog.types.size := of_decide_eq_true (by kernel_rfl); omega
  have hf : (idV x).formed Tryd.prog 30 = true := by
    unfold idV
    simp [Value.formed, Tryd.underlying30, idL_len]
    kernel_rfl
  have hk : Tryd.prog.keyType 30 = true := by kernel_rfl
  rw [hf, hk, hs]
  show (if (true && true) = true then Option.map _ (Tryd.prog.keyLits _ _ (idL x).toArray.toList) else none) = _
  rw [List.toList_toArray, hl]
  rfl
theorem idV_inj (p q : I32) (h : idV p = idV q) : p = q := by
  unfold idV at h
  have h : (idL p).toArray = (idL q).toArray := by injection h
  have h : idL p = idL q := by simpa using h
  refine Subtype.ext (List.map_inj_right ?_ |>.1 h)
  intro a b hab
  unfold byteV at hab
  have hab : (a : Int) = (b : Int) := by injection hab
  omega
theorem intLaw : Keyed Tryd.prog 3 := Go.Maps.int_keyed Tryd.underlying3
def InI (i : Int) : Prop := -9223372036854775808 ≤ i ∧ i ≤ 9223372036854775807
theorem int_key (i : Int) (h : InI i) : ∃ kl, keyOf Tryd.prog 3 (.int .i64 i) = some kl := by
  unfold InI at h
  have hw : (Lit.int .i64 i).wf = true := by simp [Lit.wf, IntKind.min, IntKind.max, IntKind.signed, IntKind.bits]; omega
  exact ⟨_, Go.Maps.keyOf_int_mk Tryd.underlying3 hw⟩

/-- A kind of keys. -/
structure KeyT (κ : Type) where
  k : TypeId
  kv : κ → Value
  ok : κ → Prop
structure KeyT.Ok {κ : Type} (K : KeyT κ) : Prop where
  law : Keyed Tryd.prog K.k
  key : ∀ x, K.ok x → ∃ kl, keyOf Tryd.prog K.k (K.kv x) = some kl
  inj : ∀ x y, K.kv x = K.kv y → x = y
def kInt : KeyT Int := ⟨3, fun i => .int .i64 i, InI⟩
def kId : KeyT I32 := ⟨30, idV, fun _ => True⟩
theorem kInt_ok : kInt.Ok := ⟨intLaw, int_key, fun x y h => by injection h⟩
theorem kId_ok : kId.Ok := ⟨idLaw, fun x _ => id_key x, idV_inj⟩
/-- A kind of maps. -/
structure MpT (κ β : Type) where
  K : KeyT κ
  t : TypeId
  e : TypeId
  R : Value → Option (DataW Unit × List MemPlace)
  enc : β → DataW Unit
  v : β → Value
  z : Value
  zd : DataW Unit
structure MpT.Ok {κ β : Type} (E : MpT κ β) : Prop where
  hk : E.K.Ok
  ht : Tryd.prog.underlying E.t = some (.map E.K.k E.e)
  zero : ∀ w, (zeroValue E.e).run Tryd.prog w = .ok E.z w
  rz : E.R E.z = some (E.zd, [])
  inv0 : ∀ v ps, E.R v = some (E.zd, ps) → v = E.z
  rd : ∀ x, E.R (E.v x) = some (E.enc x, [])
  inv : ∀ v x ps, E.R v = some (E.enc x, ps) → v = E.v x
section
variable {κ β : Type} {E : MpT κ β}
def upd [DecidableEq κ] (f : κ → Option β) (x : κ) (y : Option β) : κ → Option β := fun z => if z = x then y else f z
theorem upd_same [DecidableEq κ] (f : κ → Option β) (x : κ) (y : Option β) : upd f x y x = y := if_pos rfl
theorem upd_other [DecidableEq κ] (f : κ → Option β) {x z : κ} (y : Option β) (h : z ≠ x) : upd f x y z = f z := if_neg h
/-- What a datum holds. -/
structure Holds (E : MpT κ β) (D : DataW Unit) (f : κ → Option β) : Prop where
  no : ∀ x kl, E.K.ok x → keyOf Tryd.prog E.K.k (E.K.kv x) = some kl → f x = none → Maps.has D kl = false
  yes : ∀ x kl y, E.K.ok x → keyOf Tryd.prog E.K.k (E.K.kv x) = some kl → f x = some y → Maps.has D kl = true ∧ ∀ zd, D.atKey kl zd = E.enc y
  all : ∀ kl, Maps.has D kl = true → ∃ x, E.K.ok x ∧ keyOf Tryd.prog E.K.k (E.K.kv x) = some kl
theorem Holds.nil : Holds E (.map []) (fun _ => none) := ⟨fun _ _ _ _ _ => rfl, fun _ _ _ _ _ h => (by cases h), fun kl h => (by cases h)⟩
theorem Holds.is {D : DataW Unit} {f : κ → Option β} (h : Holds E D f) {x : κ} (hx : E.K.ok x) {kl : Lit} (hk : keyOf Tryd.prog E.K.k (E.K.kv x) = some kl) : Maps.has D kl = (f x).isSome := by
  cases hf : f x with
  | none => exact h.no x kl hx hk hf
  | some y => exact (h.yes x kl y hx hk hf).1
theorem Holds.put [DecidableEq κ] (hE : E.Ok) {D : DataW Unit} {f : κ → Option β} (h : Holds E D f) (hD : IsMap D) {x : κ} (hx : E.K.ok x) {kl : Lit} (hk : keyOf Tryd.prog E.K.k (E.K.kv x) = some kl) (y : β) : Holds E (D.put kl (E.enc y)) (upd f x (some y)) where
  no := fun z kz hz hkz hf => by
    by_cases e : z = x
    · subst e; rw [upd_same] at hf; cases hf
    · rw [upd_other _ _ e] at hf
      have hne : kz ≠ kl := fun h' => e (hE.hk.inj _ _ (hE.hk.law.inj hkz (h' ▸ hk)))
      rw [Go.Maps.has_put_other hne]
      exact h.no z kz hz hkz hf
  yes := fun z kz u hz hkz hf => by
    by_cases e : z = x
    · subst e
      rw [upd_same] at hf
      cases hf
      obtain rfl : kz = kl := Option.some.inj (hkz.symm.trans hk)
      exact ⟨Go.Maps.has_put_same hD (hE.hk.law.key hk) _, fun zd => Go.Maps.atKey_put_same hD (hE.hk.law.key hk) _ _⟩
    · rw [upd_other _ _ e] at hf
      have hne : kz ≠ kl := fun h' => e (hE.hk.inj _ _ (hE.hk.law.inj hkz (h' ▸ hk)))
      obtain ⟨h1, h2⟩ := h.yes z kz u hz hkz hf
      exact ⟨by rw [Go.Maps.has_put_other hne]; exact h1, fun zd => by rw [Go.Maps.atKey_put_other hne]; exact h2 zd⟩
  all := fun kz hz => by
    by_cases e : kz = kl
    · subst e; exact ⟨x, hx, hk⟩
    · rw [Go.Maps.has_put_other e] at hz; exact h.all kz hz
theorem Holds.del [DecidableEq κ] (hE : E.Ok) {D : DataW Unit} {f : κ → Option β} (h : Holds E D f) {x : κ} (hx : E.K.ok x) {kl : Lit} (hk : keyOf Tryd.prog E.K.k (E.K.kv x) = some kl) : Holds E (D.del kl) (upd f x none) where
  no := fun z kz hz hkz hf => by
    by_cases e : z = x
    · subst e
      obtain rfl : kz = kl := Option.some.inj (hkz.symm.trans hk)
      exact Go.Maps.has_del_same
    · rw [upd_other _ _ e] at hf
      have hne : kz ≠ kl := fun h' => e (hE.hk.inj _ _ (hE.hk.law.inj hkz (h' ▸ hk)))
      rw [Go.Maps.has_del_other hne]
      exact h.no z kz hz hkz hf
  yes := fun z kz u hz hkz hf => by
    by_cases e : z = x
    · subst e; rw [upd_same] at hf; cases hf
    · rw [upd_other _ _ e] at hf
      have hne : kz ≠ kl := fun h' => e (hE.hk.inj _ _ (hE.hk.law.inj hkz (h' ▸ hk)))
      obtain ⟨h1, h2⟩ := h.yes z kz u hz hkz hf
      exact ⟨by rw [Go.Maps.has_del_other hne]; exact h1, fun zd => by rw [Go.Maps.atKey_del_other hne]; exact h2 zd⟩
  all := fun kz hz => by
    by_cases e : kz = kl
    · subst e; rw [Go.Maps.has_del_same] at hz; cases hz
    · rw [Go.Maps.has_del_other e] at hz; exact h.all kz hz
/-- Block b is a map of n entries, and holds f. -/
def MapG (E : MpT κ β) (w : World) (b n : Nat) (f : κ → Option β) : Prop := ∃ D : DataW Unit, w.ownsMap Tryd.prog E.K.k E.R b n D ∧ Maps.size D = n ∧ Holds E D f
theorem MapG.lt {w : World} {b n : Nat} {f : κ → Option β} (h : MapG E w b n f) : b < w.heap.size := by
  obtain ⟨D, h, _⟩ := h
  exact h.lt
theorem MapG.made (w : World) : MapG E (w.alloc (.map #[] 0)) w.heap.size 0 (fun _ => none) := ⟨_, World.ownsMap_made _ _ _ _, rfl, Holds.nil⟩
theorem owns_but {w w' : World} {S : Nat → Prop} {k : TypeId} {R : Value → Option (DataW Unit × List MemPlace)} {b n : Nat} {D : DataW Unit} (h : w.ownsMap Tryd.prog k R b n D) (hb : But S w w') (hs : ¬ S b) : w'.ownsMap Tryd.prog k R b n D := by
  have hl := h.lt
  obtain ⟨es, clock, h1, h2⟩ := h
  exact ⟨es, clock, (hb.block b hl hs).trans h1, h2⟩
theorem owns_tight {w : World} {k : TypeId} {R : Value → Option (DataW Unit × List MemPlace)} {b n : Nat} {D : DataW Unit} (h : w.ownsMap Tryd.prog k R b n D) : w.ownsMap Tryd.prog k R b (Maps.size D) D := by
  obtain ⟨es, clock, h1, h2, h3, rfl⟩ := h
  refine ⟨es, clock, h1, h2, ?_, rfl⟩
  have := Go.Maps.size_eq ((es.toList.map (Go.WideElems.rg Tryd.prog k R)).foldr DataW.insert [])
  rw [this, length_sorted]
  simp
theorem MapG.but {w w' : World} {S : Nat → Prop} {b n : Nat} {f : κ → Option β} (h : MapG E w b n f) (hb : But S w w') (hs : ¬ S b) : MapG E w' b n f := by
  obtain ⟨D, h, h2, h3⟩ := h
  exact ⟨D, owns_but h hb hs, h2, h3⟩
theorem MapG.keep {w w' : World} {b n : Nat} {f : κ → Option β} (h : MapG E w b n f) (hb : Below w.heap.size w w') : MapG E w' b n f := h.but (But.of (S := fun _ => False) hb) (fun h => h)
def valO (E : MpT κ β) : Option β → Value
  | none => E.z
  | some y => E.v y
theorem MapG.look (hE : E.Ok) {w : World} {b n : Nat} {f : κ → Option β} (h : MapG E w b n f) {x : κ} (hx : E.K.ok x) :
    (Instr.lookup E.t (.map (some b)) (E.K.kv x) true).run Tryd.prog w = .ok (.tuple #[valO E (f x), .bool (f x).isSome]) w := by
  obtain ⟨D, h, _, hf⟩ := h
  obtain ⟨kl, hk⟩ := hE.hk.key x hx
  obtain ⟨v, ps, hrun, hv⟩ := h.look_ok hE.hk.law hE.ht (hE.zero w) hE.rz hk
  rw [hrun, hf.is hx hk]
  cases hfx : f x with
  | none =>
    have := hf.no x kl hx hk hfx
    rw [Go.Maps.atKey_of_not_has this] at hv
    rw [hE.inv0 v ps hv]
    rfl
  | some y =>
    rw [(hf.yes x kl y hx hk hfx).2] at hv
    rw [hE.inv v y ps hv]
    rfl
theorem MapG.len (hE : E.Ok) {w : World} {b n : Nat} {f : κ → Option β} (h : MapG E w b n f) (ty : TypeId) : (Builtin.len_ #[E.t] ty #[.map (some b)]).run Tryd.prog w = .ok (.int .i64 (n : Int)) w := by
  obtain ⟨D, h, h2, _⟩ := h
  rw [h.len hE.ht ty, h2]
theorem but_of_turned {w w' : World} {b : Nat} (h : w.mapTurned w' b) : But (fun k => k = b) w w' := by
  obtain ⟨es, clock, es', clock', hb, rfl⟩ := h
  exact ⟨rfl, rfl, rfl, by simp [setBlock], fun k hk hn => heap_setBlock_other hb _ hn⟩
theorem MapG.put [DecidableEq κ] (hE : E.Ok) {w : World} {b n : Nat} {f : κ → Option β} (h : MapG E w b n f) {x : κ} (hx : E.K.ok x) (y : β) (hn : n < maxLen) :
    ∃ w', (Instr.mapUpdate E.t (.map (some b)) (E.K.kv x) (E.v y)).run Tryd.prog w = .ok () w' ∧ MapG E w' b (if (f x).isSome = true then n else n + 1) (upd f x (some y)) ∧ But (fun k => k = b) w w' := by
  obtain ⟨D, h, h2, hf⟩ := h
  obtain ⟨kl, hk⟩ := hE.hk.key x hx
  obtain ⟨w', hrun, h1, ht⟩ := h.store hE.hk.law hE.ht hn hk (hE.rd y)
  have hsz := Go.Maps.size_put (k := kl) (h.tidy hE.hk.law) (E.enc y)
  rw [hf.is hx hk, h2] at hsz
  exact ⟨w', hrun, ⟨_, by rw [← hsz]; exact owns_tight h1, hsz, hf.put hE h.isMap hx hk y⟩, but_of_turned ht⟩
theorem MapG.del [DecidableEq κ] (hE : E.Ok) {w : World} {b n : Nat} {f : κ → Option β} (h : MapG E w b n f) {x : κ} (hx : E.K.ok x) (ty : TypeId) :
    ∃ w', (Builtin.delete_ #[E.t, E.K.k] ty #[.map (some b), E.K.kv x]).run Tryd.prog w = .ok (.tuple #[]) w' ∧ MapG E w' b (if (f x).isSome = true then n - 1 else n) (upd f x none) ∧ But (fun k => k = b) w w' := by
  obtain ⟨D, h, h2, hf⟩ := h
  obtain ⟨kl, hk⟩ := hE.hk.key x hx
  obtain ⟨w', hrun, h1, ht⟩ := h.drop hE.hk.law hE.ht hk ty
  have hsz := Go.Maps.size_del (k := kl) (h.tidy hE.hk.law)
  rw [hf.is hx hk, h2] at hsz
  have hsz : Maps.size (D.del kl) = (if (f x).isSome = true then n - 1 else n) := by
    revert hsz
    split <;> intro hsz <;> omega
  exact ⟨w', hrun, ⟨_, by rw [← hsz]; exact owns_tight h1, hsz, hf.del hE hx hk⟩, but_of_turned ht⟩
/-- A map that may be nil. -/
def MapV (E : MpT κ β) (w : World) (v : Value) (n : Nat) (f : κ → Option β) : Prop := (v = .map none ∧ n = 0 ∧ ∀ x, f x = none) ∨ ∃ b, v = .map (some b) ∧ MapG E w b n f
theorem MapV.look (hE : E.Ok) {w : World} {v : Value} {n : Nat} {f : κ → Option β} (h : MapV E w v n f) {x : κ} (hx : E.K.ok x) :
    (Instr.lookup E.t v (E.K.kv x) true).run Tryd.prog w = .ok (.tuple #[valO E (f x), .bool (f x).isSome]) w := by
  rcases h with ⟨rfl, _, hf⟩ | ⟨b, rfl, h⟩
  · obtain ⟨kl, hk⟩ := hE.hk.key x hx
    rw [Go.Maps.look_nil true hE.hk.law hE.ht (hE.zero w) hk, hf x]
    rfl
  · exact h.look hE hx
theorem MapV.len (hE : E.Ok) {w : World} {v : Value} {n : Nat} {f : κ → Option β} (h : MapV E w v n f) (ty : TypeId) : (Builtin.len_ #[E.t] ty #[v]).run Tryd.prog w = .ok (.int .i64 (n : Int)) w := by
  rcases h with ⟨rfl, rfl, hf⟩ | ⟨b, rfl, h⟩
  · exact Go.Maps.len_nil hE.ht ty
  · exact h.len hE ty
theorem MapV.del [DecidableEq κ] (hE : E.Ok) {w : World} {v : Value} {n : Nat} {f : κ → Option β} (h : MapV E w v n f) {x : κ} (hx : E.K.ok x) (ty : TypeId) :
    ∃ w', (Builtin.delete_ #[E.t, E.K.k] ty #[v, E.K.kv x]).run Tryd.prog w = .ok (.tuple #[]) w' ∧ MapV E w' v (if (f x).isSome = true then n - 1 else n) (upd f x none) ∧ But (fun k => v = .map (some k)) w w' := by
  rcases h with ⟨rfl, rfl, hf⟩ | ⟨b, rfl, h⟩
  · obtain ⟨kl, hk⟩ := hE.hk.key x hx
    refine ⟨w, Go.Maps.drop_nil hE.hk.law hE.ht hk ty, .inl ⟨rfl, by rw [hf x]; rfl, fun z => ?_⟩, But.refl _ _⟩
    unfold upd
    split
    · rfl
    · exact hf z
  · obtain ⟨w', h1, h2, h3⟩ := h.del hE hx ty
    exact ⟨w', h1, .inr ⟨b, rfl, h2⟩, h3.mono (fun k _ e => by rw [e])⟩
theorem MapV.but {w w' : World} {S : Nat → Prop} {v : Value} {n : Nat} {f : κ → Option β} (h : MapV E w v n f) (hb : But S w w') (hs : ∀ k, v = .map (some k) → ¬ S k) : MapV E w' v n f := by
  rcases h with h | ⟨b, rfl, h⟩
  · exact .inl h
  · exact .inr ⟨b, rfl, h.but hb (hs b rfl)⟩
/-- The map b is ranged over by r; rem: which keys are still to come. -/
def RngG (E : MpT κ β) (w : World) (b r N : Nat) (f : κ → Option β) (rem : κ → Bool) : Prop :=
  ∃ (D : DataW Unit) (left : Lit → Bool) (cnt : Nat), w.ranges Tryd.prog E.K.k E.R b r N D left cnt ∧ Holds E D f ∧ ∀ x kl, E.K.ok x → keyOf Tryd.prog E.K.k (E.K.kv x) = some kl → left kl = rem x
theorem MapG.range (hE : E.Ok) {w : World} {b n : Nat} {f : κ → Option β} (h : MapG E w b n f) :
    ∃ w', (Instr.range E.t (.map (some b))).run Tryd.prog w = .ok (.pointer (some ⟨w.heap.size, 0, none⟩)) w' ∧ RngG E w' b w.heap.size n f (fun x => (f x).isSome) ∧ Below w.heap.size w w' ∧ w'.heap.size = w.heap.size + 1 := by
  obtain ⟨D, h, h2, hf⟩ := h
  obtain ⟨w', h1, h3, h4, h5⟩ := h.range hE.hk.law hE.ht
  exact ⟨w', h1, ⟨D, _, _, h3, hf, fun x kl hx hk => hf.is hx hk⟩, ⟨h4.os, h4.tape, h4.output, h4.size, fun k hk => h4.block k hk (by simp)⟩, h5⟩
theorem RngG.lt {w : World} {b r N : Nat} {f : κ → Option β} {rem : κ → Bool} (h : RngG E w b r N f rem) : r < w.heap.size ∧ b < w.heap.size ∧ r ≠ b := by
  obtain ⟨D, left, cnt, h, _⟩ := h
  exact ⟨h.lt, h.owns.lt, h.ne⟩
theorem RngG.out {w : World} {b r N : Nat} {f : κ → Option β} {rem : κ → Bool} (h : RngG E w b r N f rem) : ∃ n, n ≤ N ∧ MapG E w b n f := by
  obtain ⟨D, left, cnt, h, hf, _⟩ := h
  exact ⟨Maps.size D, h.owns.size_le, D, owns_tight h.owns, rfl, hf⟩
theorem RngG.but {w w' : World} {S : Nat → Prop} {b r N : Nat} {f : κ → Option β} {rem : κ → Bool} (h : RngG E w b r N f rem) (hb : But S w w') (h1 : ¬ S b) (h2 : ¬ S r) : RngG E w' b r N f rem ∧ w'.rangeLeft b r = w.rangeLeft b r := by
  obtain ⟨hr, hbl, _⟩ := h.lt
  obtain ⟨D, left, cnt, h, hf, hl⟩ := h
  have h' : w'.ranges Tryd.prog E.K.k E.R b r N D left cnt := by
    obtain ⟨es, clock, since, seen, c0, g1, g2, g3, g4, g5, g6⟩ := h
    exact ⟨es, clock, since, seen, c0, (hb.block b hbl h1).trans g1, g2, g3, g4, (hb.block r hr h2).trans g5, g6⟩
  exact ⟨⟨D, left, cnt, h', hf, hl⟩, by rw [h'.left_eq, h.left_eq]⟩
theorem rem_step [DecidableEq κ] (hE : E.Ok) {left : Lit → Bool} {rem : κ → Bool} (hl : ∀ x kl, E.K.ok x → keyOf Tryd.prog E.K.k (E.K.kv x) = some kl → left kl = rem x) {x : κ} {kl : Lit} (hk : keyOf Tryd.prog E.K.k (E.K.kv x) = some kl) :
    ∀ z kz, E.K.ok z → keyOf Tryd.prog E.K.k (E.K.kv z) = some kz → (left kz && !kz.sameKey kl) = (rem z && !decide (z = x)) := by
  intro z kz hz hkz
  rw [hl z kz hz hkz]
  by_cases e : z = x
  · subst e
    obtain rfl : kz = kl := Option.some.inj (hkz.symm.trans hk)
    rw [WideAt.sameKey_self (hE.hk.law.key hk)]
    simp
  · have hne : kz ≠ kl := fun h' => e (hE.hk.inj _ _ (hE.hk.law.inj hkz (h' ▸ hk)))
    rw [Go.Maps.sameKey_ne hne]
    simp [e]
theorem RngG.next [DecidableEq κ] (hE : E.Ok) {w : World} {b r N : Nat} {f : κ → Option β} {rem : κ → Bool} (h : RngG E w b r N f rem) (ty : TypeId) :
    ((∀ x, E.K.ok x → rem x = false) ∧ (Instr.next (.pointer (some ⟨r, 0, none⟩)) false ty).run Tryd.prog w = .ok (.tuple #[.bool false]) w) ∨
    ∃ x y w', E.K.ok x ∧ rem x = true ∧ f x = some y ∧ (Instr.next (.pointer (some ⟨r, 0, none⟩)) false ty).run Tryd.prog w = .ok (.tuple #[.bool true, E.K.kv x, E.v y]) w' ∧ RngG E w' b r N f (fun z => rem z && !decide (z = x)) ∧
      w'.rangeLeft b r < w.rangeLeft b r ∧ But (fun k => k = r) w w' ∧ w'.heap.size = w.heap.size ∧ (Instr.entry (.pointer (some ⟨r, 0, none⟩))).run Tryd.prog w' = .ok (.tuple #[E.K.kv x, E.v y]) w' := by
  obtain ⟨D, left, cnt, h, hf, hl⟩ := h
  rcases h.next hE.hk.law ty with ⟨h0, h1, h2⟩ | ⟨key, v, kl, y, w', cnt', g1, g2, g3, g4, g5, g6, g7, g8, g9, g10⟩
  · exact .inl ⟨fun x hx => by
      obtain ⟨kl, hk⟩ := hE.hk.key x hx
      rw [← hl x kl hx hk]
      exact h1 kl, h2⟩
  · have hh := Go.Maps.has_true_of_atKey g4
    obtain ⟨x, hx, hkx⟩ := hf.all kl hh
    obtain rfl : key = E.K.kv x := hE.hk.law.inj g1 hkx
    cases hfx : f x with
    | none =>
      have := hf.no x kl hx hkx hfx
      rw [hh] at this
      cases this
    | some u =>
      have hu := (hf.yes x kl u hx hkx hfx).2 (.nil)
      rw [g4] at hu
      obtain rfl : v = E.v u := hE.inv v u y.2 (g3.trans (congrArg some (Prod.ext hu rfl)))
      refine .inr ⟨x, u, w', hx, by rw [← hl x kl hx hkx]; exact g2, hfx, g5, ⟨D, _, cnt', g6, hf, rem_step hE hl hkx⟩, by rw [g6.left_eq, h.left_eq]; exact g7, ⟨g8.os, g8.tape, g8.output, g8.size, fun k hk hn => g8.block k hk (fun e => hn (by injection e))⟩, g9, g10⟩
theorem RngG.drop [DecidableEq κ] (hE : E.Ok) {w : World} {b r N : Nat} {f : κ → Option β} {rem : κ → Bool} (h : RngG E w b r N f rem) {x : κ} (hx : E.K.ok x) (ty : TypeId) :
    ∃ w', (Builtin.delete_ #[E.t, E.K.k] ty #[.map (some b), E.K.kv x]).run Tryd.prog w = .ok (.tuple #[]) w' ∧ RngG E w' b r N (upd f x none) (fun z => rem z && !decide (z = x)) ∧ w'.rangeLeft b r ≤ w.rangeLeft b r ∧ But (fun k => k = b) w w' ∧ w'.heap.size = w.heap.size := by
  obtain ⟨D, left, cnt, h, hf, hl⟩ := h
  obtain ⟨kl, hk⟩ := hE.hk.key x hx
  obtain ⟨w', cnt', g1, g2, g3, g4⟩ := h.drop hE.hk.law hE.ht hk ty
  refine ⟨w', g1, ⟨_, _, cnt', g2, hf.del hE hx hk, rem_step hE hl hk⟩, by rw [g2.left_eq, h.left_eq]; exact g3, but_of_turned g4, ?_⟩
  obtain ⟨es, clock, es', clock', hb, rfl⟩ := g4
  simp [setBlock]
end
/-- Elements: ints, pointers. -/
def litI : Value → Option (DataW Unit × List MemPlace)
  | .int .i64 a => some (.lit (.int .i64 a), [])
  | _ => none
theorem litI_inv {v : Value} {y} (h : litI v = some y) : ∃ x : Int, v = .int .i64 x ∧ y = (.lit (.int .i64 x), []) := by
  unfold litI at h
  split at h
  · cases h; exact ⟨_, rfl, rfl⟩
  · cases h
def akE : MpT I32 Int := ⟨kId, 73, 3, litI, fun j => .lit (.int .i64 j), fun j => .int .i64 j, .int .i64 0, .lit (.int .i64 0)⟩
theorem akE_ok : akE.Ok where
  hk := kId_ok
  ht := Tryd.underlying73
  zero := fun w => by kernel_rfl
  rz := rfl
  inv0 := fun v ps h => by
    obtain ⟨x, rfl, e⟩ := litI_inv h
    have e1 : (DataW.lit (.int .i64 0) : DataW Unit) = .lit (.int .i64 x) := congrArg Prod.fst e
    have e2 : (0 : Int) = x := by injection e1 with e1; injection e1
    rw [← e2]
    rfl
  rd := fun x => rfl
  inv := fun v x ps h => by
    obtain ⟨y, rfl, e⟩ := litI_inv h
    have e1 : (DataW.lit (.int .i64 x) : DataW Unit) = .lit (.int .i64 y) := congrArg Prod.fst e
    have e2 : x = y := by injection e1 with e1; injection e1
    rw [e2]
    rfl
end Go.Proofs.YtljfhabhenaapaaDoor
