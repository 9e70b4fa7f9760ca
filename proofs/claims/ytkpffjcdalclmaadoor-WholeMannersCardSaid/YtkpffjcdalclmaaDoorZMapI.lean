/- Maps with int keys, that the call itself has made: what each key holds, as a function. -/
import Derived.Test.YtkpffjcdalclmaaDoorZRwB
import Derived.Maps.OwnSet
namespace Go.Proofs.YtkpffjcdalclmaaDoor
open Go.RowKit
open Go.Maps (Keyed IsMap)
set_option linter.unusedVariables false
set_option linter.unusedSimpArgs false
set_option maxRecDepth 100000
theorem intLaw : Keyed Tryd.prog 3 := Go.Maps.int_keyed Tryd.underlying3
def kI (i : Int) : Lit := .int .i64 i
def InI (i : Int) : Prop := -9223372036854775808 ≤ i ∧ i ≤ 9223372036854775807
theorem keyI {i : Int} (h : InI i) : keyOf Tryd.prog 3 (.int .i64 i) = some (kI i) := by
  unfold InI at h
  have hw : (Lit.int .i64 i).wf = true := by simp [Lit.wf, IntKind.min, IntKind.max, IntKind.signed, IntKind.bits]; omega
  unfold keyOf
  rw [Tryd.underlying3]
  unfold mapKey
  rw [Tryd.underlying3]
  simp [hw, kI]
structure ElT (β : Type) where
  t : TypeId
  e : TypeId
  R : Value → Option (DataW Unit × List MemPlace)
  enc : β → DataW Unit
  v : β → Value
  z : β
structure ElT.Ok {β : Type} (E : ElT β) : Prop where
  ht : Tryd.prog.underlying E.t = some (.map 3 E.e)
  zero : ∀ w, (zeroValue E.e).run Tryd.prog w = .ok (E.v E.z) w
  rd : ∀ x, E.R (E.v x) = some (E.enc x, [])
  inv : ∀ v y, E.R v = some y → ∃ x, v = E.v x ∧ y.1 = E.enc x
  inj : ∀ x y, E.enc x = E.enc y → x = y
section
variable {β : Type} {E : ElT β}
def MapF (E : ElT β) (w : World) (b n : Nat) (f : Int → β) : Prop := ∃ D : DataW Unit, w.ownsMap Tryd.prog 3 E.R b n D ∧ ∀ i, InI i → D.atKey (kI i) (E.enc E.z) = E.enc (f i)
theorem MapF.lt {w : World} {b n : Nat} {f : Int → β} (h : MapF E w b n f) : b < w.heap.size := by
  obtain ⟨D, h, _⟩ := h
  exact h.lt
theorem MapF.made (w : World) : MapF E (w.alloc (.map #[] 0)) w.heap.size 0 (fun _ => E.z) := ⟨_, World.ownsMap_made _ _ _ _, fun i _ => rfl⟩
theorem MapF.but {w w' : World} {S : Nat → Prop} {b n : Nat} {f : Int → β} (h : MapF E w b n f) (hb : But S w w') (hs : ¬ S b) : MapF E w' b n f := by
  obtain ⟨D, h, hf⟩ := h
  have hl := h.lt
  obtain ⟨es, clock, h1, h2, h3, h4⟩ := h
  exact ⟨D, ⟨es, clock, (hb.block b hl hs).trans h1, h2, h3, h4⟩, hf⟩
theorem MapF.keep {w w' : World} {b n : Nat} {f : Int → β} (h : MapF E w b n f) (hb : Below w.heap.size w w') : MapF E w' b n f := h.but (But.of (S := fun _ => False) hb) (fun h => h)
theorem MapF.look (hE : E.Ok) {w : World} {b n : Nat} {f : Int → β} (h : MapF E w b n f) {i : Int} (hi : InI i) : (Instr.lookup E.t (.map (some b)) (.int .i64 i) false).run Tryd.prog w = .ok (E.v (f i)) w := by
  obtain ⟨D, h, hf⟩ := h
  obtain ⟨v, ps, hrun, hv⟩ := h.lookup intLaw hE.ht (hE.zero w) (hE.rd E.z) (keyI hi)
  obtain ⟨x, rfl, hx⟩ := hE.inv _ _ hv
  rw [hrun]
  have e := hf i hi
  rw [show x = f i from hE.inj _ _ (hx.symm.trans e)]
theorem MapF.put (hE : E.Ok) {w : World} {b n : Nat} {f : Int → β} (h : MapF E w b n f) {i : Int} (hi : InI i) (x : β) (hn : n ≤ 1000) :
    ∃ w', (Instr.mapUpdate E.t (.map (some b)) (.int .i64 i) (E.v x)).run Tryd.prog w = .ok () w' ∧ MapF E w' b (n + 1) (fun j => if j = i then x else f j) ∧ But (fun k => k = b) w w' := by
  obtain ⟨D, h, hf⟩ := h
  obtain ⟨w', hrun, h1, h2⟩ := h.update intLaw hE.ht (by unfold maxLen; omega) (keyI hi) (hE.rd x)
  refine ⟨w', hrun, ⟨_, h1, fun j hj => ?_⟩, ⟨h2.os, h2.tape, h2.output, h2.size, fun k hk hn => h2.block k hk (fun e => hn (by injection e))⟩⟩
  by_cases e : j = i
  · subst e
    show _ = E.enc (if j = j then x else f j)
    rw [if_pos rfl]
    exact Go.Maps.atKey_put_same h.isMap (intLaw.key (keyI hj)) _ _
  · show _ = E.enc (if j = i then x else f j)
    rw [if_neg e]
    rw [Go.Maps.atKey_put_other (fun h => e (by unfold kI at h; injection h))]
    exact hf j hj
end
def litI : Value → Option (DataW Unit × List MemPlace)
  | .int .i64 a => some (.lit (.int .i64 a), [])
  | _ => none
def litB : Value → Option (DataW Unit × List MemPlace)
  | .bool a => some (.lit (.bool a), [])
  | _ => none
def litP : Value → Option (DataW Unit × List MemPlace)
  | .pointer none => some (.nil, [])
  | .pointer (some ⟨b, 0, none⟩) => some (.lit (.int .i64 (b : Int)), [])
  | _ => none
def ptrV : Option Nat → Value
  | none => .pointer none
  | some b => .pointer (some ⟨b, 0, none⟩)
def ptrE : Option Nat → DataW Unit
  | none => .nil
  | some b => .lit (.int .i64 (b : Int))
theorem litI_inv (v : Value) (y) (h : litI v = some y) : ∃ x : Int, v = .int .i64 x ∧ y.1 = .lit (.int .i64 x) := by
  unfold litI at h
  split at h
  · cases h; exact ⟨_, rfl, rfl⟩
  · cases h
theorem litB_inv (v : Value) (y) (h : litB v = some y) : ∃ x : Bool, v = .bool x ∧ y.1 = .lit (.bool x) := by
  unfold litB at h
  split at h
  · cases h; exact ⟨_, rfl, rfl⟩
  · cases h
theorem litP_inv (v : Value) (y) (h : litP v = some y) : ∃ x : Option Nat, v = ptrV x ∧ y.1 = ptrE x := by
  unfold litP at h
  split at h
  · cases h; exact ⟨none, rfl, rfl⟩
  · cases h; exact ⟨some _, rfl, rfl⟩
  · cases h
theorem ptrE_inj : ∀ x y : Option Nat, ptrE x = ptrE y → x = y
  | none, none, _ => rfl
  | none, some b, h => by cases h
  | some a, none, h => by cases h
  | some a, some b, h => by
    have h1 : (a : Int) = (b : Int) := by injection h with h; injection h
    rw [show a = b by omega]
end Go.Proofs.YtkpffjcdalclmaaDoor
