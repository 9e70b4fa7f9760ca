/-
  Words for the document's numbers: slices of bits in memory, and the number that they are; one bit appended.
-/
import Derived.Test.YtkhiicnahijnoaaDoorRows
import Derived.Test.YtkhiicnahijnoaaDoorOvr
import Derived.Test.YtkhiicnahijnoaaDoorNumM
import Derived.Deep.Upon
import Derived.Laws.AppendOwn
import Derived.Deep.DeepAppendWide
import Derived.Lib.Hide
namespace Go.Proofs.YtkhiicnahijnoaaDoor
open Go.RowKit
set_option linter.unusedVariables false

def boV (b : Bool) : Value := .bool b
def boA (bs : List Bool) : Array Value := (bs.map boV).toArray
def falses (n : Nat) : List Bool := List.replicate n false
theorem boA_opt (l : List Bool) (i : Nat) : (boA l)[i]? = (l[i]?).map boV := by unfold boA; simp
/-- The number that bits are, the lowest first. -/
def valB : List Bool → Nat
  | [] => 0
  | b :: r => b.toNat + 2 * valB r
theorem valB_lt (l : List Bool) : valB l < 2 ^ l.length := by
  induction l with
  | nil => simp [valB]
  | cons b r ih =>
    rw [valB, List.length_cons, Nat.pow_succ]
    have : b.toNat ≤ 1 := by cases b <;> decide
    omega
theorem valB_append (l r : List Bool) : valB (l ++ r) = valB l + 2 ^ l.length * valB r := by
  induction l with
  | nil => simp [valB]
  | cons b l ih =>
    rw [List.cons_append, valB, ih, valB, List.length_cons, Nat.pow_succ, Nat.mul_add, Nat.mul_comm (2 ^ l.length) 2, Nat.mul_assoc, Nat.add_assoc]
theorem valB_drop (l : List Bool) (k : Nat) : valB (l.drop k) = valB l / 2 ^ k := by
  by_cases h : k ≤ l.length
  · have e : l = l.take k ++ l.drop k := (List.take_append_drop _ _).symm
    have hl : (l.take k).length = k := by rw [List.length_take]; omega
    have h1 := valB_append (l.take k) (l.drop k)
    rw [← e, hl] at h1
    have h2 := valB_lt (l.take k)
    rw [hl] at h2
    rw [h1, Nat.add_mul_div_left _ _ (Nat.two_pow_pos k), Nat.div_eq_of_lt h2, Nat.zero_add]
  · rw [List.drop_of_length_le (by omega)]
    have h2 := valB_lt l
    rw [Nat.div_eq_of_lt (Nat.lt_of_lt_of_le h2 (Nat.pow_le_pow_right (by omega) (by omega)))]
    rfl
theorem valB_take (l : List Bool) (k : Nat) : valB (l.take k) = valB l % 2 ^ k := by
  by_cases h : k ≤ l.length
  · have e : l = l.take k ++ l.drop k := (List.take_append_drop _ _).symm
    have hl : (l.take k).length = k := by rw [List.length_take]; omega
    have h1 := valB_append (l.take k) (l.drop k)
    rw [← e, hl] at h1
    have h2 := valB_lt (l.take k)
    rw [hl] at h2
    rw [h1, Nat.add_mul_mod_self_left, Nat.mod_eq_of_lt h2]
  · rw [List.take_of_length_le (by omega)]
    have h2 := valB_lt l
    rw [Nat.mod_eq_of_lt (Nat.lt_of_lt_of_le h2 (Nat.pow_le_pow_right (by omega) (by omega)))]
theorem valB_bit (l : List Bool) (k : Nat) : (l.getD k false).toNat = valB l / 2 ^ k % 2 := by
  rw [← valB_drop]
  by_cases h : k < l.length
  · rw [List.drop_eq_getElem_cons h, valB, List.getD, List.getElem?_eq_getElem h]
    simp only [Option.getD_some]
    have : l[k].toNat ≤ 1 := by cases l[k] <;> decide
    omega
  · rw [List.drop_of_length_le (by omega), List.getD, List.getElem?_eq_none (by omega)]
    rfl
/-- A bit of a number. -/
def bit (X k : Nat) : Bool := decide (X / 2 ^ k % 2 = 1)
theorem getD_bit (l : List Bool) (k : Nat) : l.getD k false = bit (valB l) k := by
  have h := valB_bit l k
  unfold bit
  cases hb : l.getD k false
  · rw [hb] at h
    have h : 0 = valB l / 2 ^ k % 2 := h
    rw [decide_eq_false (by omega)]
  · rw [hb] at h
    have h : 1 = valB l / 2 ^ k % 2 := h
    rw [decide_eq_true (by omega)]
theorem bit_toNat (X k : Nat) : (bit X k).toNat = X / 2 ^ k % 2 := by
  unfold bit
  rcases Nat.mod_two_eq_zero_or_one (X / 2 ^ k) with h | h
  · rw [h]; rfl
  · rw [h]; rfl
/-- A slice of these bits, in a block below B. -/
def BoV (w : World) (B : Nat) (v : Value) (bs : List Bool) : Prop := ∃ s cap, v = .slice s bs.length cap ∧ bs.length ≤ cap ∧ cap < 9223372036854775808 ∧
  (bs ≠ [] → ∃ b o, s = some ⟨b, o, none⟩ ∧ b < B ∧ ∀ i, i < bs.length → w.cell? ⟨b, o + i, none⟩ = some (.bool (bs.getD i false)))
/-- A slice of so many bits that are this number. -/
def BX (w : World) (v : Value) (X m : Nat) : Prop := ∃ bs : List Bool, bs.length = m ∧ valB bs = X ∧ BoV w w.heap.size v bs
theorem BX.keep {w w' : World} {v : Value} {X m : Nat} (h : BX w v X m) (hb : Below w.heap.size w w') : BX w' v X m := by
  obtain ⟨bs, h1, h2, s, cap, rfl, h3, h4, h5⟩ := h
  refine ⟨bs, h1, h2, s, cap, rfl, h3, h4, fun hne => ?_⟩
  obtain ⟨b, o, e, hlt, hc⟩ := h5 hne
  exact ⟨b, o, e, Nat.lt_of_lt_of_le hlt hb.size, fun i hi => (hb.cell (p := ⟨b, o + i, none⟩) hlt).trans (hc i hi)⟩
theorem BX.slice {w : World} {v : Value} {X m : Nat} (h : BX w v X m) : ∃ s c, v = .slice s m c ∧ m ≤ c := by
  obtain ⟨bs, h1, h2, s, cap, rfl, h3, _⟩ := h
  exact ⟨s, cap, by rw [h1], by omega⟩
theorem BX.lt {w : World} {v : Value} {X m : Nat} (h : BX w v X m) : X < 2 ^ m := by
  obtain ⟨bs, h1, h2, _⟩ := h
  rw [← h1, ← h2]
  exact valB_lt bs
/-- A bit of it, in memory. -/
theorem BX.at_ {w : World} {s : Option Addr} {X m c : Nat} (h : BX w (.slice s m c) X m) (k : Nat) (hk : k < m) : ∃ b o, s = some ⟨b, o, none⟩ ∧ b < w.heap.size ∧ w.cell? ⟨b, o + k, none⟩ = some (.bool (bit X k)) := by
  obtain ⟨bs, h1, h2, s', cap, e, h3, h4, h5⟩ := h
  cases e
  obtain ⟨b, o, e, hlt, hc⟩ := h5 (by intro h0; rw [h0] at hk; simp at hk)
  refine ⟨b, o, e, hlt, ?_⟩
  rw [hc k (by omega), getD_bit, h2]
theorem bool_facts : (Tryd.prog.info? 4).map (fun i => (i.zero, i.size, i.bytes)) = some (some (.bool false), 1, 1) := by kernel_rfl
theorem bool_info : ∃ i, Tryd.prog.info? 4 = some i ∧ i.zero = some (.bool false) ∧ i.size = 1 ∧ i.bytes = 1 := by
  have h := bool_facts
  revert h
  cases Tryd.prog.info? 4 with
  | none => intro h; cases h
  | some i =>
    intro h
    have h' : (i.zero, i.size, i.bytes) = (some (Value.bool false), 1, 1) := Option.some.inj h
    simp only [Prod.mk.injEq] at h'
    exact ⟨i, rfl, h'.1, h'.2.1, h'.2.2⟩
theorem zero_bools (k : Nat) : Builtin.zeroCells (Value.bool false).cells k = boA (falses k) := by
  have hc : (Value.bool false).cells = #[.bool false] := rfl
  rw [hc]
  unfold Builtin.zeroCells boA falses boV
  apply Array.ext
  · simp
  · intro i h1 h2
    simp [Nat.mod_one]
/-- A slice of the call's own, of just these bits. -/
def MineO (W : World) (lo : Nat) (v : Value) (bs : List Bool) : Prop := (v = .slice none 0 0 ∧ bs = []) ∨
  ∃ T cap z, v = .slice (some ⟨T, 0, none⟩) bs.length cap ∧ cap = bs.length + z ∧ cap < 9223372036854775808 ∧ lo ≤ T ∧ Bk W T 4 (boA (bs ++ falses z))
theorem MineO.keep {W W' : World} {lo : Nat} {v : Value} {bs : List Bool} (h : MineO W lo v bs) (hb : Below W.heap.size W W') : MineO W' lo v bs := by
  rcases h with h | ⟨T, cap, z, e, hc, hc2, hT, K⟩
  · exact .inl h
  · exact .inr ⟨T, cap, z, e, hc, hc2, hT, K.keep hb⟩
theorem MineO.slice {W : World} {lo : Nat} {v : Value} {bs : List Bool} (h : MineO W lo v bs) : ∃ s c, v = .slice s bs.length c := by
  rcases h with ⟨rfl, rfl⟩ | ⟨T, cap, z, rfl, _⟩
  · exact ⟨_, _, rfl⟩
  · exact ⟨_, _, rfl⟩
theorem MineO.bx {W : World} {lo : Nat} {v : Value} {bs : List Bool} (h : MineO W lo v bs) : BX W v (valB bs) bs.length := by
  rcases h with ⟨rfl, rfl⟩ | ⟨T, cap, z, rfl, hc, hc2, hT, K⟩
  · exact ⟨[], rfl, rfl, none, 0, rfl, Nat.le_refl _, by omega, fun h => absurd rfl h⟩
  · refine ⟨bs, rfl, rfl, _, cap, rfl, by omega, hc2, fun _ => ⟨T, 0, rfl, K.lt, fun i hi => ?_⟩⟩
    rw [Nat.zero_add, K.cell, boA_opt, List.getElem?_append_left hi, List.getElem?_eq_getElem hi, List.getD, List.getElem?_eq_getElem hi]
    rfl
theorem ovr_bool (bs : List Bool) (b : Bool) (z : Nat) (h : 1 ≤ z) : ovr (boA (bs ++ falses z)) bs.length [boV b] = boA ((bs ++ [b]) ++ falses (z - 1)) := by
  apply Array.ext_getElem?
  intro i
  have hs : (boA (bs ++ falses z)).size = bs.length + z := by simp [boA, falses]
  rw [ovr_get, hs, boA_opt, boA_opt, List.append_assoc, List.length_singleton]
  by_cases h1 : i < bs.length
  · rw [if_neg (by omega), List.getElem?_append_left h1, List.getElem?_append_left h1]
  · rw [List.getElem?_append_right (by omega), List.getElem?_append_right (by omega)]
    by_cases h2 : i < bs.length + 1
    · rw [if_pos (by omega), List.getElem?_append_left (by simp; omega), show i - bs.length = 0 by omega]
      rfl
    · rw [if_neg (by omega), List.getElem?_append_right (by simp; omega), List.length_singleton]
      unfold falses
      rw [List.getElem?_replicate, List.getElem?_replicate]
      by_cases h3 : i - bs.length < z
      · rw [if_pos h3, if_pos (by omega)]
      · rw [if_neg h3, if_neg (by omega)]
/-- A bit, onto a slice of the call's own. -/
theorem appO (bs : List Bool) (x : Bool) (v : Value) (lo : Nat) (w : World) (hm : MineO w lo v bs) (hlo : lo ≤ w.heap.size) (hlt : bs.length ≤ 1000000) :
    ∃ s c W, (Builtin.append_ #[83, 83] 83 #[v, .slice (some ⟨w.heap.size, 0, none⟩) 1 1]).run Tryd.prog (w.alloc (.cells #[.bool x] 4)) = .ok (.slice s (bs.length + 1) c) W ∧ MineO W lo (.slice s (bs.length + 1) c) (bs ++ [x]) ∧ Below lo w W := by
  obtain ⟨i, hi, hz, hs, hby⟩ := bool_info
  have hA : Below w.heap.size w (w.alloc (.cells #[.bool x] 4)) := (Below.refl _ _).alloc (Nat.le_refl _) _
  have hm := hm.keep hA
  have hlo' : lo ≤ (w.alloc (.cells #[.bool x] 4)).heap.size := by simp; omega
  have hBl : Below lo w (w.alloc (.cells #[.bool x] 4)) := hA.mono hlo
  have hsrc : Src Tryd.prog i.size 83 (.slice (some ⟨w.heap.size, 0, none⟩) 1 1) 1 [Value.bool x] (w.alloc (.cells #[.bool x] 4)) :=
    Src.ofSlice _ Tryd.underlying83 _ _ _ _ (by rw [hs]; simp) (fun j u hu => by
      have hj : j = 0 := by
        have := (List.getElem?_eq_some_iff.1 hu).1
        simp at this
        exact this
      subst hj
      rw [Go.WideShapes.add_plain, ← hu]
      exact (Bk.new w 4 #[.bool x]).cell 0) (by
      intro u hu
      simp at hu
      subst hu
      rfl)
  have hl1 : (bs ++ [x]).length = bs.length + 1 := by simp
  generalize w.alloc (.cells #[.bool x] 4) = w1 at *
  have grown : ∀ (sb : Option Addr) (c : Nat), c < bs.length + 1 → (Builtin.firstCells i.size bs.length (.slice sb bs.length c)).run Tryd.prog w1.drew = .ok (bs.map boV).toArray w1.drew →
      ∃ s c' W, (Builtin.append_ #[83, 83] 83 #[.slice sb bs.length c, .slice (some ⟨w.heap.size, 0, none⟩) 1 1]).run Tryd.prog w1 = .ok (.slice s (bs.length + 1) c') W ∧ MineO W lo (.slice s (bs.length + 1) c') (bs ++ [x]) ∧ Below lo w W := by
    intro sb c hcl hold
    have hge := grownCap_ge w1 (bs.length + 1) c 4
    have hle := grownCap_le_maxLen w1 (bs.length + 1) c 4 (by unfold maxLen; omega)
    unfold maxLen at hle
    have hrun := run_append_grow_src w1 83 83 83 4 i _ Tryd.underlying83 hi hz sb bs.length c _ hold _ 1 _ hsrc hcl (by omega) (growslice_fits_wide hcl (by rw [hby]; omega))
    rw [zero_bools] at hrun
    refine ⟨_, _, _, hrun, .inr ⟨w1.heap.size, grownCap w1 (bs.length + 1) c 4, grownCap w1 (bs.length + 1) c 4 - (bs.length + 1), by rw [hl1], by rw [hl1]; omega, by omega, hlo', ?_⟩, hBl.trans ((Below.refl lo w1).drew.alloc (by simpa using hlo') _)⟩
    refine Eq.trans (heap_alloc_new w1.drew _) ?_
    simp [boA, boV]
  rcases hm with ⟨rfl, rfl⟩ | ⟨T, c, z, rfl, hcz, hc2, hT, K⟩
  · exact grown none 0 (by simp) (run_firstCells_none w1.drew _ 0 0 0)
  · rcases Nat.lt_or_ge c (bs.length + 1) with hg | hr
    · refine grown _ c hg (run_firstCells_some w1.drew _ _ _ _ _ _ (by rw [hs]; simp) (fun j u hu => ?_))
      rw [List.getElem?_map] at hu
      rcases hj : bs[j]? with _ | y
      · rw [hj] at hu; cases hu
      · rw [hj] at hu
        have hl := (List.getElem?_eq_some_iff.1 hj).1
        rw [Go.WideShapes.add_plain, Nat.zero_add]
        refine (K.drew.cell j).trans ?_
        rw [boA_opt, List.getElem?_append_left hl, hj]
        exact hu
    · have hrun := run_append_room_src w1 83 83 83 4 i Tryd.underlying83 hi T 0 bs.length c _ 1 _ hsrc hr
        (fun j hj => by
          rw [hs, Nat.mul_one, Nat.zero_add, K.cell, boA_opt]
          have : bs.length + j < (bs ++ falses z).length := by simp [falses] at hj ⊢; omega
          rw [List.getElem?_eq_getElem this]; rfl)
        (fun j hj => by rw [hs, Nat.mul_one, Nat.zero_add]; exact K.frozen _)
      rw [hs, Nat.mul_one, Nat.zero_add] at hrun
      refine ⟨_, _, _, hrun, .inr ⟨T, c, z - 1, by rw [hl1], by rw [hl1]; omega, hc2, hT, ?_⟩, hBl.trans (Below.setCells hT _ _ _ (Below.refl _ _))⟩
      have e := Bk.ovr_ (w := w1) [boV x] bs.length w1 _ K
      rw [ovr_bool bs x z (by omega)] at e
      exact e
/-- The step of an append whose outcome is known. -/
theorem wpList_appO {ops : Array Oper} {rest : List Oper} {o : Oper} {a : Act} {w W : World} {Q : Exit → Act → World → Prop} {v1 v2 v : Value} (hg : o.guard = none) (s x : Operand)
    (hop : o.op = Op.call { callee := Callee.builtin Builtin.append, args := #[s, x], argTypes := #[83, 83] }) (hty : o.type = 83) (hs : a.eval s = v1) (hx : a.eval x = v2)
    (hrun : (Builtin.append_ #[83, 83] 83 #[v1, v2]).run Tryd.prog w = .ok v W) (hK : wpList Tryd.prog ops Q rest (a.put o.dst v) W) : wpList Tryd.prog ops Q (o :: rest) a w := by
  refine wpList_plain hg fun K hK' => ?_
  unfold Oper.wp
  simp [execOp, hop, resolve, invoke, builtin, hs, hx, hty, hrun, Result.andThen]
  exact hK' _ _ hK
end Go.Proofs.YtkhiicnahijnoaaDoor
