/-
  Words for bytes that are appended onto an empty slice, and for a slice at the head of a row that is known whole.
-/
import Derived.Test.YtkkkfcdoilojmaaDoorHashW
import Derived.Deep.Upon
import Derived.Laws.AppendOwn
import Derived.Deep.DeepAppendWide
namespace Go.Proofs.YtkkkfcdoilojmaaDoor
open Go.RowKit
set_option linter.unusedVariables false

/-- A slice at the head of a row that is known whole. -/
theorem bs_row {w : World} {g n cap : Nat} {t : TypeId} {ys : List Nat} (hg : Bk w g t (idA ys)) (hn : n ≤ ys.length) (hc : n ≤ cap) (hc2 : cap < 9223372036854775808) (hx : ∀ y ∈ ys, y < 256) : BsV w w.heap.size (.slice (some ⟨g, 0, none⟩) n cap) (ys.take n) := by
  have hl : (ys.take n).length = n := by rw [List.length_take]; omega
  refine ⟨some ⟨g, 0, none⟩, cap, by rw [hl], by omega, hc2, fun x hxm => hx x (List.mem_of_mem_take hxm), fun hne => ⟨g, 0, rfl, hg.lt, fun i hi => ?_⟩⟩
  rw [hl] at hi
  rw [Nat.zero_add, hg.cell, idA_get ys i (by omega)]
  unfold nth
  rw [List.getD, List.getD, List.getElem?_take_of_lt hi]
theorem byte_facts : (Tryd.prog.info? 5).map (fun i => (i.zero, i.size, i.bytes)) = some (some (.int .u8 0), 1, 1) := by kernel_rfl
theorem byte_info : ∃ i, Tryd.prog.info? 5 = some i ∧ i.zero = some (.int .u8 0) ∧ i.size = 1 ∧ i.bytes = 1 := by
  have h := byte_facts
  revert h
  cases Tryd.prog.info? 5 with
  | none => intro h; cases h
  | some i =>
    intro h
    have h' : (i.zero, i.size, i.bytes) = (some (Value.int .u8 0), 1, 1) := Option.some.inj h
    simp only [Prod.mk.injEq] at h'
    exact ⟨i, rfl, h'.1, h'.2.1, h'.2.2⟩
theorem zero_bytes (k : Nat) : Builtin.zeroCells (Value.int .u8 0).cells k = idA (zeros k) := by
  have hc : (Value.int .u8 0).cells = #[.int .u8 0] := rfl
  rw [hc]
  unfold Builtin.zeroCells idA zeros byteV
  apply Array.ext
  · simp
  · intro i h1 h2
    simp [Nat.mod_one]
/-- The bytes, onto an empty slice. -/
theorem app (xs : List Nat) (n : Nat) (hn : n = xs.length) (s : Option Addr) (cap g : Nat) (w : World) (hb : BsV w w.heap.size (.slice s n cap) xs) (hlt : xs.length ≤ 1048576) (hg : Bk w g 5 #[]) :
    ∃ T c z W, (Builtin.append_ #[49, 49] 49 #[.slice (some ⟨g, 0, none⟩) 0 0, .slice s n cap]).run Tryd.prog w = .ok (.slice (some ⟨T, 0, none⟩) n c) W ∧ Bk W T 5 (idA (xs ++ zeros z)) ∧ n ≤ c ∧ c < 9223372036854775808 ∧ g ≤ T ∧ Below g w W := by
  subst hn
  obtain ⟨i, hi, hz, hs, hby⟩ := byte_info
  obtain ⟨s', cap', e, h1, h2, h3, h4⟩ := hb
  cases e
  by_cases h0 : xs = []
  · subst h0
    have hsrc : Src Tryd.prog i.size 49 (.slice s 0 cap) 0 [] w := by
      cases s with
      | none => exact Src.ofNil w Tryd.underlying49 cap
      | some a => exact Src.ofSlice w Tryd.underlying49 a 0 cap [] (by simp) (by simp) (by simp)
    exact ⟨g, 0, 0, w, run_append_nothing w _ _ _ _ i Tryd.underlying49 hi _ 0 0 (Nat.le_refl _) _ hsrc, hg, Nat.le_refl _, by omega, Nat.le_refl _, Below.refl _ _⟩
  · obtain ⟨b, o, rfl, hb, hc⟩ := h4 h0
    have hpos : 0 < xs.length := by
      rcases Nat.eq_zero_or_pos xs.length with h | h
      · exact absurd (List.eq_nil_of_length_eq_zero h) h0
      · exact h
    have hsrc : Src Tryd.prog i.size 49 (.slice (some ⟨b, o, none⟩) xs.length cap) xs.length (xs.map byteV) w :=
      Src.ofSlice w Tryd.underlying49 _ _ _ _ (by rw [hs]; simp) (fun j u hu => by
        rw [List.getElem?_map] at hu
        rcases hj : xs[j]? with _ | x
        · rw [hj] at hu; cases hu
        · rw [hj] at hu
          have hlt := (List.getElem?_eq_some_iff.1 hj).1
          rw [Go.WideShapes.add_plain, hc j hlt, ← hu]
          simp [nth, List.getD, hj, byteV]) (by
        intro u hu
        obtain ⟨x, _, rfl⟩ := List.mem_map.1 hu
        rfl)
    have hge := grownCap_ge w (0 + xs.length) 0 5
    have hle := grownCap_le_maxLen w (0 + xs.length) 0 5 (by unfold maxLen; omega)
    unfold maxLen at hle
    have hrun := run_append_grow_src w 49 49 49 5 i _ Tryd.underlying49 hi hz (some ⟨g, 0, none⟩) 0 0 [] (run_firstCells_some w.drew _ _ _ _ _ [] (by simp) (by simp)) _ xs.length _ hsrc (by omega) (by omega) (growslice_fits_wide (by omega) (by rw [hby]; omega))
    have hgl := hg.lt
    rw [Nat.zero_add, zero_bytes] at hrun
    rw [Nat.zero_add] at hge hle
    refine ⟨w.heap.size, grownCap w xs.length 0 5, grownCap w xs.length 0 5 - xs.length, _, hrun, ?_, hge, by omega, by omega, (Below.refl g w).drew.alloc (by simp; omega) _⟩
    refine Eq.trans (heap_alloc_new w.drew _) ?_
    simp [idA]
/-- The step of an append whose outcome is known. -/
theorem wpList_app {ops : Array Oper} {rest : List Oper} {o : Oper} {a : Act} {w W : World} {Q : Exit → Act → World → Prop} {v1 v2 v : Value} (hg : o.guard = none) (s x : Operand)
    (hop : o.op = Op.call { callee := Callee.builtin Builtin.append, args := #[s, x], argTypes := #[49, 49] }) (hty : o.type = 49) (hs : a.eval s = v1) (hx : a.eval x = v2)
    (hrun : (Builtin.append_ #[49, 49] 49 #[v1, v2]).run Tryd.prog w = .ok v W) (hK : wpList Tryd.prog ops Q rest (a.put o.dst v) W) : wpList Tryd.prog ops Q (o :: rest) a w := by
  refine wpList_plain hg fun K hK' => ?_
  unfold Oper.wp
  simp [execOp, hop, resolve, invoke, builtin, hs, hx, hty, hrun, Result.andThen]
  exact hK' _ _ hK
/-- A row stays behind stores into another one. -/
theorem Bk.farCells {w : World} {g b : Nat} {t : TypeId} {cs : Array Value} (h : Bk w g t cs) (hg : g ≠ b) : ∀ (l : List Value) (o : Nat), Bk (w.setCells b o l) g t cs := by
  intro l
  induction l generalizing w with
  | nil => intro o; exact h
  | cons v l ih => intro o; exact ih (h.far (p := ⟨b, o, none⟩) hg v) (o + 1)
end Go.Proofs.YtkkkfcdoilojmaaDoor
