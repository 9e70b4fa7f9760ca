/-
  Laws on arrays of integers, over whatever program: two are the same just where their elements are; an element by its place.
-/
import Derived.WalkKit
import Derived.WalkLawsBesides
namespace Go.Proofs.Ytfflgimbgmbpaaa

section
variable {P : Program}

theorem size_of_info {e : TypeId} {n : Nat} (hs : (P.info? e).map (·.size) = some n) (w : World) : (sizeOf e).run P w = .ok n w := by
  obtain ⟨i, hi, hn⟩ := Option.map_eq_some_iff.1 hs
  simp [sizeOf, typeInfo, hi, hn]

theorem run_part_int {e : TypeId} {k : IntKind} (he : P.underlying e = some (.int k)) (cs : Array Value) (off : Nat) (v : Value) (hv : cs[off]? = some v) (w : World) : (part e cs off).run P w = .ok v w := by
  simp [part, isAgg, run_underlying he, hv]

theorem run_arr_loop (d : Nat) {e : TypeId} {k : IntKind} (he : P.underlying e = some (.int k)) (X Y : Array Value) (fx fy : Nat → Int) (w : World) : ∀ (l : List Nat), (∀ i ∈ l, X[i]? = some (.int k (fx i)) ∧ Y[i]? = some (.int k (fy i))) →
    (forIn l (none, PUnit.unit) (fun i (_ : Option Bool × PUnit) => do
        let a ← part e X (i * 1)
        let b ← part e Y (i * 1)
        let r ← Op.equalIn (d + 1) e a b
        if (!r) = true then pure (ForInStep.done (some false, PUnit.unit)) else pure (ForInStep.yield (none, PUnit.unit)))).run P w =
      .ok (if l.all (fun i => fx i == fy i) then none else some false, PUnit.unit) w := by
  intro l
  induction l with
  | nil => intro _; simp
  | cons i l ih =>
    intro h
    obtain ⟨hx, hy⟩ := h i (by simp)
    simp only [List.forIn_cons, Sem.run_bind, Nat.mul_one, run_part_int he X i _ hx, run_part_int he Y i _ hy, Result.andThen_ok, run_equalIn_int w d e k k _ _ he]
    by_cases hq : fx i = fy i
    · have hb : (fx i == fy i) = true := by simpa using hq
      simp only [hb, Bool.not_true, Bool.false_eq_true, if_false, Sem.run_pure, Result.andThen_ok, List.all_cons, Bool.true_and]
      have := ih (fun j hj => h j (by simp [hj]))
      simpa only [Nat.mul_one] using this
    · have hb : (fx i == fy i) = false := by simpa using hq
      simp [hb]

theorem run_equalIn_arr (w : World) (d : Nat) (t e : TypeId) (len : Nat) (k : IntKind) (X Y : Array Value) (fx fy : Nat → Int) (ht : P.underlying t = some (.array len e)) (he : P.underlying e = some (.int k)) (hs : (P.info? e).map (·.size) = some 1)
    (h : ∀ i, i < len → X[i]? = some (.int k (fx i)) ∧ Y[i]? = some (.int k (fy i))) :
    (Op.equalIn (d + 2) t (.agg X) (.agg Y)).run P w = .ok ((List.range len).all fun i => fx i == fy i) w := by
  have hl := run_arr_loop (P := P) d he X Y fx fy w (List.range' 0 len) (fun i hi => h i (by simpa using hi))
  rw [Op.equalIn]
  simp only [Sem.run_bind, run_underlying ht, Result.andThen_ok, size_of_info hs]
  simp only [Std.Legacy.Range.forIn_eq_forIn_range', Std.Legacy.Range.size, Nat.sub_zero, Nat.add_sub_cancel, Nat.div_one]
  simp only [Nat.mul_one] at hl ⊢
  refine (congrArg (fun r => Result.andThen r _) hl).trans ?_
  simp only [Result.andThen_ok, List.range_eq_range']
  split <;> simp_all

/-- An element of an array of integers. -/
theorem run_index_arr {t e : TypeId} {len : Nat} {k : IntKind} (ht : P.underlying t = some (.array len e)) (he : P.underlying e = some (.int k)) (hs : (P.info? e).map (·.size) = some 1) (X : Array Value) (i : Nat) (v : Value) (hi : i < len) (hv : X[i]? = some v) (w : World) :
    (Instr.index t (.agg X) (.int .i64 (i : Int))).run P w = .ok v w := by
  have h2 : 0 ≤ (i : Int) ∧ (i : Int) < (len : Int) := by omega
  simp [Instr.index, asIntOf, run_underlying ht, h2, size_of_info hs, run_part_int he X i v hv]
  intro h3
  omega

end
end Go.Proofs.Ytfflgimbgmbpaaa
