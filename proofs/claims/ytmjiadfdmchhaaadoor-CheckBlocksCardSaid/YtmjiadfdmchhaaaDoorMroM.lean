/-
  Plain mathematics of MerkleRoots: the levels from the bottom up; a name as the document has it.
-/
import Derived.Test.YtmjiadfdmchhaaaDoorMonMD
import Derived.Test.YtmjiadfdmchhaaaDoorRefU
import Derived.Deep.RegionHeld3
namespace Go.Proofs.YtmjiadfdmchhaaaDoor.merkleRoots
open Go.ChangeShapes Go.WideShapes Go.ChangeAt Go.RowKit
set_option maxRecDepth 100000
set_option linter.unusedVariables false
set_option linter.unusedSimpArgs false

/-- The level over some sums. -/
def levV (L : List (List Nat)) : Nat → List (List Nat)
  | 0 => L
  | l + 1 => aboveV (levV L l)
def cntN (n : Nat) : Nat → Nat
  | 0 => n
  | l + 1 => (cntN n l + 1) / 2
theorem levV_length (L : List (List Nat)) (l : Nat) : (levV L l).length = cntN L.length l := by
  induction l with
  | zero => rfl
  | succ l ih => show (aboveV (levV L l)).length = _; rw [aboveV_length, ih]; rfl
theorem cntN_le (n l : Nat) (h : 0 < n) : cntN n l ≤ n ∧ 0 < cntN n l := by
  induction l with
  | zero => exact ⟨Nat.le_refl _, h⟩
  | succ l ih => show (cntN n l + 1) / 2 ≤ n ∧ 0 < (cntN n l + 1) / 2; omega
theorem levV_ids (L : List (List Nat)) (hL : IsIds L) (l : Nat) : IsIds (levV L l) := by
  cases l with
  | zero => exact hL
  | succ l => exact aboveV_ids _
theorem levV_at (L : List (List Nat)) (l i : Nat) (h : i < cntN L.length (l + 1)) : nthI (levV L (l + 1)) i = H2 (nthI (levV L l) (2 * i)) (nthI (levV L l) (besideN (2 * i) (cntN L.length l))) := by
  show nthI (aboveV (levV L l)) i = _
  have h2 : i < (cntN L.length l + 1) / 2 := h
  rw [aboveV_nth _ _ (by rw [levV_length]; exact h2), levV_length]
/-- Two that are a pair are the same, at one of so many levels. -/
def twV (L : List (List Nat)) : Nat → Bool
  | 0 => false
  | l + 1 => twV L l || doubV (levV L l)
theorem levV_above (L : List (List Nat)) (l : Nat) : levV (aboveV L) l = levV L (l + 1) := by
  induction l with
  | zero => rfl
  | succ l ih => show aboveV (levV (aboveV L) l) = _; rw [ih]; rfl
theorem root_lev (L : List (List Nat)) (j : Nat) (h : ∀ l, l < j → 1 < cntN L.length l) : rootW L false = rootW (levV L j) (twV L j) := by
  induction j with
  | zero => rfl
  | succ j ih =>
    rw [ih (fun l hl => h l (by omega)), rootW_more _ _ (by rw [levV_length]; exact h j (by omega))]
    rfl
theorem r_info : (Tryd.prog.info? 22).map (·.size) = some 32 := by kernel_rfl
theorem r_ret {P : Func} {a : Act} {w W : World} {g nm : Nat} {r : List Nat} (hr : r.length = 32) (hp : P.results = #[ResultVar.cell nm 22]) (hd : a.defers = []) (hv : a.tmps.getD nm undef = .pointer (some ⟨g, 0, none⟩))
    (hR : Bk W g 22 (idA r)) (hB : Below w.heap.size w W) : bodyPost Tryd.prog P (fun e w' => e = .returned (.agg (idA r)) ∧ Below w.heap.size w w') Exit.ret a W :=
  bodyPost_ret (results_cell_row hp _ _ g 22 (idA r) (0, 0) _ hv hR Tryd.underlying22 rfl (by rw [idA_size, hr]; exact r_info)) hd ⟨rfl, hB⟩
theorem r_ret2 {P : Func} {a : Act} {w W : World} {g nm k : Nat} {r : List Nat} {v : Value} (hr : r.length = 32) (hp : P.results = #[ResultVar.cell nm 22, ResultVar.tmp k]) (hd : a.defers = []) (hv : a.tmps.getD nm undef = .pointer (some ⟨g, 0, none⟩)) (hk : a.tmps.getD k undef = v)
    (hR : Bk W g 22 (idA r)) (hB : Below w.heap.size w W) : bodyPost Tryd.prog P (fun e w' => e = .returned (.tuple #[.agg (idA r), v]) ∧ Below w.heap.size w w') Exit.ret a W := by
  have h1 := run_loadVar_row (P := Tryd.prog) W g 22 22 (idA r) (0, 0) _ hR Tryd.underlying22 rfl (by rw [idA_size, hr]; exact r_info)
  refine bodyPost_ret (v := .tuple #[.agg (idA r), v]) ?_ hd ⟨rfl, hB⟩
  rw [results_cell_tmp hp, hv, hk]
  show ((asAddr (.pointer (some ⟨g, 0, none⟩))).run Tryd.prog W).andThen _ = _
  simp only [asAddr, Sem.run_pure, Result.andThen_ok, h1]
theorem step_callS {ops : Array Oper} {o : Oper} {a : Act} {w : World} {K : Act → World → Prop} {Q : Exit → Act → World → Prop} {E : Prop} (hw : Region.wanted o (yielded ops a.tmps) = true) (f : FuncId) (args : Array Value) (v : Value)
    (hc : Calls Tryd.prog f args w fun e w' => e = .returned v ∧ Below w.heap.size w w') (hrun : (execOp a.eval o).run Tryd.prog w = .ok (.enter f args) w)
    (hK : ∀ w', Below w.heap.size w w' → K (a.put o.dst v) w') :
    if Region.wanted o (yielded ops a.tmps) = true then Oper.wp Tryd.prog o a w K Q else E := by
  rw [if_pos hw]
  unfold Oper.wp
  rw [hrun, Oper.upon_enter]
  refine hc.mono ?_
  rintro e w' ⟨rfl, hb⟩
  exact hK _ hb
set_option maxRecDepth 100000 in
set_option maxHeartbeats 2000000 in
theorem count_any (n l : Nat) (w : World) (hn : n ≤ 100) (hl : l ≤ 100) :
    Calls Tryd.prog 47 #[.int .i64 (n : Int), .int .i64 (l : Int)] w fun e w' => e = .returned (.int .i64 (cntN n l : Int)) ∧ w' = w := by
  have HE : Hid (∀ j, (cntN n j + 1) / 2 = cntN n (j + 1)) := fun j => rfl
  have HB : Hid (∀ j, cntN n j ≤ n) := fun j => by
    rcases Nat.eq_zero_or_pos n with h | h
    · subst h
      induction j with
      | zero => exact Nat.le_refl _
      | succ j ih => show (cntN 0 j + 1) / 2 ≤ 0; omega
    · exact (cntN_le n j h).1
  go_enter Tryd.func47, Tryd.ntmps47
  go_wp2_with fail
  go_loopw [0, 5] (fun nv iv wr => ∃ (j : Nat), j ≤ l ∧ .int .i64 (cntN n j : Int) = nv ∧ .int .i64 (j : Int) = iv ∧ w = wr) (fun _ iv _ => l - (intOf iv).toNat)
  case atStart => exact ⟨0, Nat.zero_le _, rfl, rfl, rfl⟩
  case round =>
    obtain ⟨j, hj, e1, e2, e3⟩ := hrel
    subst e1
    subst e2
    subst e3
    have hb := HB.out j
    have he := HE.out j
    obtain ⟨cj, hcj⟩ : ∃ cj, cj = cntN n j := ⟨_, rfl⟩
    rw [← hcj] at hb he ⊢
    have HC := Lib.hid hcj
    clear hcj
    by_cases hlt : j < l
    · have hd : decide ((j : Int) < (l : Int)) = true := decide_eq_true (by omega)
      have hd' : decide (j < l) = true := decide_eq_true hlt
      have HE1 := Lib.hid he
      clear he
      go_wp2_with fail
      go_roundw
      case rel =>
        have e1 : Value.int .i64 ((cntN n (j + 1) : Nat) : Int) = .int .i64 (((cj : Int) + 1) / 2) := congrArg (Value.int .i64) (by rw [← HE1.out]; omega)
        have e2 : Value.int .i64 ((j + 1 : Nat) : Int) = .int .i64 ((j : Int) + 1) := by go_num
        first | exact ⟨j + 1, by omega, e1, e2, rfl⟩ | exact ⟨j + 1, by omega, e1, e2, trivial⟩ | ((repeat apply Exists.intro); exact ⟨⟨j + 1, by omega, e1, e2, rfl⟩, rfl⟩)
      case measure => simp [intOf] <;> omega
    · have hd : decide ((j : Int) < (l : Int)) = false := decide_eq_false (by omega)
      have hd' : decide (j < l) = false := decide_eq_false hlt
      obtain rfl : j = l := by omega
      clear he
      go_wp2_with fail
      go_ret
      exact ⟨by rw [HC.out]; rfl, rfl⟩

end Go.Proofs.YtmjiadfdmchhaaaDoor.merkleRoots
