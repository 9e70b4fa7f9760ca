/-
  The bytes of a transaction whose parts are too many or too long are refused for that.
-/
import Derived.Test.YtccgfjkahdbboaaDoorTxZ
namespace Go.Proofs.YtccgfjkahdbboaaDoor
open Go.RowKit
set_option linter.unusedVariables false
set_option linter.unusedSimpArgs false

/-- The state in which something was too long. -/
def stL : St := ([], 2)
theorem take_stL (n : Int) : rdTake stL n = ([], stL) := by
  unfold rdTake stL
  split
  · rw [List.take_nil, List.drop_nil]
  · rfl
theorem num_stL (n : Int) : (rdNum stL n).2 = stL := by unfold rdNum; rw [take_stL]
theorem cnt_stL : (rdCnt stL).2 = stL := by
  unfold rdCnt
  have e := num_stL 1
  rw [e]
  split
  · exact num_stL 2
  · split
    · exact num_stL 4
    · split
      · exact num_stL 8
      · rfl
theorem count_stL (m : Nat) : rdCount stL m = (0, stL) := by
  unfold rdCount
  rw [cnt_stL, if_pos (by decide)]
theorem text_stL (m : Int) : (rdText stL m).2 = stL := by
  rw [text_route, count_stL, take_stL]
theorem in_stL : inSt stL = stL := by
  unfold inSt inSt2 inSt1
  rw [take_stL, num_stL, text_stL]
theorem out_stL : outSt stL = stL := by
  unfold outSt outSt1
  rw [num_stL, take_stL]
theorem ins_stL (k : Nat) : inSts k stL = stL := by
  induction k with
  | zero => rfl
  | succ k ih =>
    show inSt (inSts k stL) = stL
    rw [ih, in_stL]
theorem inSts_front (k : Nat) (s : St) : inSts (k + 1) s = inSts k (inSt s) := by
  induction k generalizing s with
  | zero => rfl
  | succ k ih =>
    show inSt (inSts (k + 1) s) = inSt (inSts k (inSt s))
    rw [ih]
theorem in_over (x : InM) (ys : List Nat) (hk : 100 < x.key.length) (hm : x.key.length ≤ 200) (hi : x.ix < 4294967296) : inSt (inpB x ++ ys, 0) = stL := by
  have e0 : inpB x ++ ys = x.tx.1 ++ (toL x.ix 4 ++ (countL x.key.length ++ (x.key ++ ys))) := by unfold inpB; simp only [List.append_assoc]
  have h1 : rdTake (inpB x ++ ys, 0) 32 = (x.tx.1, (toL x.ix 4 ++ (countL x.key.length ++ (x.key ++ ys)), 0)) := by rw [e0]; exact rdTake_app _ _ 0 32 (by rw [x.tx.2.1]; rfl)
  have h2 : inSt1 (inpB x ++ ys, 0) = (toL x.ix 4 ++ (countL x.key.length ++ (x.key ++ ys)), 0) := by unfold inSt1; rw [h1]
  have h3 : rdNum (toL x.ix 4 ++ (countL x.key.length ++ (x.key ++ ys)), 0) 4 = (x.ix, (countL x.key.length ++ (x.key ++ ys), 0)) := rdNum_toL 4 x.ix _ 0 4 rfl (by omega) hi
  have h4 : inSt2 (inpB x ++ ys, 0) = (countL x.key.length ++ (x.key ++ ys), 0) := by unfold inSt2; rw [h2, h3]
  have h5 : rdCount (countL x.key.length ++ (x.key ++ ys), 0) 100 = (0, stL) := rdCount_over _ _ _ (by omega) hk
  unfold inSt
  rw [h4, text_route]
  show (rdTake (rdCount (countL x.key.length ++ (x.key ++ ys), 0) 100).2 (((rdCount (countL x.key.length ++ (x.key ++ ys), 0) 100).1 : Nat) : Int)).2 = _
  rw [h5, take_stL]
theorem ins_over : ∀ (l : List InM) (ys : List Nat), (∀ x ∈ l, x.ix < 4294967296 ∧ x.key.length ≤ 200) → ¬ (∀ x ∈ l, x.key.length ≤ 100) → inSts l.length (insB l ++ ys, 0) = stL
  | [], ys, _, h => absurd (fun x hx => by simp at hx) h
  | x :: l, ys, hf, h => by
    have px := hf x (List.mem_cons_self ..)
    rw [List.length_cons, inSts_front, insB_cons, List.append_assoc]
    by_cases hk : x.key.length ≤ 100
    · rw [(in_back x (insB l ++ ys) hk px.1).1]
      refine ins_over l ys (fun z hz => hf z (List.mem_cons_of_mem _ hz)) fun hh => h fun z hz => ?_
      rcases List.mem_cons.1 hz with rfl | hz
      · exact hk
      · exact hh z hz
    · rw [in_over x _ (by omega) px.2 px.1, ins_stL]
/-- Of a transaction that fits and isn't good the reader says that it is too long, and nothing is left. -/
theorem tx_over (t : TxM) (ys : List Nat) (hf : TxFit t) (hg : ¬ TxGood t) (hi : ∀ x ∈ t.ins, x.ix < 4294967296) : nxSt (txB t ++ ys, 0) = ([], 2) := by
  have e0 : txB t ++ ys = countL t.ins.length ++ (insB t.ins ++ (countL t.outs.length ++ (outsB t.outs ++ ys))) := by unfold txB; simp only [List.append_assoc]
  have stuck : ∀ s, nxS2 s = stL → nxSt s = stL := fun s h => by
    unfold nxSt nxM nxS3
    rw [h, count_stL]
    rfl
  by_cases h32 : t.ins.length ≤ 32
  · have h1 : rdCount (txB t ++ ys, 0) 32 = (t.ins.length, (insB t.ins ++ (countL t.outs.length ++ (outsB t.outs ++ ys)), 0)) := by rw [e0]; exact rdCount_fits _ _ _ (by omega) h32
    have hN : nxN (txB t ++ ys, 0) = t.ins.length := by unfold nxN; rw [h1]
    have hS1 : nxS1 (txB t ++ ys, 0) = (insB t.ins ++ (countL t.outs.length ++ (outsB t.outs ++ ys)), 0) := by unfold nxS1; rw [h1]
    by_cases hks : ∀ x ∈ t.ins, x.key.length ≤ 100
    · have hS2 : nxS2 (txB t ++ ys, 0) = (countL t.outs.length ++ (outsB t.outs ++ ys), 0) := by
        unfold nxS2
        rw [hN, hS1, ins_back _ _ (fun x hx => ⟨hks x hx, hi x hx⟩) _ (Nat.le_refl _), List.drop_length]
        rfl
      have ho : 32 < t.outs.length := by
        rcases Nat.lt_or_ge 32 t.outs.length with h | h
        · exact h
        · exact absurd ⟨h32, h, hks⟩ hg
      have h2 : rdCount (countL t.outs.length ++ (outsB t.outs ++ ys), 0) 32 = (0, stL) := rdCount_over _ _ _ (by have := hf.2.1; omega) ho
      unfold nxSt nxM nxS3
      rw [hS2, h2]
      rfl
    · refine stuck _ ?_
      unfold nxS2
      rw [hN, hS1]
      exact ins_over _ _ (fun x hx => ⟨hi x hx, hf.2.2 x hx⟩) hks
  · have h1 : rdCount (txB t ++ ys, 0) 32 = (0, stL) := by rw [e0]; exact rdCount_over _ _ _ (by have := hf.1; omega) (by omega)
    refine stuck _ ?_
    unfold nxS2 nxN nxS1
    rw [h1]
    rfl
theorem tx_over_end (t : TxM) (hf : TxFit t) (hg : ¬ TxGood t) (hi : ∀ x ∈ t.ins, x.ix < 4294967296) : rdEnd (nxSt (txB t, 0)) = 2 := by
  have h := tx_over t [] hf hg hi
  rw [List.append_nil] at h
  rw [h]
  rfl
end Go.Proofs.YtccgfjkahdbboaaDoor
