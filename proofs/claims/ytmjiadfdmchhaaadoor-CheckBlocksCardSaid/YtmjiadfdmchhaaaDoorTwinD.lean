/-
  Plain mathematics of MerkleTwins: sums of which the last ones are there twice have the same root; a slice's end; names appended, in a region that draws.
-/
import Derived.Test.YtmjiadfdmchhaaaDoorMerZ
namespace Go.Proofs.YtmjiadfdmchhaaaDoor
open Go.RowKit
set_option linter.unusedVariables false

theorem rootW_fst (L : List (List Nat)) (s t : Bool) : (rootW L s).1 = (rootW L t).1 := by
  by_cases h : 1 < L.length
  · rw [rootW_more L s h, rootW_more L t h]
    exact rootW_fst _ _ _
  · rw [rootW_one L s h, rootW_one L t h]
termination_by L.length
decreasing_by rw [aboveV_length]; omega
theorem rootW_true (L : List (List Nat)) : (rootW L true).2 = true := by
  by_cases h : 1 < L.length
  · rw [rootW_more L true h, Bool.true_or]
    exact rootW_true _
  · rw [rootW_one L true h]
termination_by L.length
decreasing_by rw [aboveV_length]; omega
theorem nthI_out (L : List (List Nat)) (i : Nat) (h : L.length ≤ i) : nthI L i = [] := by unfold nthI; rw [List.getD, List.getElem?_eq_none h]; rfl
theorem nthI_app (L M : List (List Nat)) (i : Nat) : nthI (L ++ M) i = if i < L.length then nthI L i else nthI M (i - L.length) := by
  unfold nthI
  by_cases h : i < L.length
  · rw [if_pos h, List.getD, List.getD, List.getElem?_append_left h]
  · rw [if_neg h, List.getD, List.getD, List.getElem?_append_right (by omega)]
theorem nthI_drop (L : List (List Nat)) (d i : Nat) : nthI (L.drop d) i = nthI L (d + i) := by
  unfold nthI
  rw [List.getD, List.getD, List.getElem?_drop]
theorem nthI_ext (L M : List (List Nat)) (hl : L.length = M.length) (h : ∀ i, i < L.length → nthI L i = nthI M i) : L = M := by
  apply List.ext_getElem hl
  intro i h1 h2
  have h3 := h i h1
  unfold nthI at h3
  rw [List.getD, List.getD, List.getElem?_eq_getElem h1, List.getElem?_eq_getElem h2] at h3
  exact h3
theorem aboveV_nth (L : List (List Nat)) (t : Nat) (h : t < (L.length + 1) / 2) : nthI (aboveV L) t = H2 (nthI L (2 * t)) (nthI L (besideN (2 * t) L.length)) := by
  unfold aboveV aboveP nthI
  rw [List.getD, List.getElem?_map, List.getElem?_range h]
  rfl
/-- The last ones, twice. -/
def twinL (L : List (List Nat)) (k : Nat) : List (List Nat) := L ++ L.drop (L.length - k)
theorem twinL_length (L : List (List Nat)) (k : Nat) (h : k ≤ L.length) : (twinL L k).length = L.length + k := by unfold twinL; rw [List.length_append, List.length_drop]; omega
theorem twinL_nth (L : List (List Nat)) (k i : Nat) (h : k ≤ L.length) (hi : i < L.length + k) : nthI (twinL L k) i = if i < L.length then nthI L i else nthI L (i - k) := by
  unfold twinL
  rw [nthI_app, nthI_drop]
  by_cases h1 : i < L.length
  · rw [if_pos h1, if_pos h1]
  · rw [if_neg h1, if_neg h1]
    congr 1
    omega
theorem bes_even (t n : Nat) (h : 2 * t + 1 < n) : besideN (2 * t) n = 2 * t + 1 := by unfold besideN; rw [if_neg (by omega)]; omega
theorem twin_one (L : List (List Nat)) (h1 : 1 < L.length) (ho : L.length % 2 = 1) : aboveV (twinL L 1) = aboveV L ∧ doubV (twinL L 1) = true := by
  have hl := twinL_length L 1 (by omega)
  constructor
  · apply nthI_ext
    · rw [aboveV_length, aboveV_length, hl]; omega
    · intro t ht
      rw [aboveV_length, hl] at ht
      rw [aboveV_nth _ t (by rw [hl]; omega), aboveV_nth _ t (by omega), hl, bes_even t _ (by omega), twinL_nth L 1 _ (by omega) (by omega), twinL_nth L 1 _ (by omega) (by omega), if_pos (by omega)]
      by_cases h2 : 2 * t + 1 < L.length
      · rw [if_pos h2, bes_even t _ h2]
      · rw [if_neg h2]
        have e : besideN (2 * t) L.length = 2 * t + 1 - 1 := by unfold besideN; rw [if_neg (by omega)]; omega
        rw [e]
  · refine doubV_true _ (L.length / 2) (by rw [hl]; omega) ?_
    rw [twinL_nth L 1 _ (by omega) (by omega), twinL_nth L 1 _ (by omega) (by omega), if_pos (by omega), if_neg (by omega)]
    congr 1
theorem twin_more (L : List (List Nat)) (k : Nat) (hk : 2 * k ≤ L.length) (he : L.length % 2 = 0) (hk0 : 0 < k) : aboveV (twinL L (2 * k)) = twinL (aboveV L) k := by
  have hl := twinL_length L (2 * k) hk
  have ha := aboveV_length L
  have hl2 := twinL_length (aboveV L) k (by rw [ha]; omega)
  apply nthI_ext
  · rw [aboveV_length, hl, hl2, ha]; omega
  · intro t ht
    rw [aboveV_length, hl] at ht
    rw [aboveV_nth _ t (by rw [hl]; omega), hl, bes_even t _ (by omega), twinL_nth L _ _ hk (by omega), twinL_nth L _ _ hk (by omega), twinL_nth _ k t (by rw [ha]; omega) (by rw [ha]; omega), ha]
    by_cases h2 : t < (L.length + 1) / 2
    · rw [if_pos (by omega), if_pos (by omega), if_pos h2, aboveV_nth _ t h2, bes_even t _ (by omega)]
    · rw [if_neg (by omega), if_neg (by omega), if_neg h2, aboveV_nth _ (t - k) (by omega), bes_even (t - k) _ (by omega)]
      congr 2 <;> omega
theorem twin_root (h : Nat) : ∀ (L : List (List Nat)) (s t : Bool), L.length % (2 * 2 ^ h) = 2 ^ h → 2 ^ h < L.length → (rootW (twinL L (2 ^ h)) s).1 = (rootW L t).1 ∧ (rootW (twinL L (2 ^ h)) s).2 = true := by
  induction h with
  | zero =>
    intro L s t h1 h2
    rw [Nat.pow_zero] at h1 h2 ⊢
    have hl := twinL_length L 1 (by omega)
    obtain ⟨e1, e2⟩ := twin_one L h2 (by omega)
    rw [rootW_more _ s (by rw [hl]; omega), rootW_more L t h2, e1, e2, Bool.or_true]
    exact ⟨rootW_fst _ _ _, rootW_true _⟩
  | succ h ih =>
    intro L s t h1 h2
    have hp := Nat.two_pow_pos h
    rw [Nat.pow_succ, Nat.mul_comm (2 ^ h) 2] at h1 h2 ⊢
    generalize 2 ^ h = k at *
    have hm : L.length % 2 = 0 := by
      have e := Nat.div_add_mod L.length (2 * (2 * k))
      rw [h1] at e
      rw [← e, show 2 * (2 * k) * (L.length / (2 * (2 * k))) + 2 * k = 2 * (2 * k * (L.length / (2 * (2 * k))) + k) by rw [Nat.mul_add, Nat.mul_assoc]]
      omega
    have hm2 : (aboveV L).length % (2 * k) = k := by
      rw [aboveV_length]
      have e := Nat.div_add_mod L.length (2 * (2 * k))
      rw [h1] at e
      have e2 : (L.length + 1) / 2 = 2 * k * (L.length / (2 * (2 * k))) + k := by
        have e3 : 2 * (2 * k) * (L.length / (2 * (2 * k))) + 2 * k = 2 * (2 * k * (L.length / (2 * (2 * k))) + k) := by rw [Nat.mul_add, Nat.mul_assoc]
        omega
      rw [e2, Nat.mul_add_mod, Nat.mod_eq_of_lt (by omega)]
    have hl := twinL_length L (2 * k) (by omega)
    rw [rootW_more _ s (by rw [hl]; omega), rootW_more L t (by omega), twin_more L k (by omega) hm hp]
    exact ih (aboveV L) _ _ hm2 (by rw [aboveV_length]; omega)
/-- A slice's end. -/
theorem IdsV.drop {w : World} {B n c d b o : Nat} {L : List (List Nat)} (h : IdsV w B (.slice (some ⟨b, o, none⟩) n c) L) (hn : n = L.length) (hd : d ≤ n) : IdsV w B (.slice (some ⟨b, o + d * 32, none⟩) (n - d) (c - d)) (L.drop d) := by
  obtain ⟨s, cap, e, h1, h2, h3, h4⟩ := h
  cases e
  refine ⟨_, c - d, by rw [List.length_drop], by rw [List.length_drop]; omega, by omega, fun x hx => h3 x (List.mem_of_mem_drop hx), fun hne => ?_⟩
  obtain ⟨b', o', e, hb, hr⟩ := h4 (fun h0 => hne (by rw [h0]; simp))
  cases e
  refine ⟨b, o + d * 32, rfl, hb, fun i x hx => ?_⟩
  rw [List.getElem?_drop] at hx
  have h5 := hr _ x hx
  rw [show o + d * 32 + i * 32 = o + (d + i) * 32 by omega]
  exact h5
/-- Names appended, as a step of a region that draws. -/
theorem step_appM {ops : Array Oper} {o : Oper} {a : Act} {w : World} {K : Act → World → Prop} {Q : Exit → Act → World → Prop} {E : Prop} {v1 v2 : Value} (xs ys : List (List Nat)) (lo : Nat)
    (hg : o.guard = none) (s y : Operand) (hop : o.op = Op.call { callee := Callee.builtin Builtin.append, args := #[s, y], argTypes := #[60, 60] }) (hty : o.type = 60)
    (hs : a.eval s = v1) (hy : a.eval y = v2) (hm : MineI w lo v1 xs) (hxs : IsIds xs) (hlo : lo ≤ w.heap.size) (hu : IdsV w w.heap.size v2 ys) (hlt : xs.length + ys.length ≤ 1048576)
    (hK : ∀ v W, MineI W lo v (xs ++ ys) → Below lo w W → K (a.put o.dst v) W) :
    if Region.wanted o (yielded ops a.tmps) = true then Oper.wp Tryd.prog o a w K Q else E := by
  obtain ⟨v, W, hrun, hM, hb⟩ := appI xs ys v1 v2 lo w hm hxs hlo hu hlt
  exact step_appI hg s y hop hty hs hy hrun (hK v W hM hb)
theorem mine_none {w : World} {lo g : Nat} (hlo : lo ≤ g) (h : Bk w g 23 #[]) : MineI w lo (.slice (some ⟨g, 0, none⟩) 0 0) [] := .inr ⟨g, 0, 0, rfl, rfl, by omega, hlo, h⟩
end Go.Proofs.YtmjiadfdmchhaaaDoor
