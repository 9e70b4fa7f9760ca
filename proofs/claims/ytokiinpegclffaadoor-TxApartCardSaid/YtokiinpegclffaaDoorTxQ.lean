/-
  The bytes of transactions that fit tell them apart.
-/
import Derived.Test.YtokiinpegclffaaDoorTxZ
namespace Go.Proofs.YtokiinpegclffaaDoor
open Go.RowKit
set_option linter.unusedVariables false
set_option linter.unusedSimpArgs false

/-- Two inputs that say the same. -/
def InE (x y : InM) : Prop := x.tx.1 = y.tx.1 ∧ x.ix = y.ix ∧ x.key = y.key
/-- Two outputs that say the same. -/
def OutE (x y : OutM) : Prop := x.am = y.am ∧ x.lock.1 = y.lock.1
theorem in_apart {x y : InM} {xs ys : List Nat} (hx : x.ix < 4294967296) (hy : y.ix < 4294967296) (kx : x.key.length ≤ 200) (ky : y.key.length ≤ 200) (h : inpB x ++ xs = inpB y ++ ys) : InE x y ∧ xs = ys := by
  have e0 : ∀ (z : InM) zs, inpB z ++ zs = z.tx.1 ++ (toL z.ix 4 ++ (countL z.key.length ++ (z.key ++ zs))) := fun z zs => by unfold inpB; simp only [List.append_assoc]
  rw [e0, e0] at h
  have a := rdTake_app x.tx.1 (toL x.ix 4 ++ (countL x.key.length ++ (x.key ++ xs))) 0 32 (by rw [x.tx.2.1]; rfl)
  rw [h, rdTake_app y.tx.1 _ 0 32 (by rw [y.tx.2.1]; rfl)] at a
  simp only [Prod.mk.injEq, and_true] at a
  obtain ⟨a1, a2⟩ := a
  have b := rdNum_toL 4 x.ix (countL x.key.length ++ (x.key ++ xs)) 0 4 rfl (by omega) hx
  rw [← a2, rdNum_toL 4 y.ix _ 0 4 rfl (by omega) hy] at b
  simp only [Prod.mk.injEq, and_true] at b
  obtain ⟨b1, b2⟩ := b
  have c := rdCount_fits x.key.length 200 (x.key ++ xs) (by omega) kx
  rw [← b2, rdCount_fits y.key.length 200 _ (by omega) ky] at c
  simp only [Prod.mk.injEq, and_true] at c
  obtain ⟨c1, c2⟩ := c
  obtain ⟨d1, d2⟩ := List.append_inj c2 (by omega)
  exact ⟨⟨a1.symm, b1.symm, d1.symm⟩, d2.symm⟩
theorem am64_inj {a b : Int} (ha : -9223372036854775808 ≤ a ∧ a ≤ 9223372036854775807) (hb : -9223372036854775808 ≤ b ∧ b ≤ 9223372036854775807) (h : am64 a = am64 b) : a = b := by
  unfold am64 at h
  obtain ⟨l, u⟩ := ha
  obtain ⟨l2, u2⟩ := hb
  omega
theorem out_apart {x y : OutM} {xs ys : List Nat} (hx : OutOk x) (hy : OutOk y) (h : outB x ++ xs = outB y ++ ys) : OutE x y ∧ xs = ys := by
  have e0 : ∀ (z : OutM) zs, outB z ++ zs = toL (am64 z.am) 8 ++ (z.lock.1 ++ zs) := fun z zs => by unfold outB; simp only [List.append_assoc]
  rw [e0, e0] at h
  have a := rdNum_toL 8 (am64 x.am) (x.lock.1 ++ xs) 0 8 rfl (by omega) (am_lt x.am)
  rw [h, rdNum_toL 8 (am64 y.am) _ 0 8 rfl (by omega) (am_lt y.am)] at a
  simp only [Prod.mk.injEq, and_true] at a
  obtain ⟨a1, a2⟩ := a
  obtain ⟨d1, d2⟩ := List.append_inj a2 (by rw [x.lock.2.1, y.lock.2.1])
  exact ⟨⟨(am64_inj hy hx a1).symm, d1.symm⟩, d2.symm⟩
theorem ins_apart : ∀ (l m : List InM) (xs ys : List Nat), (∀ x ∈ l, x.ix < 4294967296 ∧ x.key.length ≤ 200) → (∀ x ∈ m, x.ix < 4294967296 ∧ x.key.length ≤ 200) → l.length = m.length → insB l ++ xs = insB m ++ ys → (∀ (k : Nat) x y, l[k]? = some x → m[k]? = some y → InE x y) ∧ xs = ys
  | [], [], xs, ys, _, _, _, h => ⟨fun k x y hx => by simp at hx, h⟩
  | [], _ :: _, _, _, _, _, hl, _ => by simp at hl
  | _ :: _, [], _, _, _, _, hl, _ => by simp at hl
  | x :: l, y :: m, xs, ys, hx, hy, hl, h => by
    rw [insB_cons, insB_cons, List.append_assoc, List.append_assoc] at h
    have px := hx x (List.mem_cons_self ..)
    have py := hy y (List.mem_cons_self ..)
    obtain ⟨a, b⟩ := in_apart px.1 py.1 px.2 py.2 h
    obtain ⟨c, d⟩ := ins_apart l m xs ys (fun z hz => hx z (List.mem_cons_of_mem _ hz)) (fun z hz => hy z (List.mem_cons_of_mem _ hz)) (by simpa using hl) b
    refine ⟨fun k u v hu hv => ?_, d⟩
    cases k with
    | zero =>
      simp only [List.getElem?_cons_zero, Option.some.injEq] at hu hv
      subst hu
      subst hv
      exact a
    | succ k => exact c k u v (by simpa using hu) (by simpa using hv)
theorem outs_apart : ∀ (l m : List OutM) (xs ys : List Nat), (∀ x ∈ l, OutOk x) → (∀ x ∈ m, OutOk x) → l.length = m.length → outsB l ++ xs = outsB m ++ ys → (∀ (k : Nat) x y, l[k]? = some x → m[k]? = some y → OutE x y) ∧ xs = ys
  | [], [], xs, ys, _, _, _, h => ⟨fun k x y hx => by simp at hx, h⟩
  | [], _ :: _, _, _, _, _, hl, _ => by simp at hl
  | _ :: _, [], _, _, _, _, hl, _ => by simp at hl
  | x :: l, y :: m, xs, ys, hx, hy, hl, h => by
    rw [outsB_cons, outsB_cons, List.append_assoc, List.append_assoc] at h
    obtain ⟨a, b⟩ := out_apart (hx x (List.mem_cons_self ..)) (hy y (List.mem_cons_self ..)) h
    obtain ⟨c, d⟩ := outs_apart l m xs ys (fun z hz => hx z (List.mem_cons_of_mem _ hz)) (fun z hz => hy z (List.mem_cons_of_mem _ hz)) (by simpa using hl) b
    refine ⟨fun k u v hu hv => ?_, d⟩
    cases k with
    | zero =>
      simp only [List.getElem?_cons_zero, Option.some.injEq] at hu hv
      subst hu
      subst hv
      exact a
    | succ k => exact c k u v (by simpa using hu) (by simpa using hv)
theorem inpB_same {x y : InM} (h : InE x y) : inpB x = inpB y := by
  obtain ⟨a, b, c⟩ := h
  unfold inpB
  rw [a, b, c]
theorem outB_same {x y : OutM} (h : OutE x y) : outB x = outB y := by
  obtain ⟨a, b⟩ := h
  unfold outB
  rw [a, b]
/-- Two transactions that say the same. -/
def TxE (t u : TxM) : Prop := t.ins.length = u.ins.length ∧ t.outs.length = u.outs.length ∧ (∀ (k : Nat) x y, t.ins[k]? = some x → u.ins[k]? = some y → InE x y) ∧ ∀ (k : Nat) x y, t.outs[k]? = some x → u.outs[k]? = some y → OutE x y
/-- The bytes of two transactions that fit are the same just where they say the same. -/
theorem tx_apart (t u : TxM) (hT : TxFit t) (hU : TxFit u) (it : ∀ x ∈ t.ins, x.ix < 4294967296) (iu : ∀ x ∈ u.ins, x.ix < 4294967296) (ot : ∀ x ∈ t.outs, OutOk x) (ou : ∀ x ∈ u.outs, OutOk x) : txB t = txB u ↔ TxE t u := by
  constructor
  · intro h
    unfold txB at h
    have a := rdCount_fits t.ins.length 40 (insB t.ins ++ (countL t.outs.length ++ outsB t.outs)) (by have := hT.1; omega) hT.1
    rw [h, rdCount_fits u.ins.length 40 _ (by have := hU.1; omega) hU.1] at a
    simp only [Prod.mk.injEq, and_true] at a
    obtain ⟨a1, a2⟩ := a
    obtain ⟨b1, b2⟩ := ins_apart _ _ _ _ (fun x hx => ⟨it x hx, hT.2.2 x hx⟩) (fun x hx => ⟨iu x hx, hU.2.2 x hx⟩) a1.symm a2.symm
    have c := rdCount_fits t.outs.length 40 (outsB t.outs) (by have := hT.2.1; omega) hT.2.1
    rw [b2, rdCount_fits u.outs.length 40 _ (by have := hU.2.1; omega) hU.2.1] at c
    simp only [Prod.mk.injEq, and_true] at c
    obtain ⟨c1, c2⟩ := c
    have d := outs_apart t.outs u.outs [] [] ot ou c1.symm (by rw [List.append_nil, List.append_nil]; exact c2.symm)
    exact ⟨a1.symm, c1.symm, b1, d.1⟩
  · rintro ⟨a, b, c, d⟩
    have e1 : insB t.ins = insB u.ins := by
      unfold insB
      congr 1
      apply List.ext_getElem (by rw [List.length_map, List.length_map, a])
      intro k h1 h2
      rw [List.length_map] at h1 h2
      rw [List.getElem_map, List.getElem_map]
      exact inpB_same (c k _ _ (List.getElem?_eq_getElem h1) (List.getElem?_eq_getElem h2))
    have e2 : outsB t.outs = outsB u.outs := by
      unfold outsB
      congr 1
      apply List.ext_getElem (by rw [List.length_map, List.length_map, b])
      intro k h1 h2
      rw [List.length_map] at h1 h2
      rw [List.getElem_map, List.getElem_map]
      exact outB_same (d k _ _ (List.getElem?_eq_getElem h1) (List.getElem?_eq_getElem h2))
    unfold txB
    rw [a, b, e1, e2]
end Go.Proofs.YtokiinpegclffaaDoor
