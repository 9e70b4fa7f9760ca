/-
  Texts in one: FdO, FrN, FrE.
-/
import Derived.Test.YtkpffjcdalclmaaDoorZBytZ
import Derived.Test.YtkpffjcdalclmaaDoorZFrS
namespace Go.Proofs.YtkpffjcdalclmaaDoor
set_option linter.unusedVariables false
set_option linter.unusedSimpArgs false
class FdOk (FT : TypeId) (FR : Array Value) (fo : Nat) : Prop where
  ne : FT ≠ 5
  nf : FT ≠ 93
  sz : fo + 1 < FR.size
def fdA (FR : Array Value) (fo : Nat) (v e : Value) : Array Value := (FR.setIfInBounds fo v).setIfInBounds (fo + 1) e
theorem fdA_0 {FR : Array Value} {fo : Nat} (h : fo + 1 < FR.size) (v e : Value) : (fdA FR fo v e)[fo]? = some v := by
  unfold fdA
  rw [Array.getElem?_setIfInBounds_ne (by omega), Array.getElem?_setIfInBounds_self_of_lt (by omega)]
theorem fdA_1 {FR : Array Value} {fo : Nat} (h : fo + 1 < FR.size) (v e : Value) : (fdA FR fo v e)[fo + 1]? = some e := by
  unfold fdA
  rw [Array.getElem?_setIfInBounds_self_of_lt (by simp; omega)]
theorem fdA_s0 {FR : Array Value} {fo : Nat} (v e u : Value) : (fdA FR fo v e).setIfInBounds fo u = fdA FR fo u e := by
  unfold fdA
  apply Array.ext_getElem?
  intro i
  simp only [Array.getElem?_setIfInBounds, Array.size_setIfInBounds]
  by_cases h1 : fo = i
  · subst h1
    simp
  · simp only [if_neg h1]
theorem fdA_s1 {FR : Array Value} {fo : Nat} (v e u : Value) : (fdA FR fo v e).setIfInBounds (fo + 1) u = fdA FR fo v u := by
  unfold fdA
  apply Array.ext_getElem?
  intro i
  simp only [Array.getElem?_setIfInBounds, Array.size_setIfInBounds]
  split <;> rfl
theorem fd0 {FT : TypeId} {FR : Array Value} {fo : Nat} [hfd : FdOk FT FR fo] {w : World} {p : Nat} {v e : Value} (K : Bk w p FT (fdA FR fo v e)) : w.cell? ⟨p, fo, none⟩ = some v := (K.cell fo).trans (fdA_0 hfd.sz v e)
theorem fd1 {FT : TypeId} {FR : Array Value} {fo : Nat} [hfd : FdOk FT FR fo] {w : World} {p : Nat} {v e : Value} (K : Bk w p FT (fdA FR fo v e)) : w.cell? ⟨p, fo + 1, none⟩ = some e := (K.cell (fo + 1)).trans (fdA_1 hfd.sz v e)
theorem fds0 {FT : TypeId} {FR : Array Value} {fo : Nat} {w : World} {p : Nat} {v e : Value} (K : Bk w p FT (fdA FR fo v e)) (u : Value) : Bk (w.setCell ⟨p, fo, none⟩ u) p FT (fdA FR fo u e) := by
  have h := K.set_ fo u
  rw [fdA_s0] at h
  exact h
theorem fds1 {FT : TypeId} {FR : Array Value} {fo : Nat} {w : World} {p : Nat} {v e : Value} (K : Bk w p FT (fdA FR fo v e)) (u : Value) : Bk (w.setCell ⟨p, fo + 1, none⟩ u) p FT (fdA FR fo v u) := by
  have h := K.set_ (fo + 1) u
  rw [fdA_s1] at h
  exact h
end Go.Proofs.YtkpffjcdalclmaaDoor
namespace Go.Proofs.YtkpffjcdalclmaaDoor
open Go.RowKit
set_option linter.unusedVariables false
set_option linter.unusedSimpArgs false
set_option maxRecDepth 100000
theorem bsv_part {w : World} {B n c : Nat} {a : Addr} {xs : List Nat} (i k : Nat) (h : BsV w B (.slice (some a) n c) xs) (hk : i + k ≤ xs.length) : BsV w B (.slice (some (a.add i)) k (c - i)) ((xs.drop i).take k) := by
  obtain ⟨s, cap, e, h1, h2, h3, h4⟩ := h
  cases e
  have hlen : ((xs.drop i).take k).length = k := by rw [List.length_take, List.length_drop]; omega
  refine ⟨some (a.add i), c - i, by rw [hlen], by omega, by omega, fun x hx => h3 x (List.mem_of_mem_drop (List.mem_of_mem_take hx)), fun hne => ?_⟩
  have hne' : xs ≠ [] := by
    rintro rfl
    simp at hne
  obtain ⟨b, o, e1, hb, hc⟩ := h4 hne'
  cases e1
  refine ⟨b, o + i, by rw [Go.WideShapes.add_plain], hb, fun j hj => ?_⟩
  rw [hlen] at hj
  have h5 := hc (i + j) (by omega)
  rw [← Nat.add_assoc] at h5
  rw [h5]
  unfold nth
  rw [List.getD, List.getD, List.getElem?_take_of_lt hj, List.getElem?_drop]
set_option maxHeartbeats 4000000 in
theorem flen_any {FT : TypeId} {FR : Array Value} {fo : Nat} [hfd : FdOk FT FR fo] (p n c e : Nat) (a : Addr) (xs : List Nat) (w : World) (hP : Bk w p FT (fdA FR fo (.slice (some a) n c) (.int .i64 (e : Int)))) (hb : BsV w w.heap.size (.slice (some a) n c) xs) (h20 : 20 ≤ xs.length) (hl : xs.length ≤ 100000) :
    Calls Tryd.prog 73 #[.pointer (some ⟨p, fo, none⟩)] w fun r w' => r = .returned (.int .u64 ((ofL ((xs.drop 16).take 4) : Nat) : Int)) ∧ Below w.heap.size w w' := by
  have hx : ∀ x ∈ xs, x < 256 := by
    obtain ⟨s, cap, e, h1, h2, h3, h4⟩ := hb
    exact h3
  have hcap : xs.length ≤ c ∧ c < 9223372036854775808 ∧ n = xs.length := by
    obtain ⟨s, cap, e, h1, h2, h3, h4⟩ := hb
    cases e
    exact ⟨h1, h2, rfl⟩
  have hpart := bsv_part 16 4 hb (by omega)
  have hyl : ((xs.drop 16).take 4).length = 4 := by rw [List.length_take, List.length_drop]; omega
  have hyx : ∀ x ∈ (xs.drop 16).take 4, x < 256 := fun x h => hx x (List.mem_of_mem_drop (List.mem_of_mem_take h))
  obtain ⟨y, hy⟩ : ∃ y, y = (xs.drop 16).take 4 := ⟨_, rfl⟩
  rw [← hy] at hpart hyl hyx ⊢
  have HRD := Lib.hid (read_any y (.slice (some (a.add 16)) 4 (c - 16)) w hpart (by omega) hyx)
  have HNM : Hid (∀ q v W, Rd W q v y 0 → Calls Tryd.prog 75 #[.pointer (some ⟨q, 0, none⟩), .int .i64 4] W fun r w' => r = .returned (.int .u64 ((ofL y : Nat) : Int)) ∧ ∃ v', Took q v (rdNum (y, 0) 4).2 W w' v') := fun q v W h => by
    have h1 := num_any q 4 v (y, 0) W h ⟨by simp only; omega, by simp only; omega⟩
    have e1 : (rdNum (y, 0) 4).1 = ofL y := by
      unfold rdNum rdTake
      rw [if_pos (by simp only; omega)]
      show ofL ((y.take 4).take 8) = ofL y
      rw [List.take_of_length_le (show (y.take 4).length ≤ 8 by rw [List.length_take]; omega), List.take_of_length_le (by omega)]
    rw [e1] at h1
    exact h1
  have HLN := Lib.hid hyl
  have c0 := (fd0 hP)
  have c1 := (fd1 hP)
  have z0 := hP.lt
  have hc1 : (20 : Int) ≤ (c : Int) := by omega
  have hc2 : ¬ c = 16 := by omega
  have hc3 : (c : Int) < 9223372036854775808 := by omega
  have hc4 : ((c : Int) - 16).toNat = c - 16 := by omega
  obtain ⟨on, hon⟩ : ∃ o, o = ofL y := ⟨_, rfl⟩
  rw [← hon] at HNM ⊢
  clear hb h20 hl hx hcap hpart hyl hyx hy hP hon
  go_enter Tryd.func73, Tryd.ntmps73
  go_wp2_with fail
  refine HRD.out.mono ?_
  rintro r w1 ⟨q, v', rfl, hRd, hb1, hq, _⟩
  have HB1 := Lib.hid hb1
  have HQ := Lib.hid hq
  have HC := Lib.hid (HNM.out q v' w1 hRd)
  clear hRd hb1 hq HRD HNM
  go_wp2_with fail
  refine HC.out.mono ?_
  rintro r w2 ⟨rfl, v2, hT⟩
  have hb2 := hT.2.1
  go_wp2_with fail
  go_ret
  exact ⟨rfl, HB1.out.trans (hb2.below (B := w.heap.size) HB1.out.size (fun k hk => by subst hk; exact HQ.out))⟩
end Go.Proofs.YtkpffjcdalclmaaDoor
namespace Go.Proofs.YtkpffjcdalclmaaDoor
open Go.RowKit
set_option linter.unusedVariables false
set_option linter.unusedSimpArgs false
set_option maxRecDepth 100000
def dataN (xs : List Nat) : Nat := ofL ((xs.drop 16).take 4)
def edgeN (xs : List Nat) : Nat := if xs.length < 4 then 4 else if xs.length < 24 then 24 else 24 + dataN xs
theorem dataN_lt (xs : List Nat) (hx : ∀ x ∈ xs, x < 256) : dataN xs < 4294967296 := by
  have h := ofL_lt ((xs.drop 16).take 4) (fun x h => hx x (List.mem_of_mem_drop (List.mem_of_mem_take h)))
  have hl : ((xs.drop 16).take 4).length ≤ 4 := by rw [List.length_take]; omega
  have h2 : 256 ^ ((xs.drop 16).take 4).length ≤ 256 ^ 4 := Nat.pow_le_pow_right (by omega) hl
  unfold dataN
  omega
set_option maxHeartbeats 4000000 in
theorem fedge_any {FT : TypeId} {FR : Array Value} {fo : Nat} [hfd : FdOk FT FR fo] (p n c e : Nat) (s : Option Addr) (xs : List Nat) (w : World) (hP : Bk w p FT (fdA FR fo (.slice s n c) (.int .i64 (e : Int)))) (hb : BsV w w.heap.size (.slice s n c) xs) (hl : xs.length ≤ 100000) :
    Calls Tryd.prog 53 #[.pointer (some ⟨p, fo, none⟩)] w fun r w' => r = .returned (.int .i64 ((edgeN xs : Nat) : Int)) ∧ Below w.heap.size w w' := by
  have hx : ∀ x ∈ xs, x < 256 := by
    obtain ⟨s, cap, e, h1, h2, h3, h4⟩ := hb
    exact h3
  have hn : n = xs.length := by
    obtain ⟨s, cap, e, h1, h2, h3, h4⟩ := hb
    cases e
    rfl
  have c0 := (fd0 hP)
  have c1 := (fd1 hP)
  have z0 := hP.lt
  by_cases h4 : n < 4
  · have e0 : edgeN xs = 4 := by unfold edgeN; rw [if_pos (by omega)]
    rw [e0]
    have q1 : decide ((n : Int) < 4) = true := decide_eq_true (by omega)
    clear h4 e0 hb hx hl hn hP
    go_enter Tryd.func53, Tryd.ntmps53
    go_wp2_with fail
    go_ret
    exact ⟨rfl, Below.refl _ _⟩
  have q1 : decide ((n : Int) < 4) = false := decide_eq_false (by omega)
  by_cases h24 : n < 24
  · have e0 : edgeN xs = 24 := by unfold edgeN; rw [if_neg (by omega), if_pos (by omega)]
    rw [e0]
    have q2 : decide ((n : Int) < 24) = true := decide_eq_true (by omega)
    clear h4 h24 e0 hb hx hl hn hP
    go_enter Tryd.func53, Tryd.ntmps53
    go_wp2_with fail
    go_ret
    exact ⟨rfl, Below.refl _ _⟩
  have q2 : decide ((n : Int) < 24) = false := decide_eq_false (by omega)
  have e0 : edgeN xs = 24 + dataN xs := by unfold edgeN; rw [if_neg (by omega), if_neg (by omega)]
  have hd := dataN_lt xs hx
  obtain ⟨a, rfl⟩ : ∃ a, s = some a := by
    obtain ⟨s', cap, e, h1, h2, h3, h5⟩ := hb
    cases e
    obtain ⟨b, o, e1, _⟩ := h5 (by intro h; apply h4; first | (rw [h]; decide) | (rw [hn, h]; decide))
    exact ⟨_, e1⟩
  have HC := Lib.hid (flen_any p n c e a xs w hP hb (by omega) hl)
  have hdn : ofL ((xs.drop 16).take 4) = dataN xs := rfl
  rw [hdn] at HC
  rw [e0]
  obtain ⟨d, hd0⟩ : ∃ d, d = dataN xs := ⟨_, rfl⟩
  rw [← hd0] at HC hd ⊢
  have hwd : IntKind.i64.wrap (d : Int) = (d : Int) := by
    simp [IntKind.wrap, IntKind.signed, IntKind.bits]
    omega
  clear h4 h24 e0 hb hx hl hn hP hdn hd0
  go_enter Tryd.func53, Tryd.ntmps53
  go_wp2_with fail
  refine HC.out.mono ?_
  rintro r w1 ⟨rfl, hb1⟩
  go_wp2_with fail
  go_ret
  exact ⟨by simp, hb1⟩
end Go.Proofs.YtkpffjcdalclmaaDoor
