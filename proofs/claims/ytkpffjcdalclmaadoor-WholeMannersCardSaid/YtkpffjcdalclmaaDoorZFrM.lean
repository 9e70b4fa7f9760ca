/- Frames: what a feed holds, byte by byte, and what a frame's bytes make of it. -/
import Derived.Test.YtkpffjcdalclmaaDoorZFrE
namespace Go.Proofs.YtkpffjcdalclmaaDoor
open Go.RowKit
set_option linter.unusedVariables false
set_option linter.unusedSimpArgs false
set_option maxRecDepth 100000
def fieldN (xs : List Nat) : List Nat := (xs.drop 4).take 12
def wordN (xs : List Nat) : List Nat := (fieldN xs).takeWhile (fun x => x != 0)
def headE (xs : List Nat) : Nat := if wordE (wordN xs) ≠ 0 ∨ wordN xs ++ zeros (12 - (wordN xs).length) ≠ fieldN xs then 70 else if 16384 < dataN xs then 2 else 0
def wholeN (xs : List Nat) : Prop := 24 ≤ xs.length ∧ xs.length = 24 + dataN xs
def wholeB (xs : List Nat) : Bool := decide (24 ≤ xs.length ∧ xs.length = 24 + dataN xs)
theorem wholeB_iff (xs : List Nat) : wholeB xs = true ↔ wholeN xs := by unfold wholeB wholeN; exact decide_eq_true_iff
def faultE (xs : List Nat) : Nat :=
  if xs.length = 4 ∧ ofL xs ≠ 1413565529 then 80
  else if xs.length = 24 ∧ headE xs ≠ 0 then headE xs
  else if wholeB xs = true ∧ (xs.drop 20).take 4 ≠ sum4 (xs.drop 24) then 81 else 0
structure FS where
  h : List Nat
  e : Nat
  out : List (List Nat × List Nat)
def tell (h : List Nat) (o : List (List Nat × List Nat)) : FS :=
  if faultE h ≠ 0 then ⟨[], faultE h, o⟩ else if wholeB h = true then ⟨[], 0, o ++ [(wordN h, h.drop 24)]⟩ else ⟨h, 0, o⟩
def feed1 (s : FS) (x : Nat) : FS := if s.e ≠ 0 then s else tell (s.h ++ [x]) s.out
def feedL (s : FS) (b : List Nat) : FS := b.foldl feed1 s
def hOk (h : List Nat) : Prop := h.length < edgeN h ∧ (24 ≤ h.length → dataN h ≤ 16384)
theorem feedL_nil (s : FS) : feedL s [] = s := rfl
theorem feedL_app (s : FS) (a b : List Nat) : feedL s (a ++ b) = feedL (feedL s a) b := List.foldl_append
theorem feedL_one (s : FS) (x : Nat) : feedL s [x] = feed1 s x := rfl
theorem feedL_bad (s : FS) (h : s.e ≠ 0) (b : List Nat) : feedL s b = s := by
  induction b with
  | nil => rfl
  | cons x b ih =>
    show feedL (feed1 s x) b = s
    have e1 : feed1 s x = s := if_pos h
    rw [e1]
    exact ih
theorem drop_pre (h ys : List Nat) (i k : Nat) (hk : i + k ≤ h.length) : ((h ++ ys).drop i).take k = (h.drop i).take k := by
  rw [List.drop_append_of_le_length (by omega), List.take_append_of_le_length (by rw [List.length_drop]; omega)]
theorem dataN_pre (h ys : List Nat) (hl : 24 ≤ h.length) : dataN (h ++ ys) = dataN h := by
  unfold dataN
  rw [drop_pre h ys 16 4 (by omega)]
theorem quiet (h ys : List Nat) (hy : ys ≠ []) (hl : h.length + ys.length < edgeN h) : faultE (h ++ ys) = 0 ∧ wholeB (h ++ ys) = false := by
  have hp : 0 < ys.length := List.length_pos_iff.2 hy
  have hlen : (h ++ ys).length = h.length + ys.length := List.length_append
  have hw : wholeB (h ++ ys) = false := by
    unfold wholeB
    apply decide_eq_false
    rintro ⟨h1, h2⟩
    rw [hlen] at h1 h2
    unfold edgeN at hl
    split at hl
    · omega
    · split at hl
      · omega
      · rw [dataN_pre h ys (by omega)] at h2
        omega
  refine ⟨?_, hw⟩
  unfold faultE
  rw [if_neg, if_neg, if_neg]
  · rw [hw]; rintro ⟨h1, _⟩; cases h1
  · rintro ⟨h1, _⟩
    rw [hlen] at h1
    unfold edgeN at hl
    split at hl
    · omega
    · split at hl
      · omega
      · omega
  · rintro ⟨h1, _⟩
    rw [hlen] at h1
    unfold edgeN at hl
    split at hl
    · omega
    · omega
theorem tell_quiet (h ys : List Nat) (o) (hy : ys ≠ []) (hl : h.length + ys.length < edgeN h) : tell (h ++ ys) o = ⟨h ++ ys, 0, o⟩ := by
  obtain ⟨h1, h2⟩ := quiet h ys hy hl
  unfold tell
  rw [if_neg (by rw [h1]; simp), if_neg (by rw [h2]; simp)]
theorem feed_quiet (h : List Nat) (o) : ∀ (n : Nat) (ys : List Nat), ys.length = n → h.length + ys.length < edgeN h → feedL ⟨h, 0, o⟩ ys = ⟨h ++ ys, 0, o⟩ := by
  intro n
  induction n with
  | zero =>
    intro ys hy _
    obtain rfl := List.eq_nil_of_length_eq_zero hy
    rw [List.append_nil]
    rfl
  | succ n ih =>
    intro ys hy hl
    have hne : ys ≠ [] := by rintro rfl; cases hy
    obtain ⟨zs, x, rfl⟩ : ∃ zs x, ys = zs ++ [x] := ⟨ys.dropLast, ys.getLast hne, (List.dropLast_concat_getLast hne).symm⟩
    rw [List.length_append, List.length_singleton] at hl hy
    rw [feedL_app, ih zs (by omega) (by omega), feedL_one]
    show (if (0 : Nat) ≠ 0 then _ else tell ((h ++ zs) ++ [x]) o) = _
    rw [if_neg (by simp), List.append_assoc, tell_quiet h (zs ++ [x]) o (by simp) (by rw [List.length_append, List.length_singleton]; omega)]
theorem feed_round (h : List Nat) (o) (ys : List Nat) (hy : ys ≠ []) (hl : h.length + ys.length ≤ edgeN h) : feedL ⟨h, 0, o⟩ ys = tell (h ++ ys) o := by
  obtain ⟨zs, x, rfl⟩ : ∃ zs x, ys = zs ++ [x] := ⟨ys.dropLast, ys.getLast hy, (List.dropLast_concat_getLast hy).symm⟩
  rw [List.length_append, List.length_singleton] at hl
  rw [feedL_app, feed_quiet h o _ zs rfl (by omega), feedL_one]
  show (if (0 : Nat) ≠ 0 then _ else tell ((h ++ zs) ++ [x]) o) = _
  rw [if_neg (by simp), List.append_assoc]
theorem hOk_nil : hOk [] := ⟨by decide, fun h => absurd h (by decide)⟩
theorem headE_data {xs : List Nat} (h : headE xs = 0) : dataN xs ≤ 16384 := by
  unfold headE at h
  split at h
  · cases h
  · split at h
    · cases h
    · omega
theorem hOk_next (h ys : List Nat) (ho : hOk h) (hy : ys ≠ []) (hl : h.length + ys.length ≤ edgeN h) (hf : faultE (h ++ ys) = 0) (hw : wholeB (h ++ ys) = false) : hOk (h ++ ys) := by
  have hp : 0 < ys.length := List.length_pos_iff.2 hy
  have hlen : (h ++ ys).length = h.length + ys.length := List.length_append
  have hwn : ¬ wholeN (h ++ ys) := by rw [← wholeB_iff, hw]; simp
  have hd : 24 ≤ (h ++ ys).length → dataN (h ++ ys) ≤ 16384 := by
    intro h24
    by_cases hh : 24 ≤ h.length
    · rw [dataN_pre h ys hh]; exact ho.2 hh
    · have e24 : (h ++ ys).length = 24 := by
        unfold edgeN at hl
        split at hl
        · omega
        · split at hl <;> omega
      unfold faultE at hf
      rw [if_neg (by rintro ⟨h1, _⟩; omega)] at hf
      split at hf
      · rename_i h1; exact absurd hf h1.2
      · rename_i h1
        exact headE_data (Classical.byContradiction fun hc => h1 ⟨e24, hc⟩)
  refine ⟨?_, hd⟩
  unfold edgeN
  split
  · assumption
  · split
    · assumption
    · rename_i h1 h2
      have h3 : (h ++ ys).length ≠ 24 + dataN (h ++ ys) := fun e => hwn ⟨by omega, e⟩
      by_cases hh : 24 ≤ h.length
      · rw [dataN_pre h ys hh] at h3 ⊢
        unfold edgeN at hl
        rw [if_neg (by omega), if_neg (by omega)] at hl
        omega
      · have e24 : (h ++ ys).length = 24 := by
          unfold edgeN at hl
          split at hl
          · omega
          · split at hl <;> omega
        omega
theorem hOk_len {h : List Nat} (ho : hOk h) : h.length < 16408 := by
  obtain ⟨h1, h2⟩ := ho
  unfold edgeN at h1
  split at h1
  · omega
  · split at h1
    · omega
    · have := h2 (by omega); omega
theorem edge_le {h : List Nat} (ho : hOk h) : edgeN h ≤ 16408 := by
  obtain ⟨h1, h2⟩ := ho
  unfold edgeN at h1 ⊢
  by_cases a : h.length < 4
  · rw [if_pos a]; omega
  · rw [if_neg a] at h1 ⊢
    by_cases b : h.length < 24
    · rw [if_pos b]; omega
    · rw [if_neg b] at h1 ⊢
      have := h2 (by omega)
      omega
def FOk (s : FS) : Prop := (s.e ≠ 0 → s.h = []) ∧ (s.e = 0 → hOk s.h) ∧ s.e < 1000
theorem FOk.zero (o) : FOk ⟨[], 0, o⟩ := ⟨fun _ => rfl, fun _ => hOk_nil, by show 0 < 1000; omega⟩
theorem headE_lt (xs : List Nat) : headE xs < 1000 := by
  unfold headE
  split
  · omega
  · split <;> omega
theorem faultE_lt (xs : List Nat) : faultE xs < 1000 := by
  unfold faultE
  split
  · omega
  · split
    · exact headE_lt xs
    · split <;> omega
theorem tell_ok (h ys : List Nat) (o) (ho : hOk h) (hy : ys ≠ []) (hl : h.length + ys.length ≤ edgeN h) : FOk (tell (h ++ ys) o) := by
  unfold tell
  split
  · rename_i hf
    exact ⟨fun _ => rfl, fun h => absurd h hf, faultE_lt _⟩
  · rename_i hf
    have hf : faultE (h ++ ys) = 0 := Classical.byContradiction hf
    split
    · exact FOk.zero _
    · rename_i hw
      exact ⟨fun h => absurd rfl h, fun _ => hOk_next h ys ho hy hl hf (by simpa using hw), by show 0 < 1000; omega⟩
theorem feed1_ok {s : FS} (h : FOk s) (x : Nat) : FOk (feed1 s x) := by
  unfold feed1
  split
  · exact h
  · rename_i he
    have he : s.e = 0 := Classical.byContradiction he
    have ho := h.2.1 he
    exact tell_ok s.h [x] s.out ho (by simp) (by have := ho.1; rw [List.length_singleton]; omega)
theorem feedL_ok {s : FS} (b : List Nat) : FOk s → FOk (feedL s b) := by
  induction b generalizing s with
  | nil => exact fun h => h
  | cons x b ih => exact fun h => ih (feed1_ok h x)
end Go.Proofs.YtkpffjcdalclmaaDoor
