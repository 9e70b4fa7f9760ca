/- Frames: what a text begins with, told by a feed; and a frame's own bytes. -/
import Derived.Test.YtkpffjcdalclmaaDoorZFrM
import Derived.Test.YtkpffjcdalclmaaDoorZReaZ
namespace Go.Proofs.YtkpffjcdalclmaaDoor
open Go.RowKit
set_option linter.unusedVariables false
set_option linter.unusedSimpArgs false
set_option maxRecDepth 100000
def magL : List Nat := toL 1413565529 4
theorem mag_iff (ys : List Nat) (hl : ys.length = 4) (hx : ∀ x ∈ ys, x < 256) : ofL ys = 1413565529 ↔ ys = magL := by
  constructor
  · intro h
    have h2 := toL_ofL ys hx
    rw [h, hl] at h2
    exact h2.symm
  · rintro rfl; decide
theorem feed_split (o) (h s : List Nat) (n : Nat) (hn : n ≤ s.length) (hp : 0 < n) (hl : h.length + n ≤ edgeN h) : feedL ⟨h, 0, o⟩ s = feedL (tell (h ++ s.take n) o) (s.drop n) := by
  conv => lhs; rw [← List.take_append_drop n s]
  rw [feedL_app, feed_round h o (s.take n) (by
    intro h0
    have := congrArg List.length h0
    rw [List.length_take, List.length_nil] at this
    omega) (by rw [List.length_take]; omega)]
theorem edge0 : edgeN [] = 4 := rfl
theorem edge4 {h : List Nat} (hl : h.length = 4) : edgeN h = 24 := by unfold edgeN; rw [if_neg (by omega), if_pos (by omega)]
theorem edge24 {h : List Nat} (hl : h.length = 24) : edgeN h = 24 + dataN h := by unfold edgeN; rw [if_neg (by omega), if_neg (by omega)]
theorem take_in {s : List Nat} (hx : ∀ x ∈ s, x < 256) (n : Nat) : ∀ x ∈ s.take n, x < 256 := fun x h => hx x (List.mem_of_mem_take h)
theorem tell4 (s : List Nat) (o) (hl : 4 ≤ s.length) (hx : ∀ x ∈ s, x < 256) : tell (s.take 4) o = if s.take 4 = magL then ⟨s.take 4, 0, o⟩ else ⟨[], 80, o⟩ := by
  have h4 : (s.take 4).length = 4 := by rw [List.length_take]; omega
  have hm := mag_iff (s.take 4) h4 (take_in hx 4)
  have hw : wholeB (s.take 4) = false := decide_eq_false (by rintro ⟨h1, _⟩; omega)
  by_cases h : s.take 4 = magL
  · rw [if_pos h]
    have hf : faultE (s.take 4) = 0 := by
      unfold faultE
      rw [if_neg (by rintro ⟨_, h1⟩; exact h1 (hm.2 h)), if_neg (by rintro ⟨h1, _⟩; omega), if_neg (by rw [hw]; rintro ⟨h1, _⟩; cases h1)]
    unfold tell
    rw [if_neg (by rw [hf]; simp), if_neg (by rw [hw]; simp)]
  · rw [if_neg h]
    have hf : faultE (s.take 4) = 80 := by
      unfold faultE
      rw [if_pos ⟨h4, fun h1 => h (hm.1 h1)⟩]
    unfold tell
    rw [if_pos (by rw [hf]; decide), hf]
theorem deco_in (s : List Nat) (o) (hl : 4 ≤ s.length) (hx : ∀ x ∈ s, x < 256) (h : s.take 4 = magL) : feedL ⟨[], 0, o⟩ s = feedL ⟨s.take 4, 0, o⟩ (s.drop 4) := by
  rw [feed_split o [] s 4 hl (by omega) (by rw [edge0]; simp), List.nil_append, tell4 s o hl hx, if_pos h]
theorem take_two (s : List Nat) (a b : Nat) : s.take a ++ (s.drop a).take b = s.take (a + b) := (List.take_add).symm
theorem deco_head (s : List Nat) (o) (h24 : 24 ≤ s.length) (hx : ∀ x ∈ s, x < 256) (h : s.take 4 = magL) : feedL ⟨[], 0, o⟩ s = feedL (tell (s.take 24) o) (s.drop 24) := by
  have h4 : (s.take 4).length = 4 := by rw [List.length_take]; omega
  rw [deco_in s o (by omega) hx h, feed_split o _ (s.drop 4) 20 (by rw [List.length_drop]; omega) (by omega) (by rw [edge4 h4, h4]; omega), take_two, List.drop_drop]
theorem take_dt (s : List Nat) (n i k : Nat) (h : i + k ≤ n) : ((s.take n).drop i).take k = (s.drop i).take k := by
  rw [List.drop_take, List.take_take, Nat.min_eq_left (by omega)]
theorem fieldN_take (s : List Nat) (n : Nat) (h : 16 ≤ n) : fieldN (s.take n) = fieldN s := take_dt s n 4 12 (by omega)
theorem wordN_take (s : List Nat) (n : Nat) (h : 16 ≤ n) : wordN (s.take n) = wordN s := by unfold wordN; rw [fieldN_take s n h]
theorem dataN_take (s : List Nat) (n : Nat) (h : 20 ≤ n) : dataN (s.take n) = dataN s := by unfold dataN; rw [take_dt s n 16 4 (by omega)]
theorem headE_take (s : List Nat) (n : Nat) (h : 20 ≤ n) : headE (s.take n) = headE s := by unfold headE; rw [fieldN_take s n (by omega), wordN_take s n (by omega), dataN_take s n h]
def tailF (s : List Nat) (o : List (List Nat × List Nat)) : FS := if sum4 ((s.drop 24).take (dataN s)) = (s.drop 20).take 4 then ⟨[], 0, o ++ [(wordN s, (s.drop 24).take (dataN s))]⟩ else ⟨[], 81, o⟩
theorem tell_whole (s : List Nat) (o) (hl : 24 + dataN s ≤ s.length) (he : headE s = 0) : tell (s.take (24 + dataN s)) o = tailF s o := by
  have h0 : (s.take (24 + dataN s)).length = 24 + dataN s := by rw [List.length_take]; omega
  have hd := dataN_take s (24 + dataN s) (by omega)
  have hw : wholeB (s.take (24 + dataN s)) = true := (wholeB_iff _).2 ⟨by omega, by rw [hd]; exact h0⟩
  have hwd := wordN_take s (24 + dataN s) (by omega)
  have hdt : (s.take (24 + dataN s)).drop 24 = (s.drop 24).take (dataN s) := by rw [List.drop_take]; congr 1; omega
  have h20 := take_dt s (24 + dataN s) 20 4 (by omega)
  have hh := headE_take s (24 + dataN s) (by omega)
  have hf : faultE (s.take (24 + dataN s)) = if sum4 ((s.drop 24).take (dataN s)) = (s.drop 20).take 4 then 0 else 81 := by
    unfold faultE
    rw [if_neg (by rintro ⟨h1, _⟩; omega), if_neg (by rintro ⟨_, h1⟩; rw [hh] at h1; exact h1 he), h20, hdt, hw]
    by_cases hs : sum4 ((s.drop 24).take (dataN s)) = (s.drop 20).take 4
    · rw [if_pos hs, if_neg (by rintro ⟨_, h1⟩; exact h1 hs.symm)]
    · rw [if_neg hs, if_pos ⟨rfl, fun h1 => hs h1.symm⟩]
  unfold tell tailF
  by_cases hs : sum4 ((s.drop 24).take (dataN s)) = (s.drop 20).take 4
  · rw [if_pos hs] at hf
    rw [if_neg (by rw [hf]; simp), if_pos hw, if_pos hs, hwd, hdt]
  · rw [if_neg hs] at hf
    rw [if_pos (by rw [hf]; decide), if_neg hs, hf]
theorem tell_head (s : List Nat) (o) (h24 : 24 ≤ s.length) (he : headE s = 0) (hd : dataN s ≠ 0) : tell (s.take 24) o = ⟨s.take 24, 0, o⟩ := by
  have hl : (s.take 24).length = 24 := by rw [List.length_take]; omega
  have hh := headE_take s 24 (by omega)
  have hdd := dataN_take s 24 (by omega)
  have hw : wholeB (s.take 24) = false := decide_eq_false (by rintro ⟨_, h1⟩; rw [hdd, hl] at h1; omega)
  have hf : faultE (s.take 24) = 0 := by
    unfold faultE
    rw [if_neg (by rintro ⟨h1, _⟩; omega), if_neg (by rintro ⟨_, h1⟩; rw [hh] at h1; exact h1 he), if_neg (by rw [hw]; rintro ⟨h1, _⟩; cases h1)]
  unfold tell
  rw [if_neg (by rw [hf]; simp), if_neg (by rw [hw]; simp)]
theorem deco_whole (s : List Nat) (o) (hx : ∀ x ∈ s, x < 256) (h : s.take 4 = magL) (he : headE s = 0) (hl : 24 + dataN s ≤ s.length) : feedL ⟨[], 0, o⟩ s = feedL (tailF s o) (s.drop (24 + dataN s)) := by
  have h0 : (s.take 24).length = 24 := by rw [List.length_take]; omega
  rw [deco_head s o (by omega) hx h]
  by_cases hd : dataN s = 0
  · have h1 := tell_whole s o hl he
    rw [hd] at h1 ⊢
    rw [h1]
  · rw [tell_head s o (by omega) he hd, feed_split o _ (s.drop 24) (dataN s) (by rw [List.length_drop]; omega) (by omega) (by rw [edge24 h0, h0, dataN_take s 24 (by omega)]; omega), take_two, List.drop_drop, tell_whole s o hl he]
def encL (wd da : List Nat) : List Nat := magL ++ (wd ++ zeros (12 - wd.length)) ++ toL da.length 4 ++ sum4 da ++ da
theorem magL_len : magL.length = 4 := rfl
theorem encL_len (wd da : List Nat) (h : wd.length ≤ 12) : (encL wd da).length = 24 + da.length := by
  unfold encL
  simp only [List.length_append, magL_len, zeros_length, toL_length, sum4_length]
  omega
theorem magL_lt : ∀ x ∈ magL, x < 256 := by decide
theorem word_lt {wd : List Nat} (h : WordOk wd) : ∀ x ∈ wd, x < 256 ∧ x ≠ 0 := by
  intro x hx
  obtain ⟨i, hi, rfl⟩ := List.mem_iff_getElem.1 hx
  have h1 := h.2.2 i hi
  unfold nth at h1
  rw [List.getD_eq_getElem?_getD, List.getElem?_eq_getElem hi] at h1
  simp only [Option.getD_some] at h1
  omega
theorem encL_lt (wd da : List Nat) (h : ∀ x ∈ wd, x < 256) (hd : ∀ x ∈ da, x < 256) : ∀ x ∈ encL wd da, x < 256 := by
  intro x hx
  unfold encL at hx
  simp only [List.mem_append] at hx
  rcases hx with (((h1 | h1 | h1) | h1) | h1) | h1
  · exact magL_lt x h1
  · exact h x h1
  · exact zeros_lt _ x h1
  · exact toL_lt _ _ x h1
  · exact sum4_lt _ x h1
  · exact hd x h1
theorem encL_take4 (wd da : List Nat) : (encL wd da).take 4 = magL := by
  unfold encL
  simp only [List.append_assoc]
  exact List.take_left' magL_len
theorem encL_field (wd da : List Nat) (h : wd.length ≤ 12) (r : List Nat) : fieldN (encL wd da ++ r) = wd ++ zeros (12 - wd.length) := by
  unfold fieldN encL
  simp only [List.append_assoc]
  rw [List.drop_left' magL_len, ← List.append_assoc, List.take_left' (by rw [List.length_append, zeros_length]; omega)]
theorem takeWhile_zeros (wd : List Nat) (h : ∀ x ∈ wd, x ≠ 0) (n : Nat) : (wd ++ zeros n).takeWhile (fun x => x != 0) = wd := by
  induction wd with
  | nil => cases n <;> rfl
  | cons x wd ih =>
    rw [List.cons_append, List.takeWhile_cons_of_pos (by simpa using h x List.mem_cons_self), ih (fun y hy => h y (List.mem_cons_of_mem _ hy))]
theorem encL_word (wd da : List Nat) (h : WordOk wd) (r : List Nat) : wordN (encL wd da ++ r) = wd := by
  unfold wordN
  rw [encL_field wd da h.2.1 r, takeWhile_zeros wd (fun x hx => (word_lt h x hx).2)]
theorem encL_data (wd da : List Nat) (h : wd.length ≤ 12) (hd : da.length ≤ 16384) (r : List Nat) : dataN (encL wd da ++ r) = da.length := by
  unfold dataN encL
  have e : magL ++ (wd ++ zeros (12 - wd.length)) ++ toL da.length 4 ++ sum4 da ++ da ++ r = (magL ++ (wd ++ zeros (12 - wd.length))) ++ (toL da.length 4 ++ (sum4 da ++ (da ++ r))) := by simp only [List.append_assoc]
  rw [e, List.drop_left' (by simp only [List.length_append, magL_len, zeros_length]; omega), List.take_left' (toL_length _ _), ofL_toL _ _ (by omega)]
theorem encL_head (wd da : List Nat) (h : WordOk wd) (hd : da.length ≤ 16384) (r : List Nat) : headE (encL wd da ++ r) = 0 := by
  unfold headE
  rw [encL_word wd da h r, encL_field wd da h.2.1 r, encL_data wd da h.2.1 hd r, if_neg (by rw [wordE_ok h]; simp), if_neg (by omega)]
theorem encL_sum (wd da : List Nat) (h : wd.length ≤ 12) (r : List Nat) : ((encL wd da ++ r).drop 20).take 4 = sum4 da := by
  unfold encL
  have e : magL ++ (wd ++ zeros (12 - wd.length)) ++ toL da.length 4 ++ sum4 da ++ da ++ r = (magL ++ (wd ++ zeros (12 - wd.length)) ++ toL da.length 4) ++ (sum4 da ++ (da ++ r)) := by simp only [List.append_assoc]
  rw [e, List.drop_left' (by simp only [List.length_append, magL_len, zeros_length, toL_length]; omega), List.take_left' (sum4_length _)]
theorem encL_rest (wd da : List Nat) (h : wd.length ≤ 12) (r : List Nat) : (encL wd da ++ r).drop 24 = da ++ r := by
  unfold encL
  have e : magL ++ (wd ++ zeros (12 - wd.length)) ++ toL da.length 4 ++ sum4 da ++ da ++ r = (magL ++ (wd ++ zeros (12 - wd.length)) ++ toL da.length 4 ++ sum4 da) ++ (da ++ r) := by simp only [List.append_assoc]
  rw [e, List.drop_left' (by simp only [List.length_append, magL_len, zeros_length, toL_length, sum4_length]; omega)]
theorem feed_enc (wd da : List Nat) (o) (r : List Nat) (h : WordOk wd) (hd : da.length ≤ 16384) (hx : ∀ x ∈ da, x < 256) (hr : ∀ x ∈ r, x < 256) : feedL ⟨[], 0, o⟩ (encL wd da ++ r) = feedL ⟨[], 0, o ++ [(wd, da)]⟩ r := by
  have hl := encL_len wd da h.2.1
  have hdn := encL_data wd da h.2.1 hd r
  have hdt : ((encL wd da ++ r).drop 24).take da.length = da := by rw [encL_rest wd da h.2.1 r, List.take_left' rfl]
  rw [deco_whole (encL wd da ++ r) o (fun x hx2 => by
      rcases List.mem_append.1 hx2 with h1 | h1
      · exact encL_lt wd da (fun x hx => (word_lt h x hx).1) hx x h1
      · exact hr x h1) (by rw [List.take_append_of_le_length (by omega), encL_take4]) (encL_head wd da h hd r) (by rw [hdn, List.length_append, hl]; omega)]
  have ht : tailF (encL wd da ++ r) o = ⟨[], 0, o ++ [(wd, da)]⟩ := by
    unfold tailF
    rw [hdn, hdt, encL_sum wd da h.2.1 r, if_pos rfl, encL_word wd da h r]
  rw [ht, hdn, List.drop_left' hl]
end Go.Proofs.YtkpffjcdalclmaaDoor
