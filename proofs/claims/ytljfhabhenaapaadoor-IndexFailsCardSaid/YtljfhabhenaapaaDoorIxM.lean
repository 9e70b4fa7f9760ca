/-
  The tree of headers as numbers: parents, skips, heights, what is found, what comes of a header that is added, and what fails.
-/
import Derived.Test.YtljfhabhenaapaaDoorHeaD
import Derived.Test.YtljfhabhenaapaaDoorBitW
namespace Go.Proofs.YtljfhabhenaapaaDoor
set_option maxRecDepth 100000
set_option linter.unusedVariables false
/-- A header in the tree, as numbers. -/
structure Nd where
  h : Hd
  pr : Int
  sk : Nat
  ht : Nat
  wk : Nat
  fl : Bool
def nd0 : Nd := ⟨hd0, -1, 0, 0, 0, false⟩
def ndA (L : List Nd) (i : Nat) : Nd := L.getD i nd0
def parN (L : List Nd) (i : Nat) : Nat := (ndA L i).pr.toNat
def up (L : List Nd) (i : Nat) : Nat → Nat
  | 0 => i
  | k + 1 => up L (parN L i) k
theorem ndA_some {L : List Nd} {i : Nat} {x : Nd} (h : L[i]? = some x) : ndA L i = x := by
  unfold ndA; rw [List.getD_eq_getElem?_getD, h]; rfl
theorem ndA_get {L : List Nd} {i : Nat} (h : i < L.length) : L[i]? = some (ndA L i) := by
  unfold ndA; rw [List.getD_eq_getElem?_getD, List.getElem?_eq_getElem h]; rfl
theorem ndA_mem {L : List Nd} {i : Nat} (h : i < L.length) : ndA L i ∈ L := List.mem_of_getElem? (ndA_get h)
theorem ndA_app {L : List Nd} {x : Nd} {i : Nat} (h : i < L.length) : ndA (L ++ [x]) i = ndA L i := by
  unfold ndA; rw [List.getD_eq_getElem?_getD, List.getD_eq_getElem?_getD, List.getElem?_append_left h]
theorem ndA_last {L : List Nd} {x : Nd} : ndA (L ++ [x]) L.length = x := by
  unfold ndA; rw [List.getD_eq_getElem?_getD]; simp
structure TreeOk (L : List Nd) : Prop where
  pos : 0 < L.length
  g : (ndA L 0).pr = -1 ∧ (ndA L 0).sk = 0 ∧ (ndA L 0).ht = 0 ∧ (ndA L 0).fl = false
  nx : ∀ i, 0 < i → i < L.length → ∃ p : Nat, (ndA L i).pr = (p : Int) ∧ p < i ∧ (ndA L i).ht = (ndA L p).ht + 1 ∧ ((ndA L p).fl = true → (ndA L i).fl = true) ∧ (ndA L i).h.p = hID (ndA L p).h
  skp : ∀ i, 0 < i → i < L.length → ∃ k, 0 < k ∧ k ≤ (ndA L i).ht ∧ (ndA L i).sk = up L i k
  hd : ∀ x ∈ L, IsHd x.h
  ids : ∀ i j, i < L.length → j < L.length → hID (ndA L i).h = hID (ndA L j).h → i = j
  wk : ∀ x ∈ L, x.wk < M256
namespace TreeOk
theorem par_lt {L : List Nd} (T : TreeOk L) {i : Nat} (h0 : 0 < i) (hi : i < L.length) : parN L i < i ∧ (ndA L i).ht = (ndA L (parN L i)).ht + 1 ∧ (ndA L i).pr = (parN L i : Int) ∧ ((ndA L (parN L i)).fl = true → (ndA L i).fl = true) := by
  obtain ⟨p, h1, h2, h3, h4, _⟩ := T.nx i h0 hi
  have : parN L i = p := by unfold parN; rw [h1]; rfl
  rw [this]
  exact ⟨h2, h3, h1, h4⟩
theorem par_le {L : List Nd} (T : TreeOk L) {i : Nat} (hi : i < L.length) : parN L i ≤ i := by
  rcases Nat.eq_zero_or_pos i with rfl | h
  · unfold parN; rw [T.g.1]; exact Nat.le_refl _
  · exact Nat.le_of_lt (T.par_lt h hi).1
theorem ht_pos {L : List Nd} (T : TreeOk L) {i : Nat} (hi : i < L.length) : (0 < (ndA L i).ht) ↔ 0 < i := by
  rcases Nat.eq_zero_or_pos i with rfl | h
  · rw [T.g.2.2.1]
  · have := (T.par_lt h hi).2.1
    omega
theorem ht_le {L : List Nd} (T : TreeOk L) : ∀ {i : Nat}, i < L.length → (ndA L i).ht ≤ i := by
  intro i
  induction i using Nat.strongRecOn with
  | _ i ih =>
    intro hi
    rcases Nat.eq_zero_or_pos i with rfl | h
    · rw [T.g.2.2.1]; exact Nat.le_refl _
    · have h1 := T.par_lt h hi
      have := ih _ h1.1 (Nat.lt_trans h1.1 hi)
      omega
end TreeOk
theorem up_add (L : List Nd) : ∀ (a b i : Nat), up L i (a + b) = up L (up L i a) b
  | 0, b, i => by rw [Nat.zero_add]; rfl
  | a + 1, b, i => by rw [show a + 1 + b = a + b + 1 by omega]; show up L (parN L i) (a + b) = up L (up L (parN L i) a) b; exact up_add L a b _
theorem up_lt {L : List Nd} (T : TreeOk L) : ∀ (k : Nat) {i : Nat}, i < L.length → up L i k < L.length ∧ up L i k ≤ i
  | 0, i, h => ⟨h, Nat.le_refl _⟩
  | k + 1, i, h => by
    have h1 := T.par_le h
    have h2 := up_lt T k (i := parN L i) (Nat.lt_of_le_of_lt h1 h)
    exact ⟨h2.1, Nat.le_trans h2.2 h1⟩
theorem up_ht {L : List Nd} (T : TreeOk L) : ∀ (k : Nat) {i : Nat}, i < L.length → k ≤ (ndA L i).ht → (ndA L (up L i k)).ht = (ndA L i).ht - k
  | 0, i, _, _ => rfl
  | k + 1, i, h, hk => by
    have h0 : 0 < i := (T.ht_pos h).1 (by omega)
    have h1 := T.par_lt h0 h
    have := up_ht T k (i := parN L i) (Nat.lt_trans h1.1 h) (by omega)
    show (ndA L (up L (parN L i) k)).ht = _
    rw [this]; omega
theorem up_app {L : List Nd} {x : Nd} (T : TreeOk L) : ∀ (k : Nat) {i : Nat}, i < L.length → up (L ++ [x]) i k = up L i k
  | 0, _, _ => rfl
  | k + 1, i, h => by
    have h1 : parN (L ++ [x]) i = parN L i := by unfold parN; rw [ndA_app h]
    show up (L ++ [x]) (parN (L ++ [x]) i) k = up L (parN L i) k
    rw [h1]
    exact up_app T k (Nat.lt_of_le_of_lt (T.par_le h) h)
/-- The header of a height on the way to one. -/
def anc (L : List Nd) (i h : Nat) : Nat := up L i ((ndA L i).ht - h)
theorem anc_lt {L : List Nd} (T : TreeOk L) {i h : Nat} (hi : i < L.length) : anc L i h < L.length ∧ anc L i h ≤ i := up_lt T _ hi
theorem anc_ht {L : List Nd} (T : TreeOk L) {i h : Nat} (hi : i < L.length) (hh : h ≤ (ndA L i).ht) : (ndA L (anc L i h)).ht = h := by
  unfold anc; rw [up_ht T _ hi (by omega)]; omega
theorem anc_self {L : List Nd} {i : Nat} : anc L i (ndA L i).ht = i := by unfold anc; rw [Nat.sub_self]; rfl
theorem anc_up {L : List Nd} (T : TreeOk L) {i k h : Nat} (hi : i < L.length) (hk : k ≤ (ndA L i).ht) (hh : h ≤ (ndA L i).ht - k) : anc L (up L i k) h = anc L i h := by
  unfold anc
  rw [up_ht T k hi hk, ← up_add]
  congr 1
  omega
theorem anc_par {L : List Nd} (T : TreeOk L) {i h : Nat} (h0 : 0 < i) (hi : i < L.length) (hh : h < (ndA L i).ht) : anc L (parN L i) h = anc L i h :=
  anc_up T (k := 1) hi (by omega) (by omega)
theorem anc_anc {L : List Nd} (T : TreeOk L) {i a b : Nat} (hi : i < L.length) (ha : a ≤ (ndA L i).ht) (hb : b ≤ a) : anc L (anc L i a) b = anc L i b := by
  show anc L (up L i _) b = _
  exact anc_up T hi (by omega) (by omega)
theorem anc_zero {L : List Nd} (T : TreeOk L) {i : Nat} (hi : i < L.length) : anc L i 0 = 0 := by
  have h1 := anc_ht T (h := 0) hi (Nat.zero_le _)
  have h2 := anc_lt T (h := 0) hi
  rcases Nat.eq_zero_or_pos (anc L i 0) with h | h
  · exact h
  · have := (T.ht_pos h2.1).2 h; omega
/-- What the tree answers: the header of a height on the way to one, or -1. -/
def ancI (L : List Nd) (i h : Int) : Int := if 0 ≤ i ∧ i < L.length ∧ 0 ≤ h ∧ h ≤ ((ndA L i.toNat).ht : Int) then (anc L i.toNat h.toNat : Int) else -1
def onB (L : List Nd) (i tip : Int) : Bool := decide (0 ≤ i ∧ i < L.length) && decide (ancI L tip ((ndA L i.toNat).ht : Int) = i)
theorem anc_app {L : List Nd} {x : Nd} (T : TreeOk L) {i h : Nat} (hi : i < L.length) : anc (L ++ [x]) i h = anc L i h := by
  unfold anc; rw [ndA_app hi, up_app T _ hi]
/-- The number of a name, or none. -/
def findI (L : List Nd) (d : List Nat) : Option Nat := L.findIdx? fun x => decide (hID x.h = d)
theorem findI_some {L : List Nd} {d : List Nat} {i : Nat} (h : findI L d = some i) : i < L.length ∧ hID (ndA L i).h = d := by
  obtain ⟨h1, h2, _⟩ := List.findIdx?_eq_some_iff_getElem.1 h
  refine ⟨h1, ?_⟩
  have : ndA L i = L[i] := ndA_some (List.getElem?_eq_getElem h1)
  rw [this]
  simpa using h2
theorem findI_none {L : List Nd} {d : List Nat} (h : findI L d = none) : ∀ x ∈ L, hID x.h ≠ d := by
  intro x hx e
  have := List.findIdx?_eq_none_iff.1 h x hx
  simp [e] at this
theorem findI_at {L : List Nd} (T : TreeOk L) {d : List Nat} {i : Nat} (hi : i < L.length) (he : hID (ndA L i).h = d) : findI L d = some i := by
  cases h : findI L d with
  | none => exact absurd he (findI_none h _ (ndA_mem hi))
  | some j =>
    obtain ⟨h1, h2⟩ := findI_some h
    rw [T.ids j i h1 hi (h2.trans he.symm)]
theorem findI_app {L : List Nd} {x : Nd} {d : List Nat} (hx : findI L (hID x.h) = none) : findI (L ++ [x]) d = if d = hID x.h then some L.length else findI L d := by
  unfold findI at *
  rw [List.findIdx?_append]
  by_cases e : d = hID x.h
  · subst e
    rw [if_pos rfl, hx]
    simp
  · rw [if_neg e]
    cases h : List.findIdx? (fun x => decide (hID x.h = d)) L with
    | some j => rfl
    | none => simp [Ne.symm e]
/-- Where one behind p leads back to at once. -/
def skipN (L : List Nd) (p : Nat) : Nat :=
  if ((ndA L p).ht : Int) - ((ndA L (ndA L p).sk).ht : Int) = ((ndA L (ndA L p).sk).ht : Int) - ((ndA L (ndA L (ndA L p).sk).sk).ht : Int) then (ndA L (ndA L p).sk).sk else p
theorem TreeOk.skUp {L : List Nd} (T : TreeOk L) {i : Nat} (hi : i < L.length) : ∃ k, k ≤ (ndA L i).ht ∧ (ndA L i).sk = up L i k ∧ (0 < i → 0 < k) := by
  rcases Nat.eq_zero_or_pos i with rfl | h
  · exact ⟨0, Nat.zero_le _, by rw [T.g.2.1]; rfl, fun h => absurd h (Nat.lt_irrefl _)⟩
  · obtain ⟨k, h1, h2, h3⟩ := T.skp i h hi
    exact ⟨k, h2, h3, fun _ => h1⟩
theorem TreeOk.sk_lt {L : List Nd} (T : TreeOk L) {i : Nat} (hi : i < L.length) : (ndA L i).sk < L.length ∧ (ndA L i).sk ≤ i := by
  obtain ⟨k, _, h, _⟩ := T.skUp hi
  rw [h]
  exact up_lt T k hi
theorem skipN_up {L : List Nd} (T : TreeOk L) {p : Nat} (hp : p < L.length) : ∃ k, k ≤ (ndA L p).ht ∧ skipN L p = up L p k := by
  unfold skipN
  split
  · obtain ⟨a, h1, h2, _⟩ := T.skUp hp
    have hn := T.sk_lt hp
    obtain ⟨b, h3, h4, _⟩ := T.skUp hn.1
    refine ⟨a + b, ?_, ?_⟩
    · rw [h2, up_ht T a hp h1] at h3; omega
    · rw [up_add, ← h2, ← h4]
  · exact ⟨0, Nat.zero_le _, rfl⟩
def childN (L : List Nd) (h : Hd) (p wk : Nat) : Nd := ⟨h, (p : Int), skipN L p, (ndA L p).ht + 1, wk, false⟩
theorem par_app {L : List Nd} {x : Nd} {i : Nat} (h : i < L.length) : parN (L ++ [x]) i = parN L i := by unfold parN; rw [ndA_app h]
theorem TreeOk.add {L : List Nd} (T : TreeOk L) {h : Hd} {p wk : Nat} (hh : IsHd h) (hn : findI L (hID h) = none) (hp : p < L.length) (hpp : h.p = hID (ndA L p).h) (hf : (ndA L p).fl = false) (hw : wk < M256) : TreeOk (L ++ [childN L h p wk]) := by
  have hl : (L ++ [childN L h p wk]).length = L.length + 1 := by simp
  have h0 := T.pos
  have new : ∀ j, j < L.length → hID (ndA L j).h ≠ hID h := fun j hj => findI_none hn _ (ndA_mem hj)
  refine ⟨by omega, by rw [ndA_app h0]; exact T.g, ?_, ?_, ?_, ?_, ?_⟩
  · intro i hi hil
    rcases Nat.lt_or_ge i L.length with hi' | hi'
    · obtain ⟨q, a, b, c, d, e⟩ := T.nx i hi hi'
      have hq : q < L.length := Nat.lt_trans b hi'
      refine ⟨q, ?_, b, ?_, ?_, ?_⟩ <;> rw [ndA_app hi'] <;> try rw [ndA_app hq]
      · exact a
      · exact c
      · exact d
      · exact e
    · obtain rfl : i = L.length := by omega
      refine ⟨p, ?_, hp, ?_, ?_, ?_⟩ <;> rw [ndA_last] <;> try rw [ndA_app hp]
      · rfl
      · rfl
      · intro e; rw [hf] at e; cases e
      · exact hpp
  · intro i hi hil
    rcases Nat.lt_or_ge i L.length with hi' | hi'
    · obtain ⟨k, a, b, c⟩ := T.skp i hi hi'
      exact ⟨k, a, by rw [ndA_app hi']; exact b, by rw [ndA_app hi', up_app T k hi']; exact c⟩
    · obtain rfl : i = L.length := by omega
      obtain ⟨k, a, b⟩ := skipN_up T hp
      refine ⟨k + 1, by omega, by rw [ndA_last]; show _ ≤ (ndA L p).ht + 1; omega, ?_⟩
      rw [ndA_last]
      show skipN L p = up _ (parN _ _) k
      have : parN (L ++ [childN L h p wk]) L.length = p := by unfold parN; rw [ndA_last]; rfl
      rw [this, up_app T k hp, b]
  · intro x hx
    rcases List.mem_append.1 hx with h1 | h1
    · exact T.hd x h1
    · rw [List.mem_singleton.1 h1]; exact hh
  · intro i j hi hj e
    rcases Nat.lt_or_ge i L.length with hi' | hi' <;> rcases Nat.lt_or_ge j L.length with hj' | hj'
    · rw [ndA_app hi', ndA_app hj'] at e; exact T.ids i j hi' hj' e
    · obtain rfl : j = L.length := by omega
      rw [ndA_app hi', ndA_last] at e
      exact absurd e (new i hi')
    · obtain rfl : i = L.length := by omega
      rw [ndA_app hj', ndA_last] at e
      exact absurd e.symm (new j hj')
    · omega
  · intro x hx
    rcases List.mem_append.1 hx with h1 | h1
    · exact T.wk x h1
    · rw [List.mem_singleton.1 h1]; exact hw
/-- Of the last times: up to eleven, from a header back. -/
def timesN (L : List Nd) : Nat → Nat → List Nat
  | 0, _ => []
  | n + 1, i => (ndA L i).h.t :: (if (ndA L i).pr < 0 then [] else timesN L n (parN L i))
def midN (l : List Nat) : Nat := (l.mergeSort (fun a b => decide (a ≤ b))).getD (l.length / 2) 0
def medN (L : List Nd) (i : Nat) : Nat := midN (timesN L 11 i)
theorem timesN_ne (L : List Nd) (n i : Nat) : 0 < (timesN L (n + 1) i).length := by unfold timesN; simp
theorem timesN_le (L : List Nd) : ∀ n i, (timesN L n i).length ≤ n
  | 0, _ => Nat.le_refl _
  | n + 1, i => by
    unfold timesN
    rw [List.length_cons]
    split
    · simp
    · have := timesN_le L n (parN L i); omega
theorem midN_mem {l : List Nat} (h : 0 < l.length) : midN l ∈ l := by
  unfold midN
  have hl : (l.mergeSort (fun a b => decide (a ≤ b))).length = l.length := List.length_mergeSort l
  have hi : l.length / 2 < (l.mergeSort (fun a b => decide (a ≤ b))).length := by rw [hl]; omega
  rw [List.getD_eq_getElem?_getD, List.getElem?_eq_getElem hi]
  exact (List.mergeSort_perm l _).mem_iff.1 (List.getElem_mem hi)
/-- A sorted row of the same numbers is the one that is meant. -/
theorem sorted_mid {l s : List Nat} (hp : s.Perm l) (hs : s.Pairwise (· ≤ ·)) : s.getD (l.length / 2) 0 = midN l := by
  unfold midN
  have : s = l.mergeSort (fun a b => decide (a ≤ b)) := by
    refine List.Perm.eq_of_pairwise (le := fun a b => a ≤ b) (fun a b _ _ h1 h2 => Nat.le_antisymm h1 h2) hs ?_ (hp.trans (List.mergeSort_perm l _).symm)
    have := List.pairwise_mergeSort (le := fun a b => decide (a ≤ b)) (fun a b c h1 h2 => by simp at *; omega) (fun a b => by simp; omega) l
    exact this.imp (fun h => by simpa using h)
  rw [this]
theorem timesN_app {L : List Nd} {x : Nd} (T : TreeOk L) : ∀ n {i : Nat}, i < L.length → timesN (L ++ [x]) n i = timesN L n i
  | 0, _, _ => rfl
  | n + 1, i, h => by
    unfold timesN
    rw [ndA_app h, par_app h, timesN_app T n (Nat.lt_of_le_of_lt (T.par_le h) h)]
/-- May a header stand behind the p-th, by rules of which the bits never change? -/
def fitsV (L : List Nd) (lim : Nat) (h : Hd) (p now : Int) : Nat :=
  if ¬ (0 ≤ p ∧ p < L.length) then 100
  else if provV h lim ≠ 0 then provV h lim
  else if (ndA L p.toNat).fl = true then 101
  else if h.b ≠ (ndA L p.toNat).h.b then 30
  else if h.t ≤ medN L p.toNat then 102
  else if now < (h.t : Int) - 7200 then 103
  else 0
def workN (h : Hd) : Nat := workV (tgtV h.b)
/-- A header comes: the tree then, its number, the error's number. -/
def addF (L : List Nd) (lim : Nat) (h : Hd) (now : Int) : List Nd × Int × Nat :=
  match findI L (hID h) with
  | some i => (L, (i : Int), 5)
  | none => match findI L h.p with
    | none => (L, -1, 100)
    | some p =>
      if fitsV L lim h (p : Int) now ≠ 0 then (L, -1, fitsV L lim h (p : Int) now)
      else if 16384 ≤ L.length then (L, -1, 3)
      else (L ++ [childN L h p (((ndA L p).wk + workN h) % M256)], (L.length : Int), 0)
theorem addF_ok {L : List Nd} (T : TreeOk L) {lim : Nat} {h : Hd} (hh : IsHd h) (now : Int) : TreeOk (addF L lim h now).1 := by
  unfold addF
  cases h1 : findI L (hID h) with
  | some i => exact T
  | none =>
    cases h2 : findI L h.p with
    | none => exact T
    | some p =>
      obtain ⟨hp, he⟩ := findI_some h2
      show TreeOk (if _ then _ else _ : List Nd × Int × Nat).1
      split
      · exact T
      · rename_i hf
        split
        · exact T
        · refine T.add hh h1 hp he.symm ?_ (Nat.mod_lt _ (by decide))
          have hf : fitsV L lim h (p : Int) now = 0 := Classical.not_not.1 hf
          unfold fitsV at hf
          rw [if_neg (Classical.not_not.2 ⟨by omega, by omega⟩)] at hf
          split at hf
          · rename_i a; exact absurd hf a
          · split at hf
            · cases hf
            · rename_i b; simpa using b
/-- What fails with the i-th. -/
def failL (L : List Nd) (i : Int) : List Nd := if 0 < i ∧ i < L.length then L.mapIdx fun j x => { x with fl := x.fl || onB L i (j : Int) } else L
theorem onB_nat {L : List Nd} (T : TreeOk L) {i j : Nat} (hi : i < L.length) (hj : j < L.length) : onB L (i : Int) (j : Int) = decide ((ndA L i).ht ≤ (ndA L j).ht ∧ anc L j (ndA L i).ht = i) := by
  unfold onB ancI
  rw [Int.toNat_natCast]
  have h1 : decide (0 ≤ (i : Int) ∧ (i : Int) < (L.length : Int)) = true := decide_eq_true ⟨by omega, by omega⟩
  rw [h1, Bool.true_and]
  by_cases h : (ndA L i).ht ≤ (ndA L j).ht
  · rw [if_pos ⟨by omega, by omega, by omega, by rw [Int.toNat_natCast]; omega⟩, Int.toNat_natCast, Int.toNat_natCast]
    have : ((anc L j (ndA L i).ht : Int) = (i : Int)) ↔ ((ndA L i).ht ≤ (ndA L j).ht ∧ anc L j (ndA L i).ht = i) := by
      constructor
      · intro e; exact ⟨h, by omega⟩
      · intro e; rw [e.2]
    simp only [this]
  · rw [if_neg (fun hc => h (by have := hc.2.2.2; rw [Int.toNat_natCast] at this; omega))]
    rw [decide_eq_false (by omega), decide_eq_false (fun hc => h hc.1)]
theorem on_le {L : List Nd} (T : TreeOk L) {i j : Nat} (hi : i < L.length) (hj : j < L.length) (h : onB L (i : Int) (j : Int) = true) : i ≤ j := by
  rw [onB_nat T hi hj] at h
  have := (of_decide_eq_true h).2
  have := (anc_lt T (h := (ndA L i).ht) hj).2
  omega
theorem on_self {L : List Nd} (T : TreeOk L) {i : Nat} (hi : i < L.length) : onB L (i : Int) (i : Int) = true := by
  rw [onB_nat T hi hi]
  exact decide_eq_true ⟨Nat.le_refl _, anc_self⟩
theorem on_zero {L : List Nd} (T : TreeOk L) {j : Nat} (hj : j < L.length) : onB L 0 (j : Int) = true := by
  have := onB_nat T (i := 0) (j := j) T.pos hj
  rw [show ((0 : Nat) : Int) = 0 by rfl] at this
  rw [this, T.g.2.2.1]
  exact decide_eq_true ⟨Nat.zero_le _, anc_zero T hj⟩
theorem on_step {L : List Nd} (T : TreeOk L) {i j : Nat} (hi : i < L.length) (h0 : 0 < j) (hj : j < L.length) (hne : j ≠ i) : onB L (i : Int) (j : Int) = onB L (i : Int) (parN L j : Int) := by
  have hp := T.par_lt h0 hj
  have hpl : parN L j < L.length := Nat.lt_trans hp.1 hj
  rw [onB_nat T hi hj, onB_nat T hi hpl]
  by_cases h : (ndA L i).ht ≤ (ndA L (parN L j)).ht
  · rw [anc_par T h0 hj (by omega)]
    exact decide_eq_decide.2 ⟨fun hc => ⟨h, hc.2⟩, fun hc => ⟨by omega, hc.2⟩⟩
  · have e1 : decide ((ndA L i).ht ≤ (ndA L (parN L j)).ht ∧ anc L (parN L j) (ndA L i).ht = i) = false := decide_eq_false (fun hc => h hc.1)
    rw [e1]
    refine decide_eq_false ?_
    rintro ⟨h1, h2⟩
    have e2 : (ndA L i).ht = (ndA L j).ht := by omega
    rw [e2, anc_self] at h2
    exact hne h2
/-- Of those up to n-th that hadn't failed yet, those behind the i-th have failed. -/
def failTo (L : List Nd) (i n : Nat) : List Nd := L.mapIdx fun j x => if j < n then { x with fl := x.fl || onB L (i : Int) (j : Int) } else x
theorem failTo_len (L : List Nd) (i n : Nat) : (failTo L i n).length = L.length := by unfold failTo; simp
theorem failTo_get {L : List Nd} {i n j : Nat} (hj : j < L.length) : ndA (failTo L i n) j = if j < n then { ndA L j with fl := (ndA L j).fl || onB L (i : Int) (j : Int) } else ndA L j := by
  apply ndA_some
  unfold failTo
  rw [List.getElem?_mapIdx, ndA_get hj]
  rfl
theorem failTo_start {L : List Nd} (T : TreeOk L) {i : Nat} (hi : i < L.length) : failTo L i i = L := by
  apply List.ext_getElem?
  intro j
  rcases Nat.lt_or_ge j L.length with hj | hj
  · have h1 : j < (failTo L i i).length := by rw [failTo_len]; exact hj
    rw [ndA_get h1, ndA_get hj, failTo_get hj]
    split
    · rename_i h
      have : onB L (i : Int) (j : Int) = false := by
        cases e : onB L (i : Int) (j : Int) with
        | false => rfl
        | true => have := on_le T hi hj e; omega
      rw [this, Bool.or_false]
    · rfl
  · rw [List.getElem?_eq_none (by rw [failTo_len]; exact hj), List.getElem?_eq_none hj]
theorem failTo_succ {L : List Nd} {i n : Nat} (hn : n < L.length) : failTo L i (n + 1) = (failTo L i n).set n { ndA L n with fl := (ndA L n).fl || onB L (i : Int) (n : Int) } := by
  apply List.ext_getElem?
  intro j
  rcases Nat.lt_or_ge j L.length with hj | hj
  · have h1 : j < (failTo L i (n + 1)).length := by rw [failTo_len]; exact hj
    rw [ndA_get h1, failTo_get hj, List.getElem?_set]
    have h2 : j < (failTo L i n).length := by rw [failTo_len]; exact hj
    by_cases e : n = j
    · subst e
      rw [if_pos rfl, if_pos h2, if_pos (by omega)]
    · rw [if_neg e, ndA_get h2, failTo_get hj]
      by_cases h : j < n
      · rw [if_pos h, if_pos (by omega)]
      · rw [if_neg h, if_neg (by omega)]
  · rw [List.getElem?_eq_none (by rw [failTo_len]; exact hj), List.getElem?_eq_none (by rw [List.length_set, failTo_len]; exact hj)]
theorem mapFl_ok {L M : List Nd} (T : TreeOk L) (hl : M.length = L.length) (hx : ∀ j, j < L.length → ∃ b, ndA M j = { ndA L j with fl := b }) (h0 : (ndA M 0).fl = false) (hm : ∀ j, 0 < j → j < L.length → (ndA M (parN L j)).fl = true → (ndA M j).fl = true) : TreeOk M := by
  have hpar : ∀ j, j < L.length → parN M j = parN L j := fun j hj => by
    obtain ⟨b, e⟩ := hx j hj
    unfold parN; rw [e]
  have hup : ∀ k j, j < L.length → up M j k = up L j k := by
    intro k
    induction k with
    | zero => intro j _; rfl
    | succ k ih =>
      intro j hj
      show up M (parN M j) k = up L (parN L j) k
      rw [hpar j hj]
      exact ih _ (Nat.lt_of_le_of_lt (T.par_le hj) hj)
  refine ⟨by have := T.pos; omega, ?_, ?_, ?_, ?_, ?_, ?_⟩
  · obtain ⟨b, e⟩ := hx 0 T.pos
    refine ⟨?_, ?_, ?_, h0⟩ <;> rw [e]
    · exact T.g.1
    · exact T.g.2.1
    · exact T.g.2.2.1
  · intro j hj0 hj
    rw [hl] at hj
    have hp := T.par_lt hj0 hj
    obtain ⟨p, a, b, c, d, f⟩ := T.nx j hj0 hj
    have ep : parN L j = p := by unfold parN; rw [a]; rfl
    obtain ⟨b1, e1⟩ := hx j hj
    obtain ⟨b2, e2⟩ := hx p (Nat.lt_trans b hj)
    refine ⟨p, by rw [e1]; exact a, b, by rw [e1, e2]; exact c, ?_, by rw [e1, e2]; exact f⟩
    have := hm j hj0 hj
    rw [ep] at this
    exact this
  · intro j hj0 hj
    rw [hl] at hj
    obtain ⟨k, a, b, c⟩ := T.skp j hj0 hj
    obtain ⟨b1, e1⟩ := hx j hj
    exact ⟨k, a, by rw [e1]; exact b, by rw [hup k j hj, e1]; exact c⟩
  · intro x hx'
    obtain ⟨j, hj, rfl⟩ := List.getElem_of_mem hx'
    rw [hl] at hj
    obtain ⟨b1, e1⟩ := hx j hj
    have : ndA M j = M[j] := ndA_some (List.getElem?_eq_getElem _)
    rw [← this, e1]
    exact T.hd (ndA L j) (ndA_mem hj)
  · intro i j hi hj e
    rw [hl] at hi hj
    obtain ⟨b1, e1⟩ := hx i hi
    obtain ⟨b2, e2⟩ := hx j hj
    rw [e1, e2] at e
    exact T.ids i j hi hj e
  · intro x hx'
    obtain ⟨j, hj, rfl⟩ := List.getElem_of_mem hx'
    rw [hl] at hj
    obtain ⟨b1, e1⟩ := hx j hj
    have : ndA M j = M[j] := ndA_some (List.getElem?_eq_getElem _)
    rw [← this, e1]
    exact T.wk (ndA L j) (ndA_mem hj)
theorem failTo_all {L : List Nd} (T : TreeOk L) {i : Nat} (h0 : 0 < i) (hi : i < L.length) : TreeOk (failTo L i L.length) := by
  refine mapFl_ok T (failTo_len _ _ _) (fun j hj => ⟨_, by rw [failTo_get hj, if_pos hj]⟩) ?_ ?_
  · rw [failTo_get T.pos, if_pos T.pos, T.g.2.2.2]
    show (false || onB L (i : Int) ((0 : Nat) : Int)) = false
    rw [Bool.false_or]
    cases e : onB L (i : Int) ((0 : Nat) : Int) with
    | false => rfl
    | true => have := on_le T hi T.pos e; omega
  · intro j hj0 hj
    have hp := T.par_lt hj0 hj
    rw [failTo_get hj, if_pos hj, failTo_get (Nat.lt_trans hp.1 hj), if_pos (Nat.lt_trans hp.1 hj)]
    show ((ndA L (parN L j)).fl || onB L (i : Int) (parN L j : Int)) = true → ((ndA L j).fl || onB L (i : Int) (j : Int)) = true
    intro h
    rw [Bool.or_eq_true] at h
    rcases h with h | h
    · rw [hp.2.2.2 h]; rfl
    · by_cases e : j = i
      · subst e; rw [on_self T hj, Bool.or_true]
      · rw [on_step T hi hj0 hj e, h, Bool.or_true]
/-- How many fail that hadn't yet. -/
def failN (L : List Nd) (i n : Nat) : Nat := (List.range n).countP fun j => !(ndA L j).fl && onB L (i : Int) (j : Int)
theorem failN_succ (L : List Nd) (i n : Nat) : failN L i (n + 1) = failN L i n + if (!(ndA L n).fl && onB L (i : Int) (n : Int)) = true then 1 else 0 := by
  unfold failN
  rw [List.range_succ, List.countP_append, List.countP_singleton]
theorem failN_start {L : List Nd} (T : TreeOk L) {i : Nat} (hi : i < L.length) : failN L i i = 0 := by
  unfold failN
  rw [List.countP_eq_zero]
  intro j hj
  have hj : j < i := List.mem_range.1 hj
  have : onB L (i : Int) (j : Int) = false := by
    cases e : onB L (i : Int) (j : Int) with
    | false => rfl
    | true => have := on_le T hi (Nat.lt_trans hj hi) e; omega
  rw [this, Bool.and_false]
  decide
/-- The loop's own question: has this one, or the one ahead of it, failed by now? -/
theorem failTo_ask {L : List Nd} (T : TreeOk L) {i n : Nat} (h0 : 0 < i) (hi : i < L.length) (hin : i ≤ n) (hn : n < L.length) :
    (!(ndA (failTo L i n) n).fl && (decide (n = i) || (ndA (failTo L i n) (parN L n)).fl)) = (!(ndA L n).fl && onB L (i : Int) (n : Int)) := by
  have hp := T.par_lt (by omega : 0 < n) hn
  rw [failTo_get hn, if_neg (Nat.lt_irrefl _), failTo_get (Nat.lt_trans hp.1 hn), if_pos hp.1]
  show (!(ndA L n).fl && (decide (n = i) || ((ndA L (parN L n)).fl || onB L (i : Int) (parN L n : Int)))) = _
  cases hf : (ndA L n).fl with
  | true => rfl
  | false =>
    have hpf : (ndA L (parN L n)).fl = false := by
      cases e : (ndA L (parN L n)).fl with
      | false => rfl
      | true => have := hp.2.2.2 e; rw [hf] at this; cases this
    rw [hpf, Bool.false_or]
    by_cases e : n = i
    · subst e; rw [on_self T hn]; simp
    · rw [on_step T hi (by omega) hn e, decide_eq_false e, Bool.false_or]
theorem timesN_mem {L : List Nd} (T : TreeOk L) : ∀ n {i : Nat}, i < L.length → ∀ x ∈ timesN L n i, ∃ j, j ≤ i ∧ j < L.length ∧ x = (ndA L j).h.t
  | 0, _, _, x, hx => by cases hx
  | n + 1, i, h, x, hx => by
    unfold timesN at hx
    rcases List.mem_cons.1 hx with rfl | hx
    · exact ⟨i, Nat.le_refl _, h, rfl⟩
    · split at hx
      · cases hx
      · have hp := T.par_le h
        obtain ⟨j, h1, h2, h3⟩ := timesN_mem T n (Nat.lt_of_le_of_lt hp h) x hx
        exact ⟨j, Nat.le_trans h1 hp, h2, h3⟩
theorem medN_mem {L : List Nd} (T : TreeOk L) {i : Nat} (h : i < L.length) : ∃ j, j ≤ i ∧ j < L.length ∧ medN L i = (ndA L j).h.t :=
  timesN_mem T 11 h _ (midN_mem (timesN_ne L 10 i))
theorem fitsV_good {L : List Nd} {lim p : Nat} {h : Hd} {now : Int} (hp : p < L.length) (hv : provV h lim = 0) (hf : (ndA L p).fl = false) (hb : h.b = (ndA L p).h.b) (hm : medN L p < h.t) (hn : (h.t : Int) - 7200 ≤ now) : fitsV L lim h (p : Int) now = 0 := by
  unfold fitsV
  rw [if_neg (Classical.not_not.2 ⟨by omega, by omega⟩), if_neg (by simp [hv]), Int.toNat_natCast, if_neg (by simp [hf]), if_neg (by simp [hb]), if_neg (by omega), if_neg (by omega)]
theorem addF_good {L : List Nd} {lim p : Nat} {h : Hd} {now : Int} (h1 : findI L (hID h) = none) (h2 : findI L h.p = some p) (hf : fitsV L lim h (p : Int) now = 0) (hl : L.length < 16384) : addF L lim h now = (L ++ [childN L h p (((ndA L p).wk + workN h) % M256)], (L.length : Int), 0) := by
  unfold addF
  rw [h1]
  show (match findI L h.p with | none => _ | some p => _) = _
  rw [h2]
  show (if _ then _ else _) = _
  rw [if_neg (by simp [hf]), if_neg (by omega)]
/-- A way of n headers behind the genesis, a second apart. -/
structure LinT (L : List Nd) (n : Nat) : Prop where
  ok : TreeOk L
  len : L.length = n + 1
  ht : ∀ j, j ≤ n → (ndA L j).ht = j
  t : ∀ j, j ≤ n → (ndA L j).h.t = j
  b : ∀ j, j ≤ n → (ndA L j).h.b = 545259519
  fl : ∀ j, j ≤ n → (ndA L j).fl = false
  pr : ∀ j, j ≤ n → 0 < j → parN L j = j - 1
theorem LinT.up {L : List Nd} {n : Nat} (H : LinT L n) : ∀ k {i : Nat}, i ≤ n → k ≤ i → up L i k = i - k
  | 0, _, _, _ => rfl
  | k + 1, i, h1, h2 => by
    show Go.Proofs.YtljfhabhenaapaaDoor.up L (parN L i) k = _
    rw [H.pr i h1 (by omega), H.up k (by omega) (by omega)]
    omega
theorem LinT.anc {L : List Nd} {n : Nat} (H : LinT L n) {i h : Nat} (hi : i ≤ n) (hh : h ≤ i) : anc L i h = h := by
  show Go.Proofs.YtljfhabhenaapaaDoor.up L i ((ndA L i).ht - h) = h
  rw [H.ht i hi, H.up _ hi (by omega)]
  omega
theorem LinT.ancI {L : List Nd} {n : Nat} (H : LinT L n) {i : Nat} (hi : i ≤ n) (h : Int) : ancI L (i : Int) h = if h < 0 ∨ (i : Int) < h then -1 else h := by
  have hl := H.len
  unfold Go.Proofs.YtljfhabhenaapaaDoor.ancI
  rw [Int.toNat_natCast, H.ht i hi]
  by_cases e : h < 0 ∨ (i : Int) < h
  · rw [if_pos e, if_neg (by omega)]
  · rw [if_neg e, if_pos ⟨by omega, by omega, by omega, by omega⟩, H.anc hi (by omega)]
    omega
theorem LinT.onB {L : List Nd} {n : Nat} (H : LinT L n) {i : Nat} (hi : i ≤ n) (h : Int) : onB L h (i : Int) = decide (0 ≤ h ∧ h ≤ (i : Int)) := by
  have hl := H.len
  unfold Go.Proofs.YtljfhabhenaapaaDoor.onB
  by_cases e : 0 ≤ h ∧ h ≤ (i : Int)
  · rw [decide_eq_true e, decide_eq_true ⟨by omega, by omega⟩, Bool.true_and, H.ht h.toNat (by omega), H.ancI hi, if_neg (by omega)]
    exact decide_eq_true (by omega)
  · rw [decide_eq_false e]
    by_cases e2 : 0 ≤ h ∧ h < (L.length : Int)
    · rw [decide_eq_true e2, Bool.true_and, H.ht h.toNat (by omega), H.ancI hi, if_pos (by omega)]
      exact decide_eq_false (by omega)
    · rw [decide_eq_false e2, Bool.false_and]
theorem LinT.next {L : List Nd} {n : Nat} (H : LinT L n) (hn : n < 40) {h : Hd} (hh : IsHd h) (hp : h.p = hID (ndA L n).h) (ht : h.t = n + 1) (hb : h.b = 545259519) (hv : provV h 545259519 = 0) :
    (findI L (hID h) ≠ none ∧ (addF L 545259519 h 1000).2.2 = 5) ∨ ((addF L 545259519 h 1000).2 = (((n + 1 : Nat) : Int), 0) ∧ LinT (addF L 545259519 h 1000).1 (n + 1)) := by
  have hl := H.len
  cases h1 : findI L (hID h) with
  | some i =>
    refine .inl ⟨(fun e => by cases e), ?_⟩
    unfold addF
    rw [h1]
  | none =>
    right
    have h2 : findI L h.p = some n := findI_at H.ok (by omega) hp.symm
    obtain ⟨j, j1, j2, j3⟩ := medN_mem H.ok (i := n) (by omega)
    rw [H.t j j1] at j3
    have hA := addF_good (lim := 545259519) (now := 1000) h1 h2 (fitsV_good (by omega) hv (H.fl n (Nat.le_refl _)) (by rw [hb, H.b n (Nat.le_refl _)]) (by omega) (by omega)) (by omega)
    have hT := addF_ok H.ok (lim := 545259519) hh 1000
    rw [hA] at hT ⊢
    refine ⟨by rw [hl], hT, by simp [hl], ?_, ?_, ?_, ?_, ?_⟩ <;> intro j hj
    all_goals rcases Nat.lt_or_ge j (n + 1) with hj' | hj'
    · rw [ndA_app (by omega)]; exact H.ht j (by omega)
    · rw [show j = L.length by omega, ndA_last]; show (ndA L n).ht + 1 = _; rw [H.ht n (Nat.le_refl _), hl]
    · rw [ndA_app (by omega)]; exact H.t j (by omega)
    · rw [show j = L.length by omega, ndA_last]; show h.t = _; rw [ht, hl]
    · rw [ndA_app (by omega)]; exact H.b j (by omega)
    · rw [show j = L.length by omega, ndA_last]; exact hb
    · rw [ndA_app (by omega)]; exact H.fl j (by omega)
    · rw [show j = L.length by omega, ndA_last]; rfl
    · intro h0; rw [par_app (by omega)]; exact H.pr j (by omega) h0
    · intro h0
      rw [show j = L.length by omega]
      unfold parN
      rw [ndA_last]
      show ((n : Nat) : Int).toNat = _
      omega
/-- The same tree, but for what has failed. -/
structure Shape (L M : List Nd) : Prop where
  len : M.length = L.length
  at_ : ∀ j, j < L.length → ∃ b, ndA M j = { ndA L j with fl := b }
theorem Shape.par {L M : List Nd} (h : Shape L M) {j : Nat} (hj : j < L.length) : parN M j = parN L j := by
  obtain ⟨b, e⟩ := h.at_ j hj
  unfold parN; rw [e]
theorem Shape.ht {L M : List Nd} (h : Shape L M) {j : Nat} (hj : j < L.length) : (ndA M j).ht = (ndA L j).ht := by
  obtain ⟨b, e⟩ := h.at_ j hj
  rw [e]
theorem Shape.up {L M : List Nd} (h : Shape L M) (T : TreeOk L) : ∀ k {j : Nat}, j < L.length → up M j k = up L j k
  | 0, _, _ => rfl
  | k + 1, j, hj => by
    show Go.Proofs.YtljfhabhenaapaaDoor.up M (parN M j) k = Go.Proofs.YtljfhabhenaapaaDoor.up L (parN L j) k
    rw [h.par hj]
    exact h.up T k (Nat.lt_of_le_of_lt (T.par_le hj) hj)
theorem Shape.anc {L M : List Nd} (h : Shape L M) (T : TreeOk L) {j : Nat} (hj : j < L.length) (a : Nat) : anc M j a = anc L j a := by
  unfold Go.Proofs.YtljfhabhenaapaaDoor.anc
  rw [h.ht hj, h.up T _ hj]
theorem Shape.ancI {L M : List Nd} (h : Shape L M) (T : TreeOk L) (j a : Int) : ancI M j a = ancI L j a := by
  unfold Go.Proofs.YtljfhabhenaapaaDoor.ancI
  rw [h.len]
  by_cases hj : 0 ≤ j ∧ j < (L.length : Int)
  · rw [h.ht (j := j.toNat) (by omega), h.anc T (by omega)]
  · rw [if_neg (fun hc => hj ⟨hc.1, hc.2.1⟩), if_neg (fun hc => hj ⟨hc.1, hc.2.1⟩)]
theorem Shape.onB {L M : List Nd} (h : Shape L M) (T : TreeOk L) (i j : Int) : onB M i j = onB L i j := by
  unfold Go.Proofs.YtljfhabhenaapaaDoor.onB
  rw [h.len, h.ancI T]
  by_cases hi : 0 ≤ i ∧ i < (L.length : Int)
  · rw [h.ht (j := i.toNat) (by omega)]
  · rw [decide_eq_false hi, Bool.false_and, Bool.false_and]
theorem failTo_shape (L : List Nd) (i : Nat) : Shape L (failTo L i L.length) := ⟨failTo_len _ _ _, fun j hj => ⟨_, by rw [failTo_get hj, if_pos hj]⟩⟩
/-- Nothing has failed. -/
def Sound (L : List Nd) : Prop := ∀ j, j < L.length → (ndA L j).fl = false
theorem Sound.add {L : List Nd} (h : Sound L) (lim : Nat) (x : Hd) (now : Int) : Sound (addF L lim x now).1 ∧ L.length ≤ (addF L lim x now).1.length ∧ (addF L lim x now).1.length ≤ L.length + 1 := by
  unfold addF
  cases findI L (hID x) with
  | some i => exact ⟨h, Nat.le_refl _, Nat.le_succ _⟩
  | none =>
    cases findI L x.p with
    | none => exact ⟨h, Nat.le_refl _, Nat.le_succ _⟩
    | some p =>
      show Sound (if _ then _ else _ : List Nd × Int × Nat).1 ∧ _ ≤ (if _ then _ else _ : List Nd × Int × Nat).1.length ∧ (if _ then _ else _ : List Nd × Int × Nat).1.length ≤ _
      split
      · exact ⟨h, Nat.le_refl _, Nat.le_succ _⟩
      · split
        · exact ⟨h, Nat.le_refl _, Nat.le_succ _⟩
        · refine ⟨fun j hj => ?_, by simp, by simp⟩
          rcases Nat.lt_or_ge j L.length with h' | h'
          · rw [ndA_app h']; exact h j h'
          · have : (L ++ [childN L x p (((ndA L p).wk + workN x) % M256)]).length = L.length + 1 := by simp
            rw [show j = L.length by simp at hj; omega, ndA_last]; rfl
theorem Sound.fail {L : List Nd} (h : Sound L) (T : TreeOk L) {i : Nat} (hi : i < L.length) {j : Nat} (hj : j < L.length) : (ndA (failTo L i L.length) j).fl = onB (failTo L i L.length) (i : Int) (j : Int) := by
  rw [(failTo_shape L i).onB T, failTo_get hj, if_pos hj]
  show ((ndA L j).fl || _) = _
  rw [h j hj, Bool.false_or]
theorem Sound.count {L : List Nd} (h : Sound L) (T : TreeOk L) {i : Nat} (hi : i < L.length) {n : Nat} (hn : n ≤ L.length) : failN L i n = (List.range n).countP fun j => (ndA (failTo L i L.length) j).fl := by
  unfold failN
  apply List.countP_congr
  intro j hj
  have hj : j < L.length := Nat.lt_of_lt_of_le (List.mem_range.1 hj) hn
  rw [h.fail T hi hj, (failTo_shape L i).onB T, h j hj]
  simp
theorem Sound.again {L : List Nd} (h : Sound L) (T : TreeOk L) {i : Nat} (hi : i < L.length) : failN (failTo L i L.length) i (failTo L i L.length).length = 0 := by
  unfold failN
  rw [List.countP_eq_zero]
  intro j hj
  have hj : j < L.length := by have := List.mem_range.1 hj; rw [failTo_len] at this; exact this
  rw [h.fail T hi hj]
  simp
theorem Sound.zero {L : List Nd} (h : Sound L) (T : TreeOk L) {i : Nat} (h0 : 0 < i) (hi : i < L.length) : (ndA (failTo L i L.length) 0).fl = false := (failTo_all T h0 hi).g.2.2.2
/-- Behind what failed nothing is taken. -/
theorem addF_failed {L : List Nd} (T : TreeOk L) {lim p : Nat} {h : Hd} {now : Int} (hp : p < L.length) (hpp : h.p = hID (ndA L p).h) (hv : provV h lim = 0) (hf : (ndA L p).fl = true) : (addF L lim h now).2.2 = 101 ∨ (addF L lim h now).2.2 = 5 := by
  unfold addF
  cases findI L (hID h) with
  | some i => exact .inr rfl
  | none =>
    left
    show (match findI L h.p with | none => _ | some p => _ : List Nd × Int × Nat).2.2 = 101
    rw [findI_at T hp hpp.symm]
    have : fitsV L lim h (p : Int) now = 101 := by
      unfold fitsV
      rw [if_neg (Classical.not_not.2 ⟨by omega, by omega⟩), if_neg (by simp [hv]), Int.toNat_natCast, if_pos hf]
    show (if fitsV L lim h (p : Int) now ≠ 0 then _ else _ : List Nd × Int × Nat).2.2 = 101
    rw [this]
    rfl
end Go.Proofs.YtljfhabhenaapaaDoor
