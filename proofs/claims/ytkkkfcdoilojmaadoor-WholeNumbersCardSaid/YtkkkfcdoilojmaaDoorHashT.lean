/-
  The contract of package hash's Twice; words for calls of Sum and Twice.
-/
import Derived.Test.YtkkkfcdoilojmaaDoorHashS
namespace Go.Proofs.YtkkkfcdoilojmaaDoor
open Go.RowKit
set_option linter.unusedVariables false

/-- Parts as an argument: none, or a row of slices. -/
def PartsV (w : World) (sp : Option Addr) (ps : List (List Nat)) : Prop := ps ≠ [] → ∃ pb po, sp = some ⟨pb, po, none⟩ ∧ pb < w.heap.size ∧ Parts w w.heap.size pb po ps
theorem PartsV.keep {w w' : World} {sp : Option Addr} {ps : List (List Nat)} (h : PartsV w sp ps) (hb : Below w.heap.size w w') : PartsV w' sp ps := by
  intro hne
  obtain ⟨pb, po, e, h1, h2⟩ := h hne
  refine ⟨pb, po, e, Nat.lt_of_lt_of_le h1 hb.size, fun k xs hk => ?_⟩
  obtain ⟨v, h3, h4⟩ := h2 k xs hk
  exact ⟨v, (hb.cell (p := ⟨pb, po + k, none⟩) h1).trans h3, (h4.keep hb (Nat.le_refl _)).mono hb.size⟩
/-- One part, of an array that is known whole. -/
theorem parts_one {w : World} {g h : Nat} {xs : List Nat} {t u : TypeId} {cap : Nat} {v : Value} (hv : v = .slice (some ⟨g, 0, none⟩) xs.length cap) (hg : Bk w g t (idA xs)) (hx : ∀ x ∈ xs, x < 256) (hc : xs.length ≤ cap) (hc2 : cap < 9223372036854775808) (hh : Bk w h u #[v]) : PartsV w (some ⟨h, 0, none⟩) [xs] := by
  intro _
  refine ⟨h, 0, rfl, hh.lt, fun k ys hk => ?_⟩
  match k with
  | 0 =>
    obtain rfl : xs = ys := by simpa using hk
    exact ⟨v, hh.cell 0, some ⟨g, 0, none⟩, cap, hv, hc, hc2, hx, fun _ => ⟨g, 0, rfl, hg.lt, fun i hi => by
      rw [Nat.zero_add, hg.cell]; exact idA_get xs i hi⟩⟩
  | k + 1 => simp at hk
/-- One part, wherever its bytes lie. -/
theorem parts_bs {w : World} {h B : Nat} {xs : List Nat} {u : TypeId} {v : Value} (hv : BsV w B v xs) (hB : B ≤ w.heap.size) (hh : Bk w h u #[v]) : PartsV w (some ⟨h, 0, none⟩) [xs] := by
  intro _
  refine ⟨h, 0, rfl, hh.lt, fun k ys hk => ?_⟩
  match k with
  | 0 =>
    obtain rfl : xs = ys := by simpa using hk
    exact ⟨v, hh.cell 0, hv.mono hB⟩
  | k + 1 => simp at hk
theorem sumv (ps : List (List Nat)) (sp : Option Addr) (kc : Nat) (w : World) (hL : Laid w) (hlen : ps.flatten.length < 1152921504606846976) (hk31 : ps.length < 2147483648) (hp : PartsV w sp ps) :
    Calls Tryd.prog 19 #[.slice sp ps.length kc] w fun e w' => e = .returned (idv (sha ps.flatten)) ∧ Below w.heap.size w w' := sum_any ps sp kc w hL hlen hk31 hp
theorem sum1 (xs : List Nat) (sp : Option Addr) (kc : Nat) (w : World) (hL : Laid w) (hlen : xs.length < 1152921504606846976) (hp : PartsV w sp [xs]) :
    Calls Tryd.prog 19 #[.slice sp 1 kc] w fun e w' => e = .returned (idv (sha xs)) ∧ Below w.heap.size w w' := by
  have h := sumv [xs] sp kc w hL (by simpa using hlen) (by simp) hp
  simpa using h
theorem sum0 (kc : Nat) (w : World) (hL : Laid w) :
    Calls Tryd.prog 19 #[.slice none 0 kc] w fun e w' => e = .returned (idv (sha [])) ∧ Below w.heap.size w w' :=
  sumv [] none kc w hL (by simp) (by simp) (fun h => absurd rfl h)

set_option maxRecDepth 100000 in
set_option maxHeartbeats 1000000 in
theorem twicev (ps : List (List Nat)) (sp : Option Addr) (kc : Nat) (w : World) (hL : Laid w) (hlen : ps.flatten.length < 1152921504606846976) (hk31 : ps.length < 2147483648) (hp : PartsV w sp ps) :
    Calls Tryd.prog 23 #[.slice sp ps.length kc] w fun e w' => e = .returned (idv (sha (sha ps.flatten))) ∧ Below w.heap.size w w' := by
  have h2 := hL.size
  have HSUM := fun W h1 h2 => sumv ps sp kc W h1 hlen hk31 h2
  have hol : (sha ps.flatten).length = 32 := rfl
  have hox := sha_lt ps.flatten
  generalize hO : sha ps.flatten = O at *
  have hsl : (sha O).length = 32 := rfl
  have HS1 : Hid (∀ sp kc W, Laid W → PartsV W sp [O] → Calls Tryd.prog 19 #[.slice sp 1 kc] W fun e w' => e = .returned (idv (sha O)) ∧ Below W.heap.size W w') := fun sp kc W h1 h2 => sum1 O sp kc W h1 (by omega) h2
  generalize hQ : sha O = Q at *
  have HSUM := Lib.hid HSUM
  have HOL := Lib.hid hol
  have HOX := Lib.hid hox
  have HSL := Lib.hid hsl
  have HL := Lib.hid hL
  have HP := Lib.hid hp
  have HQ := Lib.hid hQ
  have HO := Lib.hid hO
  clear hol hox hsl hL hp hO hQ
  go_enter Tryd.func23, Tryd.ntmps23
  go_wp2_with fail
  have hA : Below w.heap.size w (w.alloc (.cells (idA (zeros 32)) 23)) := (Below.refl _ _).alloc (Nat.le_refl _) _
  refine (HSUM.out _ (HL.out.keep hA) (HP.out.keep hA)).mono ?_
  rintro e w1 ⟨rfl, hb1⟩
  have R1 : Bk w1 w.heap.size 23 (idA (zeros 32)) := Bk.keep (Bk.new _ _ _) hb1
  have hW1 : Below w.heap.size w w1 := below_step hA (by simp) hb1
  clear hb1 hA
  have hz1 := R1.lt
  go_upto_region 2 with (refine wpList_store_mid rfl 23 (.tmp 3) (.tmp 5) rfl w1.heap.size 0 (idA O) rfl rfl (by rw [idA_size, HOL.out]; exact (Bk.new w1 23 (idA (zeros 32))).there 32 (by rw [idA_size]; decide)) (by rw [idA_size, HOL.out]; exact id_info') (all_oneCell_toArray (by intro v hv; simp only [List.mem_map] at hv; obtain ⟨x, _, rfl⟩ := hv; rfl)) ?_)
  refine wp_any (fun W => Below w.heap.size w W ∧ Bk W w.heap.size 23 (idA (zeros 32)) ∧ Bk W w1.heap.size 23 (idA O)) ⟨Below.setCells hW1.size _ _ _ (hW1.alloc hW1.size _), ?_, (Bk.new w1 23 (idA (zeros 32))).setAll (by rw [idA_size, idA_size, HOL.out]; rfl)⟩ ?_
  · exact Bk.below (R1.alloc _) (Below.setCells (Nat.le_refl _) _ _ _ (Below.refl w1.heap.size _)) hz1
  clear R1
  generalize w1.heap.size = T at *
  rintro W ⟨hW, R1, K1⟩
  go_wp2_with fail
  have hb : Below w.heap.size w (W.alloc (.cells #[.slice (some ⟨T, 0, none⟩) 32 32] 49)) := hW.alloc hW.size _
  refine (HS1.out _ _ _ (HL.out.keep hb) (parts_one (g := T) (h := W.heap.size) (xs := O) (cap := 32) (v := .slice (some ⟨T, 0, none⟩) 32 32) (by rw [HOL.out]) (K1.alloc _) HOX.out (by rw [HOL.out]; omega) (by omega) (Bk.new _ _ _))).mono ?_
  rintro e w5 ⟨rfl, hb5⟩
  have R5 : Bk w5 w.heap.size 23 (idA (zeros 32)) := (R1.alloc _).keep hb5
  have hW5 := below_step hb (by have := hW.size; simp; omega) hb5
  clear hb5 R1 K1 hb
  go_wp2_with (refine wpList_store_mid rfl 23 (.tmp 2) (.tmp 8) rfl w.heap.size 0 (idA Q) rfl rfl (by rw [idA_size, HSL.out]; exact R5.there 32 (by rw [idA_size]; decide)) (by rw [idA_size, HSL.out]; exact id_info') (all_oneCell_toArray (by intro v hv; simp only [List.mem_map] at hv; obtain ⟨x, _, rfl⟩ := hv; rfl)) ?_)
  refine bodyPost_ret (results_cell_row rfl _ _ w.heap.size 23 (idA Q) (0, 0) _ rfl (R5.setAll (by rw [idA_size, idA_size, HSL.out]; rfl)) Tryd.underlying23 rfl (by rw [idA_size, HSL.out]; exact id_info')) rfl ⟨?_, Below.setCells (Nat.le_refl _) _ _ _ hW5⟩
  rfl

theorem twice1 (xs : List Nat) (sp : Option Addr) (kc : Nat) (w : World) (hL : Laid w) (hlen : xs.length < 1152921504606846976) (hp : PartsV w sp [xs]) :
    Calls Tryd.prog 23 #[.slice sp 1 kc] w fun e w' => e = .returned (idv (sha (sha xs))) ∧ Below w.heap.size w w' := by
  have h := twicev [xs] sp kc w hL (by simpa using hlen) (by simp) hp
  simpa using h
theorem twice0 (kc : Nat) (w : World) (hL : Laid w) :
    Calls Tryd.prog 23 #[.slice none 0 kc] w fun e w' => e = .returned (idv (sha (sha []))) ∧ Below w.heap.size w w' :=
  twicev [] none kc w hL (by simp) (by simp) (fun h => absurd rfl h)
end Go.Proofs.YtkkkfcdoilojmaaDoor
