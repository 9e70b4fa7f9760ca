/-
  The head of the hash laws: the standard's own text has the standard's sum.
-/
import Derived.Test.YtiiaijoafahdmaaDoorHashT
import Derived.Lib.SlBytesConst
namespace Go.Proofs.YtiiaijoafahdmaaDoor
open Go.RowKit
set_option linter.unusedVariables false

theorem id_at (xs : List Nat) (hl : xs.length = 32) (k : Nat) (hk : k < 32) (w : World) :
    (Instr.index 25 (idv xs) (.int .i64 (k : Int))).run Tryd.prog w = .ok (.int .u8 ((nth xs k : Nat) : Int)) w :=
  run_index_arr (t := 25) (e := 5) (len := 32) (k := .u8) (by kernel_rfl) (by kernel_rfl) (by kernel_rfl) (idA xs) k _ hk (idA_get xs k (by omega)) w
theorem k_abc : nth (sha [97, 98, 99]) 0 = 186 := by decide +kernel
theorem k_none : nth (sha []) 31 = 85 := by decide +kernel
theorem k_two : nth (sha (sha [])) 0 = 93 := by decide +kernel

/-- One part, of a row that is known whole, whatever marks it bears. -/
theorem parts_row {w : World} {g h : Nat} {xs : List Nat} {t u : TypeId} {fr : Nat × Nat} {cap : Nat} {v : Value} (hv : v = .slice (some ⟨g, 0, none⟩) xs.length cap) (hg : w.heap[g]? = some (.cells (idA xs) t fr)) (hx : ∀ x ∈ xs, x < 256) (hc : xs.length ≤ cap) (hc2 : cap < 9223372036854775808) (hh : Bk w h u #[v]) : PartsV w (some ⟨h, 0, none⟩) [xs] := by
  intro _
  refine ⟨h, 0, rfl, hh.lt, fun k ys hk => ?_⟩
  match k with
  | 0 =>
    obtain rfl : xs = ys := by simpa using hk
    exact ⟨v, hh.cell 0, some ⟨g, 0, none⟩, cap, hv, hc, hc2, hx, fun _ => ⟨g, 0, rfl, heap_lt hg, fun i hi => by
      rw [Nat.zero_add, cell_of_row w g i _ _ _ hg]; exact idA_get xs i hi⟩⟩
  | k + 1 => simp at hk

set_option maxRecDepth 100000 in
set_option maxHeartbeats 1000000 in
theorem known_any (w : World) (hL : Laid w) : Calls Tryd.prog 10 #[] w fun e w' => e = .returned (.bool true) ∧ Below w.heap.size w w' := by
  have i0 : ∀ w : World, (Instr.index 25 (idv (sha [97, 98, 99])) (.int .i64 0)).run Tryd.prog w = .ok (.int .u8 186) w := fun w => by
    have h := id_at (sha [97, 98, 99]) rfl 0 (by omega) w
    rw [k_abc] at h
    exact h
  have i1 : ∀ w : World, (Instr.index 25 (idv (sha [])) (.int .i64 31)).run Tryd.prog w = .ok (.int .u8 85) w := fun w => by
    have h := id_at (sha []) rfl 31 (by omega) w
    rw [k_none] at h
    exact h
  have i2 : ∀ w : World, (Instr.index 25 (idv (sha (sha []))) (.int .i64 0)).run Tryd.prog w = .ok (.int .u8 93) w := fun w => by
    have h := id_at (sha (sha [])) rfl 0 (by omega) w
    rw [k_two] at h
    exact h
  have hcv := fun (w : World) (C : Array Value) (n c : Nat) => Lib.run_convert_bytes_const (P := Tryd.prog) w 22 5 C n c Tryd.underlying22 Tryd.underlying5
  have HS1 : Hid (∀ sp kc W, Laid W → PartsV W sp [[97, 98, 99]] → Calls Tryd.prog 11 #[.slice sp 1 kc] W fun e w' => e = .returned (idv (sha [97, 98, 99])) ∧ Below W.heap.size W w') := fun sp kc W h1 h2 => sum1 _ sp kc W h1 (by decide) h2
  have HS0 : Hid (∀ W, Laid W → Calls Tryd.prog 11 #[.slice none 0 0] W fun e w' => e = .returned (idv (sha [])) ∧ Below W.heap.size W w') := fun W h1 => sum0 0 W h1
  have HT0 : Hid (∀ W, Laid W → Calls Tryd.prog 13 #[.slice none 0 0] W fun e w' => e = .returned (idv (sha (sha []))) ∧ Below W.heap.size W w') := fun W h1 => twice0 0 W h1
  have h2 := hL.size
  generalize sha [97, 98, 99] = A at *
  generalize sha (sha []) = C at *
  generalize sha [] = B at *
  go_enter Tryd.func10, Tryd.ntmps10
  go_wp2_with fail
  have hA : Below w.heap.size w ((w.alloc (.cells #[.int .u8 97, .int .u8 98, .int .u8 99] 5 (3, 4))).alloc (.cells #[.slice (some ⟨w.heap.size, 0, none⟩) 3 3] 22)) := ((Below.refl _ _).alloc (Nat.le_refl _) _).alloc (by simp) _
  refine (HS1.out _ _ _ (hL.keep hA) (parts_row (g := w.heap.size) (h := w.heap.size + 1) (xs := [97, 98, 99]) (cap := 3) (v := .slice (some ⟨w.heap.size, 0, none⟩) 3 3) (t := 5) (fr := (3, 4)) rfl ((Below.heap_alloc _ _ _ (by simp)).trans (heap_alloc_new w _)) (by decide) (by decide) (by omega) (Bk.new' _ _ _ (by simp)))).mono ?_
  rintro e w1 ⟨rfl, hb1⟩
  have hW1 := below_step hA (by simp; omega) hb1
  clear hA hb1
  go_wp2_with fail
  refine (HS0.out _ (hL.keep hW1)).mono ?_
  rintro e w2 ⟨rfl, hb2⟩
  have hW2 := below_step hW1 hW1.size hb2
  clear hb2
  go_wp2_with fail
  refine (HT0.out _ (hL.keep hW2)).mono ?_
  rintro e w3 ⟨rfl, hb3⟩
  have hW3 := below_step hW2 hW2.size hb3
  clear hb3
  go_wp2_with fail
  go_ret
  exact ⟨rfl, hW3⟩
end Go.Proofs.YtiiaijoafahdmaaDoor
