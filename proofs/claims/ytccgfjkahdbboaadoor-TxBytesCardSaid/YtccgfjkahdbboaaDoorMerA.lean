/-
  The contract of package merkle's pair, beside.
-/
import Derived.Test.YtccgfjkahdbboaaDoorIdsB
import Derived.StillTailTactics
import Derived.Deep.RegionLaw
namespace Go.Proofs.YtccgfjkahdbboaaDoor
open Go.RowKit
set_option linter.unusedVariables false

/-- The sum of two. -/
def H2 (x y : List Nat) : List Nat := sha (sha (x ++ y))
theorem H2_id (x y : List Nat) : IsId (H2 x y) := ⟨rfl, sha_lt _⟩
theorem parts_two {w : World} {g1 g2 h : Nat} {xs ys : List Nat} {t u : TypeId} (hx : IsId xs) (hy : IsId ys) (h1 : Bk w g1 t (idA xs)) (h2 : Bk w g2 t (idA ys)) (hh : Bk w h u #[.slice (some ⟨g1, 0, none⟩) 32 32, .slice (some ⟨g2, 0, none⟩) 32 32]) : PartsV w (some ⟨h, 0, none⟩) [xs, ys] := by
  intro _
  refine ⟨h, 0, rfl, hh.lt, fun k zs hk => ?_⟩
  match k with
  | 0 =>
    obtain rfl : xs = zs := by simpa using hk
    exact ⟨_, hh.cell 0, some ⟨g1, 0, none⟩, 32, by rw [hx.1]; rfl, by rw [hx.1]; omega, by omega, hx.2, fun _ => ⟨g1, 0, rfl, h1.lt, fun i hi => by
      rw [Nat.zero_add, h1.cell]; exact idA_get xs i hi⟩⟩
  | 1 =>
    obtain rfl : ys = zs := by simpa using hk
    exact ⟨_, hh.cell 1, some ⟨g2, 0, none⟩, 32, by rw [hy.1]; rfl, by rw [hy.1]; omega, by omega, hy.2, fun _ => ⟨g2, 0, rfl, h2.lt, fun i hi => by
      rw [Nat.zero_add, h2.cell]; exact idA_get ys i hi⟩⟩
  | k + 2 => simp at hk
set_option maxRecDepth 100000 in
set_option maxHeartbeats 1000000 in
theorem pair_any (xs ys : List Nat) (w : World) (hL : Laid w) (hx : IsId xs) (hy : IsId ys) :
    Calls Tryd.prog 74 #[idv xs, idv ys] w fun e w' => e = .returned (idv (H2 xs ys)) ∧ Below w.heap.size w w' := by
  have HT : Hid (∀ sp W, Laid W → PartsV W sp [xs, ys] → Calls Tryd.prog 15 #[.slice sp 2 2] W fun e w' => e = .returned (idv (H2 xs ys)) ∧ Below W.heap.size W w') := fun sp W h1 h2 => by
    have h := twicev [xs, ys] sp 2 W h1 (by simp [hx.1, hy.1]) (by simp) h2
    simpa [H2] using h
  have HQL : Hid ((H2 xs ys).length = 32) := (H2_id xs ys).1
  generalize H2 xs ys = Q at *
  have HL := Lib.hid hL
  have HX := Lib.hid hx
  have HY := Lib.hid hy
  clear hL hx hy
  go_enter Tryd.func74, Tryd.ntmps74
  go_upto_region 1 with fail
  refine wp_any (fun W => Below w.heap.size w W ∧ Bk W w.heap.size 29 (idA xs) ∧ Bk W (w.heap.size + 1) 29 (idA ys) ∧ Bk W (w.heap.size + 2) 29 (idA (zeros 32))) ⟨?_, ?_, ?_, ?_⟩ ?_
  · exact (((Below.refl _ _).alloc (Nat.le_refl _) _).alloc (by simp) _).alloc (by simp; omega) _
  · exact ((Bk.new _ _ _).alloc _).alloc _
  · exact (Bk.new' _ _ _ (by simp)).alloc _
  · exact Bk.new' _ _ _ (by simp)
  generalize hg : w.heap.size = g at *
  rintro W ⟨hW, X, Y, R⟩
  have zx := X.lt
  have zy := Y.lt
  have zr := R.lt
  go_still_tail 2, (by kernel_rfl)
  change wpList _ _ _ _ _ W.drew
  have hW := hW.drew
  have X := X.drew
  have Y := Y.drew
  have R := R.drew
  clear zx zy zr
  generalize W.drew = W at *
  have zx := X.lt
  have zy := Y.lt
  have zr := R.lt
  have HLW := Lib.hid (HL.out.below hW (by rw [← hg]; exact HL.out.size))
  go_wp2_with fail
  have hA : Below g w (W.alloc (.cells #[.slice (some ⟨g, 0, none⟩) 32 32, .slice (some ⟨g + 1, 0, none⟩) 32 32] 33)) := hW.alloc (Nat.le_of_lt zx) _
  refine (HT.out _ _ (HL.out.below hA (by rw [← hg]; exact HL.out.size)) (parts_two HX.out HY.out (X.alloc _) (Y.alloc _) (Bk.new _ _ _))).mono ?_
  rintro e w5 ⟨rfl, hb5⟩
  have R5 := (R.alloc (.cells #[.slice (some ⟨g, 0, none⟩) 32 32, .slice (some ⟨g + 1, 0, none⟩) 32 32] 33)).keep hb5
  have hW5 := below_step hA (by simp; omega) hb5
  clear hb5 hA X Y R hW
  go_wp2_with (refine wpList_store_mid rfl 29 (.tmp 4) (.tmp 8) rfl (g + 1 + 1) 0 (idA Q) rfl rfl (by rw [idA_size, HQL.out]; exact R5.there 32 (by rw [idA_size]; decide)) (by rw [idA_size, HQL.out]; exact id_info') (id_ones Q) ?_)
  refine bodyPost_ret (results_cell_row rfl _ _ (g + 1 + 1) 29 (idA Q) (0, 0) _ rfl (R5.setAll (by rw [idA_size, idA_size, HQL.out]; rfl)) Tryd.underlying29 rfl (by rw [idA_size, HQL.out]; exact id_info')) rfl ⟨rfl, ?_⟩
  rw [hg]
  exact Below.setCells (by omega) _ _ _ hW5
set_option maxRecDepth 100000 in
set_option maxHeartbeats 1000000 in
/-- The place of the other one of a pair. -/
def besideN (i n : Nat) : Nat := if i % 2 = 1 then i - 1 else min (i + 1) (n - 1)
theorem beside_any (i n : Nat) (w : World) (hi : i < n) (hn : n ≤ 1000000) :
    Calls Tryd.prog 75 #[.int .i64 (i : Int), .int .i64 (n : Int)] w fun e w' => e = .returned (.int .i64 (besideN i n : Int)) ∧ w' = w := by
  unfold besideN
  by_cases h : i % 2 = 1
  · rw [if_pos h]
    have hd : decide ((i : Int) % 2 = 1) = true := decide_eq_true (by omega)
    have hd' : decide (i % 2 = 1) = true := decide_eq_true h
    go_enter Tryd.func75, Tryd.ntmps75
    go_wp2_with fail
    go_ret
    exact ⟨congrArg (fun x => Ending.returned (Value.int .i64 x)) (by omega), rfl⟩
  · rw [if_neg h]
    have hd : decide ((i : Int) % 2 = 1) = false := decide_eq_false (by omega)
    have hd' : decide (i % 2 = 1) = false := decide_eq_false h
    have e : min ((i : Int) + 1) ((n : Int) - 1) = ((min (i + 1) (n - 1) : Nat) : Int) := by omega
    have E := Lib.hid e
    generalize min (i + 1) (n - 1) = r at *
    clear e
    go_enter Tryd.func75, Tryd.ntmps75
    go_wp2_with fail
    all_goals
      go_ret
      exact ⟨congrArg (fun x => Ending.returned (Value.int .i64 x)) (by have := E.out; omega), rfl⟩
end Go.Proofs.YtccgfjkahdbboaaDoor
