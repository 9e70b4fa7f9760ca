/-
  Texts in one: TxW, TxN, TxP.
-/
import Derived.Test.YtokiinpegclffaaDoorTxW0
import Derived.Lib.SlBytesConst
import Derived.Test.YtokiinpegclffaaDoorTxL
import Derived.Test.YtokiinpegclffaaDoorTxE
import Derived.Test.YtokiinpegclffaaDoorReaZ
import Derived.Test.YtokiinpegclffaaDoorTxY
import Derived.Deep.Slices
import Derived.OpenShut
import Derived.ChangeOld
namespace Go.Proofs.YtokiinpegclffaaDoor
open Go.RowKit
set_option linter.unusedVariables false
set_option linter.unusedSimpArgs false
set_option maxRecDepth 100000

theorem tw_made (w : World) : Below w.heap.size w ((((w.alloc (.cells #[.int .u8 107] 5 (1, 2))).alloc (.cells #[.int .u8 0, .int .u8 0, .int .u8 0, .int .u8 0, .int .u8 0, .int .u8 0, .int .u8 0, .int .u8 0, .int .u8 0, .int .u8 0, .int .u8 0, .int .u8 0, .int .u8 0, .int .u8 0, .int .u8 0, .int .u8 0, .int .u8 0, .int .u8 0, .int .u8 0, .int .u8 0, .int .u8 0, .int .u8 0, .int .u8 0, .int .u8 0, .int .u8 0, .int .u8 0, .int .u8 0, .int .u8 0, .int .u8 0, .int .u8 0, .int .u8 0, .int .u8 0, .int .u32 0, .slice (some ⟨w.heap.size, 0, none⟩) 1 1] 35)).alloc (.cells #[.int .i64 5, .int .u8 0, .int .u8 0, .int .u8 0, .int .u8 0, .int .u8 0, .int .u8 0, .int .u8 0, .int .u8 0, .int .u8 0, .int .u8 0, .int .u8 0, .int .u8 0, .int .u8 0, .int .u8 0, .int .u8 0, .int .u8 0, .int .u8 0, .int .u8 0, .int .u8 0, .int .u8 0, .int .u8 0, .int .u8 0, .int .u8 0, .int .u8 0, .int .u8 0, .int .u8 0, .int .u8 0, .int .u8 0, .int .u8 0, .int .u8 0, .int .u8 0, .int .u8 0] 37)).alloc (.cells #[.slice (some ⟨w.heap.size + 1, 0, none⟩) 1 1, .slice (some ⟨w.heap.size + 2, 0, none⟩) 1 1] 25)) ∧ Bk ((((w.alloc (.cells #[.int .u8 107] 5 (1, 2))).alloc (.cells #[.int .u8 0, .int .u8 0, .int .u8 0, .int .u8 0, .int .u8 0, .int .u8 0, .int .u8 0, .int .u8 0, .int .u8 0, .int .u8 0, .int .u8 0, .int .u8 0, .int .u8 0, .int .u8 0, .int .u8 0, .int .u8 0, .int .u8 0, .int .u8 0, .int .u8 0, .int .u8 0, .int .u8 0, .int .u8 0, .int .u8 0, .int .u8 0, .int .u8 0, .int .u8 0, .int .u8 0, .int .u8 0, .int .u8 0, .int .u8 0, .int .u8 0, .int .u8 0, .int .u32 0, .slice (some ⟨w.heap.size, 0, none⟩) 1 1] 35)).alloc (.cells #[.int .i64 5, .int .u8 0, .int .u8 0, .int .u8 0, .int .u8 0, .int .u8 0, .int .u8 0, .int .u8 0, .int .u8 0, .int .u8 0, .int .u8 0, .int .u8 0, .int .u8 0, .int .u8 0, .int .u8 0, .int .u8 0, .int .u8 0, .int .u8 0, .int .u8 0, .int .u8 0, .int .u8 0, .int .u8 0, .int .u8 0, .int .u8 0, .int .u8 0, .int .u8 0, .int .u8 0, .int .u8 0, .int .u8 0, .int .u8 0, .int .u8 0, .int .u8 0, .int .u8 0] 37)).alloc (.cells #[.slice (some ⟨w.heap.size + 1, 0, none⟩) 1 1, .slice (some ⟨w.heap.size + 2, 0, none⟩) 1 1] 25)) (w.heap.size + 3) 25 #[.slice (some ⟨w.heap.size + 1, 0, none⟩) 1 1, .slice (some ⟨w.heap.size + 2, 0, none⟩) 1 1] ∧ TxV ((((w.alloc (.cells #[.int .u8 107] 5 (1, 2))).alloc (.cells #[.int .u8 0, .int .u8 0, .int .u8 0, .int .u8 0, .int .u8 0, .int .u8 0, .int .u8 0, .int .u8 0, .int .u8 0, .int .u8 0, .int .u8 0, .int .u8 0, .int .u8 0, .int .u8 0, .int .u8 0, .int .u8 0, .int .u8 0, .int .u8 0, .int .u8 0, .int .u8 0, .int .u8 0, .int .u8 0, .int .u8 0, .int .u8 0, .int .u8 0, .int .u8 0, .int .u8 0, .int .u8 0, .int .u8 0, .int .u8 0, .int .u8 0, .int .u8 0, .int .u32 0, .slice (some ⟨w.heap.size, 0, none⟩) 1 1] 35)).alloc (.cells #[.int .i64 5, .int .u8 0, .int .u8 0, .int .u8 0, .int .u8 0, .int .u8 0, .int .u8 0, .int .u8 0, .int .u8 0, .int .u8 0, .int .u8 0, .int .u8 0, .int .u8 0, .int .u8 0, .int .u8 0, .int .u8 0, .int .u8 0, .int .u8 0, .int .u8 0, .int .u8 0, .int .u8 0, .int .u8 0, .int .u8 0, .int .u8 0, .int .u8 0, .int .u8 0, .int .u8 0, .int .u8 0, .int .u8 0, .int .u8 0, .int .u8 0, .int .u8 0, .int .u8 0] 37)).alloc (.cells #[.slice (some ⟨w.heap.size + 1, 0, none⟩) 1 1, .slice (some ⟨w.heap.size + 2, 0, none⟩) 1 1] 25)) (w.heap.size + 3) (tw w.heap.size) := by
  have K0 : (((((w.alloc (.cells #[.int .u8 107] 5 (1, 2))).alloc (.cells #[.int .u8 0, .int .u8 0, .int .u8 0, .int .u8 0, .int .u8 0, .int .u8 0, .int .u8 0, .int .u8 0, .int .u8 0, .int .u8 0, .int .u8 0, .int .u8 0, .int .u8 0, .int .u8 0, .int .u8 0, .int .u8 0, .int .u8 0, .int .u8 0, .int .u8 0, .int .u8 0, .int .u8 0, .int .u8 0, .int .u8 0, .int .u8 0, .int .u8 0, .int .u8 0, .int .u8 0, .int .u8 0, .int .u8 0, .int .u8 0, .int .u8 0, .int .u8 0, .int .u32 0, .slice (some ⟨w.heap.size, 0, none⟩) 1 1] 35)).alloc (.cells #[.int .i64 5, .int .u8 0, .int .u8 0, .int .u8 0, .int .u8 0, .int .u8 0, .int .u8 0, .int .u8 0, .int .u8 0, .int .u8 0, .int .u8 0, .int .u8 0, .int .u8 0, .int .u8 0, .int .u8 0, .int .u8 0, .int .u8 0, .int .u8 0, .int .u8 0, .int .u8 0, .int .u8 0, .int .u8 0, .int .u8 0, .int .u8 0, .int .u8 0, .int .u8 0, .int .u8 0, .int .u8 0, .int .u8 0, .int .u8 0, .int .u8 0, .int .u8 0, .int .u8 0] 37)).alloc (.cells #[.slice (some ⟨w.heap.size + 1, 0, none⟩) 1 1, .slice (some ⟨w.heap.size + 2, 0, none⟩) 1 1] 25))).cell? ⟨w.heap.size, 0, none⟩ = some (.int .u8 107) := by
    have hb : Below (w.alloc (.cells #[.int .u8 107] 5 (1, 2))).heap.size (w.alloc (.cells #[.int .u8 107] 5 (1, 2))) (((((w.alloc (.cells #[.int .u8 107] 5 (1, 2))).alloc (.cells #[.int .u8 0, .int .u8 0, .int .u8 0, .int .u8 0, .int .u8 0, .int .u8 0, .int .u8 0, .int .u8 0, .int .u8 0, .int .u8 0, .int .u8 0, .int .u8 0, .int .u8 0, .int .u8 0, .int .u8 0, .int .u8 0, .int .u8 0, .int .u8 0, .int .u8 0, .int .u8 0, .int .u8 0, .int .u8 0, .int .u8 0, .int .u8 0, .int .u8 0, .int .u8 0, .int .u8 0, .int .u8 0, .int .u8 0, .int .u8 0, .int .u8 0, .int .u8 0, .int .u32 0, .slice (some ⟨w.heap.size, 0, none⟩) 1 1] 35)).alloc (.cells #[.int .i64 5, .int .u8 0, .int .u8 0, .int .u8 0, .int .u8 0, .int .u8 0, .int .u8 0, .int .u8 0, .int .u8 0, .int .u8 0, .int .u8 0, .int .u8 0, .int .u8 0, .int .u8 0, .int .u8 0, .int .u8 0, .int .u8 0, .int .u8 0, .int .u8 0, .int .u8 0, .int .u8 0, .int .u8 0, .int .u8 0, .int .u8 0, .int .u8 0, .int .u8 0, .int .u8 0, .int .u8 0, .int .u8 0, .int .u8 0, .int .u8 0, .int .u8 0, .int .u8 0] 37)).alloc (.cells #[.slice (some ⟨w.heap.size + 1, 0, none⟩) 1 1, .slice (some ⟨w.heap.size + 2, 0, none⟩) 1 1] 25))) := (((Below.refl _ _).alloc (Nat.le_refl _) _).alloc (by simp) _).alloc (by simp) _
    have h1 := hb.block w.heap.size (by simp)
    rw [heap_alloc_new] at h1
    exact cell_of_row _ _ 0 _ _ _ h1
  have K1 : Bk ((((w.alloc (.cells #[.int .u8 107] 5 (1, 2))).alloc (.cells #[.int .u8 0, .int .u8 0, .int .u8 0, .int .u8 0, .int .u8 0, .int .u8 0, .int .u8 0, .int .u8 0, .int .u8 0, .int .u8 0, .int .u8 0, .int .u8 0, .int .u8 0, .int .u8 0, .int .u8 0, .int .u8 0, .int .u8 0, .int .u8 0, .int .u8 0, .int .u8 0, .int .u8 0, .int .u8 0, .int .u8 0, .int .u8 0, .int .u8 0, .int .u8 0, .int .u8 0, .int .u8 0, .int .u8 0, .int .u8 0, .int .u8 0, .int .u8 0, .int .u32 0, .slice (some ⟨w.heap.size, 0, none⟩) 1 1] 35)).alloc (.cells #[.int .i64 5, .int .u8 0, .int .u8 0, .int .u8 0, .int .u8 0, .int .u8 0, .int .u8 0, .int .u8 0, .int .u8 0, .int .u8 0, .int .u8 0, .int .u8 0, .int .u8 0, .int .u8 0, .int .u8 0, .int .u8 0, .int .u8 0, .int .u8 0, .int .u8 0, .int .u8 0, .int .u8 0, .int .u8 0, .int .u8 0, .int .u8 0, .int .u8 0, .int .u8 0, .int .u8 0, .int .u8 0, .int .u8 0, .int .u8 0, .int .u8 0, .int .u8 0, .int .u8 0] 37)).alloc (.cells #[.slice (some ⟨w.heap.size + 1, 0, none⟩) 1 1, .slice (some ⟨w.heap.size + 2, 0, none⟩) 1 1] 25)) (w.heap.size + 1) 35 #[.int .u8 0, .int .u8 0, .int .u8 0, .int .u8 0, .int .u8 0, .int .u8 0, .int .u8 0, .int .u8 0, .int .u8 0, .int .u8 0, .int .u8 0, .int .u8 0, .int .u8 0, .int .u8 0, .int .u8 0, .int .u8 0, .int .u8 0, .int .u8 0, .int .u8 0, .int .u8 0, .int .u8 0, .int .u8 0, .int .u8 0, .int .u8 0, .int .u8 0, .int .u8 0, .int .u8 0, .int .u8 0, .int .u8 0, .int .u8 0, .int .u8 0, .int .u8 0, .int .u32 0, .slice (some ⟨w.heap.size, 0, none⟩) 1 1] := ((Bk.new' _ _ _ (by simp)).alloc _).alloc _
  have K2 : Bk ((((w.alloc (.cells #[.int .u8 107] 5 (1, 2))).alloc (.cells #[.int .u8 0, .int .u8 0, .int .u8 0, .int .u8 0, .int .u8 0, .int .u8 0, .int .u8 0, .int .u8 0, .int .u8 0, .int .u8 0, .int .u8 0, .int .u8 0, .int .u8 0, .int .u8 0, .int .u8 0, .int .u8 0, .int .u8 0, .int .u8 0, .int .u8 0, .int .u8 0, .int .u8 0, .int .u8 0, .int .u8 0, .int .u8 0, .int .u8 0, .int .u8 0, .int .u8 0, .int .u8 0, .int .u8 0, .int .u8 0, .int .u8 0, .int .u8 0, .int .u32 0, .slice (some ⟨w.heap.size, 0, none⟩) 1 1] 35)).alloc (.cells #[.int .i64 5, .int .u8 0, .int .u8 0, .int .u8 0, .int .u8 0, .int .u8 0, .int .u8 0, .int .u8 0, .int .u8 0, .int .u8 0, .int .u8 0, .int .u8 0, .int .u8 0, .int .u8 0, .int .u8 0, .int .u8 0, .int .u8 0, .int .u8 0, .int .u8 0, .int .u8 0, .int .u8 0, .int .u8 0, .int .u8 0, .int .u8 0, .int .u8 0, .int .u8 0, .int .u8 0, .int .u8 0, .int .u8 0, .int .u8 0, .int .u8 0, .int .u8 0, .int .u8 0] 37)).alloc (.cells #[.slice (some ⟨w.heap.size + 1, 0, none⟩) 1 1, .slice (some ⟨w.heap.size + 2, 0, none⟩) 1 1] 25)) (w.heap.size + 2) 37 #[.int .i64 5, .int .u8 0, .int .u8 0, .int .u8 0, .int .u8 0, .int .u8 0, .int .u8 0, .int .u8 0, .int .u8 0, .int .u8 0, .int .u8 0, .int .u8 0, .int .u8 0, .int .u8 0, .int .u8 0, .int .u8 0, .int .u8 0, .int .u8 0, .int .u8 0, .int .u8 0, .int .u8 0, .int .u8 0, .int .u8 0, .int .u8 0, .int .u8 0, .int .u8 0, .int .u8 0, .int .u8 0, .int .u8 0, .int .u8 0, .int .u8 0, .int .u8 0, .int .u8 0] := (Bk.new' _ _ _ (by simp)).alloc _
  refine ⟨((((Below.refl _ _).alloc (Nat.le_refl _) _).alloc (by simp) _).alloc (by simp; omega) _).alloc (by simp; omega) _, Bk.new' _ _ _ (by simp), ?_⟩
  generalize (((w.alloc (.cells #[.int .u8 107] 5 (1, 2))).alloc (.cells #[.int .u8 0, .int .u8 0, .int .u8 0, .int .u8 0, .int .u8 0, .int .u8 0, .int .u8 0, .int .u8 0, .int .u8 0, .int .u8 0, .int .u8 0, .int .u8 0, .int .u8 0, .int .u8 0, .int .u8 0, .int .u8 0, .int .u8 0, .int .u8 0, .int .u8 0, .int .u8 0, .int .u8 0, .int .u8 0, .int .u8 0, .int .u8 0, .int .u8 0, .int .u8 0, .int .u8 0, .int .u8 0, .int .u8 0, .int .u8 0, .int .u8 0, .int .u8 0, .int .u32 0, .slice (some ⟨w.heap.size, 0, none⟩) 1 1] 35)).alloc (.cells #[.int .i64 5, .int .u8 0, .int .u8 0, .int .u8 0, .int .u8 0, .int .u8 0, .int .u8 0, .int .u8 0, .int .u8 0, .int .u8 0, .int .u8 0, .int .u8 0, .int .u8 0, .int .u8 0, .int .u8 0, .int .u8 0, .int .u8 0, .int .u8 0, .int .u8 0, .int .u8 0, .int .u8 0, .int .u8 0, .int .u8 0, .int .u8 0, .int .u8 0, .int .u8 0, .int .u8 0, .int .u8 0, .int .u8 0, .int .u8 0, .int .u8 0, .int .u8 0, .int .u8 0] 37)).alloc (.cells #[.slice (some ⟨w.heap.size + 1, 0, none⟩) 1 1, .slice (some ⟨w.heap.size + 2, 0, none⟩) 1 1] 25) = W at *
  generalize w.heap.size = g at *
  refine ⟨⟨some ⟨g + 1, 0, none⟩, 1, rfl, Nat.le_refl _, by omega, fun _ => ⟨g + 1, 0, rfl, by omega, fun i x hx => ?_⟩⟩, fun x hx => ?_, ⟨some ⟨g + 2, 0, none⟩, 1, rfl, Nat.le_refl _, by omega, fun _ => ⟨g + 2, 0, rfl, by omega, fun i x hx => ?_⟩⟩, fun x hx => ?_⟩
  · match i, hx with
    | 0, hx =>
      obtain rfl : (⟨i0, 0, some ⟨g, 0, none⟩, 1, [107]⟩ : InM) = x := by simpa [tw] using hx
      exact K1.range0
    | i + 1, hx => simp [tw] at hx
  · simp only [tw, List.mem_singleton] at hx
    subst hx
    exact ⟨show (0 : Nat) < 4294967296 by omega, some ⟨g, 0, none⟩, 1, rfl, Nat.le_refl _, by omega, (fun x hx => by simp only [List.mem_singleton] at hx; omega), fun _ => ⟨g, 0, rfl, by omega, fun i hi => by
      obtain rfl : i = 0 := by simp at hi; exact hi
      exact K0⟩⟩
  · match i, hx with
    | 0, hx =>
      obtain rfl : (⟨5, i0⟩ : OutM) = x := by simpa [tw] using hx
      exact K2.range0
    | i + 1, hx => simp [tw] at hx
  · simp only [tw, List.mem_singleton] at hx
    subst hx
    exact ⟨show (-9223372036854775808 : Int) ≤ 5 by omega, show (5 : Int) ≤ 9223372036854775807 by omega⟩
theorem zc_blk : Tryd.zeroCells56 = (blkL ⟨hd0, none, 0, []⟩).toArray := by kernel_rfl
/-- What stands behind the head's first two steps. -/
def WSt (w W : World) (g g2 ob oo : Nat) (sa : Option Addr) (na ca cb : Nat) : Prop := Below w.heap.size w W ∧ Bk W (g + 3) 25 #[.slice (some ⟨g + 1, 0, none⟩) 1 1, .slice (some ⟨g + 2, 0, none⟩) 1 1] ∧ TxV W (g + 3) (tw g) ∧ Bk W g2 25 #[.slice sa na ca, .slice (some ⟨ob, oo, none⟩) 1 cb] ∧ W.cell? ⟨ob, oo, none⟩ = some (.int .i64 5) ∧ ob < W.heap.size
theorem WSt.keep {w W W' : World} {g g2 ob oo : Nat} {sa : Option Addr} {na ca cb : Nat} (h : WSt w W g g2 ob oo sa na ca cb) (hb : Below W.heap.size W W') : WSt w W' g g2 ob oo sa na ca cb := ⟨below_step h.1 h.1.size hb, h.2.1.keep hb, h.2.2.1.keep hb (by have := h.2.1.lt; omega), h.2.2.2.1.keep hb, (hb.cell (p := ⟨ob, oo, none⟩) h.2.2.2.2.2).trans h.2.2.2.2.1, Nat.lt_of_lt_of_le h.2.2.2.2.2 hb.size⟩
theorem zc_there (W : World) (n : Nat) (hn : n ≤ 69) : (W.alloc (.cells Tryd.zeroCells56 56)).there W.heap.size 0 n := by
  rw [zc_blk]
  exact (Bk.new W 56 _).there n (by rw [blk_size hd0_is]; exact hn)
theorem zc_set (W : World) (b : BlkM) (h : IsHd b.hd) : Bk ((W.alloc (.cells Tryd.zeroCells56 56)).setCells W.heap.size 0 (blkL b).toArray.toList) W.heap.size 56 (blkL b).toArray := by
  rw [zc_blk]
  exact (Bk.new W 56 _).setAll ((blk_size h).trans (blk_size hd0_is).symm)
set_option maxHeartbeats 8000000 in
theorem txwrites_any (w : World) (hL : Laid w) : Calls Tryd.prog 16 #[] w fun e w' => e = .returned (.bool true) ∧ Below w.heap.size w w' := by
  have HL := Lib.hid hL
  have HTM := Lib.hid (tw_made w)
  have HBY : Hid (∀ W, TxV W W.heap.size (tw w.heap.size) → Calls Tryd.prog 18 #[.agg #[.slice (some ⟨w.heap.size + 1, 0, none⟩) 1 1, .slice (some ⟨w.heap.size + 2, 0, none⟩) 1 1]] W fun e w' => ∃ v', e = .returned v' ∧ Mine w' W.heap.size v' TB ∧ Below W.heap.size W w') := fun W h => by
    have := tbytes_any (tw w.heap.size) W h (tw_fit _)
    rw [tw_B] at this
    exact this
  have HRD : Hid (∀ W v, BsV W W.heap.size v TB → Calls Tryd.prog 21 #[v] W fun r w' => ∃ t, r = .returned (.tuple #[.agg #[t.iv, t.ov], .int .i64 0]) ∧ Below W.heap.size W w' ∧ NextSays (TB, 0) t ∧ MineT w' W.heap.size t) := fun W v h => (tread_any v TB W h (by rw [tb_len]; omega) tb_lt).mono fun r w' ⟨t, h1, h2, h3, _⟩ => ⟨t, by rw [h1, tb_end]; rfl, h2, h3 tb_end⟩
  have HID : Hid (∀ W, TxV W W.heap.size (tw w.heap.size) → Laid W → Calls Tryd.prog 19 #[.agg #[.slice (some ⟨w.heap.size + 1, 0, none⟩) 1 1, .slice (some ⟨w.heap.size + 2, 0, none⟩) 1 1]] W fun e w' => e = .returned (.agg (idA Q0)) ∧ Below W.heap.size W w') := fun W h hl => by
    have := tid_any (tw w.heap.size) W h (tw_fit _) hl
    have e : tID (tw w.heap.size) = Q0 := by unfold tID Q0; rw [tw_B]
    rw [e] at this
    exact this
  have HRT : Hid (∀ W b, TxV W W.heap.size (tw w.heap.size) → Bk W b 25 #[.slice (some ⟨w.heap.size + 1, 0, none⟩) 1 1, .slice (some ⟨w.heap.size + 2, 0, none⟩) 1 1] → Laid W → Calls Tryd.prog 25 #[.slice (some ⟨b, 0, none⟩) 1 1] W fun e w' => e = .returned (.tuple #[.agg (idA Q0), .bool false]) ∧ Below W.heap.size W w') := fun W b h hb hl => by
    have h1 : RowV txR W W.heap.size (.slice (some ⟨b, 0, none⟩) 1 1) [tw w.heap.size] := one_rowR' (x := tw w.heap.size) txR_ok hb
    have := troot_any (some ⟨b, 0, none⟩) 1 1 [tw w.heap.size] W h1 rfl (fun t ht => by rw [List.mem_singleton] at ht; subst ht; exact ⟨h, tw_fit _⟩) hl (by omega)
    have e : [tw w.heap.size].map tID = [Q0] := by simp only [List.map_cons, List.map_nil]; unfold tID Q0; rw [tw_B]
    rw [e, root_q0] at this
    exact this
  have HBK : Hid (∀ W b, TxV W W.heap.size (tw w.heap.size) → Bk W b 25 #[.slice (some ⟨w.heap.size + 1, 0, none⟩) 1 1, .slice (some ⟨w.heap.size + 2, 0, none⟩) 1 1] → Calls Tryd.prog 27 #[.agg (Tryd.zeroCells56.setIfInBounds 68 (.slice (some ⟨b, 0, none⟩) 1 1))] W fun e w' => ∃ v', e = .returned v' ∧ Mine w' W.heap.size v' BL ∧ Below W.heap.size W w') := fun W b h hb => by
    have h1 : RowV txR W W.heap.size (.slice (some ⟨b, 0, none⟩) 1 1) [tw w.heap.size] := one_rowR' (x := tw w.heap.size) txR_ok hb
    have := tblock_any ⟨hd0, some ⟨b, 0, none⟩, 1, [tw w.heap.size]⟩ W ⟨hd0_is, h1, fun t ht => by simp only [List.mem_singleton] at ht; subst ht; exact h⟩ (fun t ht => by simp only [List.mem_singleton] at ht; subst ht; exact tw_fit _) (by simp)
    have e : blkB ⟨hd0, some ⟨b, 0, none⟩, 1, [tw w.heap.size]⟩ = BL := by
      unfold blkB BL
      rw [txsB_one, tw_B]
      rfl
    rw [e] at this
    have e2 : Tryd.zeroCells56.setIfInBounds 68 (.slice (some ⟨b, 0, none⟩) 1 1) = (blkL ⟨hd0, some ⟨b, 0, none⟩, 1, [tw w.heap.size]⟩).toArray := by
      have h2 := blk_put_ls hd0 hd0_is none (some ⟨b, 0, none⟩) 0 1 [] [tw w.heap.size]
      rw [← h2, ← zc_blk]
      rfl
    rw [e2]
    exact this
  have HRB : Hid (∀ W v, BsV W W.heap.size v BL → Calls Tryd.prog 28 #[v] W fun r w' => ∃ b, r = .returned (.tuple #[.agg (blkL b).toArray, .int .i64 0]) ∧ Below W.heap.size W w' ∧ BlkSays BL b ∧ MineB w' W.heap.size b) := fun W v h => (trb_in v BL W h (by rw [bl_len]; omega) bl_lt).mono fun r w' ⟨b, h1, h2, h3, _⟩ => ⟨b, by rw [h1, bl_end]; rfl, h2, h3 bl_end⟩
  have hcv := fun (w : World) (C : Array Value) (n c : Nat) => Lib.run_convert_bytes_const (P := Tryd.prog) w 33 5 C n c Tryd.underlying33 Tryd.underlying5
  have HQ := Lib.hid q0_is
  have HQN := Lib.hid q0_ne
  generalize Q0 = q at *
  clear hL
  go_enter Tryd.func16, Tryd.ntmps16
  go_upto_region 2 with fail
  refine wp_any (fun W => Below w.heap.size w W ∧ Bk W (w.heap.size + 3) 25 #[.slice (some ⟨w.heap.size + 1, 0, none⟩) 1 1, .slice (some ⟨w.heap.size + 2, 0, none⟩) 1 1] ∧ TxV W (w.heap.size + 3) (tw w.heap.size)) HTM.out ?_
  clear HTM hcv
  obtain ⟨g, hg⟩ : ∃ g, g = w.heap.size := ⟨_, rfl⟩
  have HG := Lib.hid hg
  rw [← hg] at HBY HID HRT HBK ⊢
  clear hg
  rintro W ⟨hW, K1, TV⟩
  have HW : Hid (Below w.heap.size w W) := by rw [← HG.out]; exact hW
  have HTV := Lib.hid TV
  have z1 := K1.lt
  have c0 := K1.cell 0
  have c1 := K1.cell 1
  clear hW TV
  go_wp2_with fail
  refine (HBY.out W (HTV.out.mono (by omega))).mono ?_
  rintro e W1 ⟨v1, rfl, M1, hb1⟩
  have HB1 := Lib.hid (M1.bs tb_lt)
  have K1 := K1.keep hb1
  have HW1 := Lib.hid (below_step HW.out HW.out.size hb1)
  have HTV1 := Lib.hid (HTV.out.keep hb1 (by omega))
  have c0 := K1.cell 0
  have c1 := K1.cell 1
  have z1 := K1.lt
  clear M1 hb1 HW HTV
  go_wp2_with fail
  refine (HRD.out W1 v1 HB1.out).mono ?_
  rintro e W2 ⟨u, he, hb2, hs, MU⟩
  have K1 := K1.keep hb2
  have HW2 := Lib.hid (below_step HW1.out HW1.out.size hb2)
  have HTV2 := Lib.hid (HTV1.out.keep hb2 (by omega))
  have hol : u.outs.length = 1 := by rw [hs.2.2.1]; exact tb_m
  obtain ⟨x, hx⟩ : ∃ x, u.outs[0]? = some x := ⟨_, List.getElem?_eq_getElem (by omega)⟩
  have hxa : x.am = 5 := by rw [(hs.2.2.2 0 x hx).1]; exact tb_am
  obtain ⟨sa, na, ca, ha⟩ : ∃ s n c, u.iv = .slice s n c := ⟨_, _, _, rfl⟩
  obtain ⟨sb, cb, hb⟩ : ∃ s c, u.ov = .slice s 1 c := ⟨u.os_, u.oc, by show Value.slice _ u.outs.length _ = _; rw [hol]⟩
  have hrow : RowV outR W2 W2.heap.size (.slice sb 1 cb) u.outs := by rw [← hb]; exact MU.2.2.rows outR_ok
  obtain ⟨ob, oo, es, hob, hn1, hrg⟩ := hrow.at_ (fun h => by rw [h] at hol; simp at hol)
  have h5 : W2.cell? ⟨ob, oo, none⟩ = some (.int .i64 5) := by
    have := hrg 0 x hx 0 (.int .i64 x.am) rfl
    rw [hxa, Nat.zero_mul] at this
    exact this
  subst es
  rw [ha, hb] at he
  subst he
  have H5 := Lib.hid h5
  have HOB := Lib.hid hob
  clear hn1 hb2 hs MU hol hx hxa ha hb hrow hrg h5 hob HW1 HTV1 c0 c1 z1 HB1
  go_upto_region 3 with fail
  have hA : Below W2.heap.size W2 (W2.alloc (.cells #[.slice sa na ca, .slice (some ⟨ob, oo, none⟩) 1 cb] 25)) := (Below.refl _ _).alloc (Nat.le_refl _) _
  refine wp_any (fun W => WSt w W g W2.heap.size ob oo sa na ca cb) ⟨below_step HW2.out HW2.out.size hA, K1.keep hA, HTV2.out.keep hA (by have := K1.lt; omega), Bk.new _ _ _, (hA.cell (p := ⟨ob, oo, none⟩) HOB.out).trans H5.out, Nat.lt_of_lt_of_le HOB.out hA.size⟩ ?_
  clear hA HTV2 H5 HOB K1
  generalize W2.heap.size = g2 at *
  rintro W h
  have HS := Lib.hid h
  have c0 := h.2.1.cell 0
  have c1 := h.2.1.cell 1
  have z1 := h.2.1.lt
  clear h HW2
  have hA : Below W.heap.size W (W.alloc (.cells #[.slice (some ⟨g + 1, 0, none⟩) 1 1, .slice (some ⟨g + 2, 0, none⟩) 1 1] 25)) := (Below.refl _ _).alloc (Nat.le_refl _) _
  have HS1 := Lib.hid (HS.out.keep hA)
  have HC := Lib.hid (HBK.out (W.alloc (.cells #[.slice (some ⟨g + 1, 0, none⟩) 1 1, .slice (some ⟨g + 2, 0, none⟩) 1 1] 25)) W.heap.size (HS1.out.2.2.1.mono (by have := HS1.out.2.1.lt; omega)) (Bk.new _ _ _))
  clear hA HS HBK
  go_wp2_with fail
  refine HC.out.mono ?_
  rintro e W3 ⟨v3, rfl, M3, hb3⟩
  have HS3 := Lib.hid (HS1.out.keep hb3)
  have HB3 := Lib.hid (M3.bs bl_lt)
  clear M3 hb3 HC HS1 c0 c1 z1
  go_wp2_with fail
  refine (HRB.out W3 v3 HB3.out).mono ?_
  rintro e W4 ⟨b, rfl, hb4, hs, MB⟩
  have HS4 := Lib.hid (HS3.out.keep hb4)
  have HHD := Lib.hid MB.1
  have hbl : b.txs.length = 1 := by rw [hs.2.1]; exact bl_n
  have H68 : Hid ((blkL b).toArray[68]? = some (.slice b.ls 1 b.lc)) := by
    show _ = _
    rw [blk_68 MB.1, ← hbl]
    rfl
  clear hb4 hs MB hbl HS3 HB3 HRB
  have hA4 : Below W4.heap.size W4 ((W4.alloc (.cells Tryd.zeroCells56 56)).setCells W4.heap.size 0 (blkL b).toArray.toList) := Below.setCells (Nat.le_refl _) _ _ _ ((Below.refl _ _).alloc (Nat.le_refl _) _)
  have HS5 := Lib.hid (HS4.out.keep hA4)
  have HK5 := Lib.hid (zc_set W4 b HHD.out)
  clear hA4 HS4
  go_upto_region 4 with (refine wpList_store_mid rfl 56 (.tmp 4) (.tmp 27) rfl W4.heap.size 0 (blkL b).toArray rfl rfl (by rw [blk_size HHD.out]; exact zc_there W4 69 (Nat.le_refl _)) (by rw [blk_size HHD.out]; exact blk_infos) (blk_ones _) ?_)
  refine wp_any (fun W => WSt w W g g2 ob oo sa na ca cb ∧ Bk W W4.heap.size 56 (blkL b).toArray) ⟨HS5.out, HK5.out⟩ ?_
  clear HS5 HK5
  generalize W4.heap.size = g4 at *
  rintro W ⟨h, K4⟩
  have HS := Lib.hid h
  have HK4 := Lib.hid K4
  have c0 := h.2.1.cell 0
  have c1 := h.2.1.cell 1
  have z1 := h.2.1.lt
  clear h K4
  have hA : Below W.heap.size W (W.alloc (.cells #[.slice (some ⟨g + 1, 0, none⟩) 1 1, .slice (some ⟨g + 2, 0, none⟩) 1 1] 25)) := (Below.refl _ _).alloc (Nat.le_refl _) _
  have HS1 := Lib.hid (HS.out.keep hA)
  have HK41 := Lib.hid (HK4.out.keep hA)
  have HC := Lib.hid (HRT.out (W.alloc (.cells #[.slice (some ⟨g + 1, 0, none⟩) 1 1, .slice (some ⟨g + 2, 0, none⟩) 1 1] 25)) W.heap.size (HS1.out.2.2.1.mono (by have := HS1.out.2.1.lt; omega)) (Bk.new _ _ _) (HL.out.below HS1.out.1 HL.out.size))
  clear hA HS HRT HK4
  go_wp2_with fail
  refine HC.out.mono ?_
  rintro e W6 ⟨rfl, hb6⟩
  have HS6 := Lib.hid (HS1.out.keep hb6)
  have HK6 := Lib.hid (HK41.out.keep hb6)
  clear hb6 HC HS1 HK41 c0 c1 z1
  have hA6 : Below W6.heap.size W6 ((W6.alloc (.cells (idA (zeros 32)) 29)).setCells W6.heap.size 0 (idA q).toList) := Below.setCells (Nat.le_refl _) _ _ _ ((Below.refl _ _).alloc (Nat.le_refl _) _)
  have HS7 := Lib.hid (HS6.out.keep hA6)
  have HK7 := Lib.hid (HK6.out.keep hA6)
  have HI7 : Hid (Bk ((W6.alloc (.cells (idA (zeros 32)) 29)).setCells W6.heap.size 0 (idA q).toList) W6.heap.size 29 (idA q)) := (Bk.new W6 29 (idA (zeros 32))).setAll (by rw [idA_size, idA_size, HQ.out.1]; rfl)
  clear hA6 HS6 HK6
  go_upto_region 5 with (refine wpList_store_mid rfl 29 (.tmp 6) (.tmp 33) rfl W6.heap.size 0 (idA q) rfl rfl (by rw [idA_size, HQ.out.1]; exact (Bk.new W6 29 (idA (zeros 32))).there 32 (by rw [idA_size]; decide)) (by rw [idA_size, HQ.out.1]; exact id_info') (id_ones _) ?_)
  refine wp_any (fun W => WSt w W g g2 ob oo sa na ca cb ∧ Bk W g4 56 (blkL b).toArray ∧ Bk W W6.heap.size 29 (idA q)) ⟨HS7.out, HK7.out, HI7.out⟩ ?_
  clear HS7 HK7 HI7
  generalize W6.heap.size = g6 at *
  rintro V ⟨h, K4, K6⟩
  have HS := Lib.hid h
  obtain ⟨tl, htl⟩ : ∃ tl : TypeId, tl = 29 := ⟨_, rfl⟩
  obtain ⟨szl, hszl⟩ : ∃ szl : Nat, szl = 32 := ⟨_, rfl⟩
  have hag : ∀ w, (isAgg tl).run Tryd.prog w = .ok true w := by rw [htl]; exact id_agg
  have hsz : ∀ w, (sizeOf tl).run Tryd.prog w = .ok szl w := by rw [htl, hszl]; exact id_size
  have hld : ∀ w', Below V.heap.size V w' → (loadCellsFrom ⟨g6, 0, none⟩ 0 szl #[]).run Tryd.prog w' = .ok (idA q) w' := fun w' hb => by
    rw [hszl]
    exact id_load w' g6 0 q HQ.out.1 ((K6.keep hb).range0)
  have HTL := Lib.hid (show ∀ z, Op.load 29 z = Op.load tl z from fun z => by rw [htl])
  have heq : ∀ W, (Op.equalIn 10000 29 (.agg (idA q)) (.agg (idA q))).run Tryd.prog W = .ok true W := fun W => by
    have h1 := id_eql q q HQ.out.1 HQ.out.1 W
    rw [decide_eq_true rfl] at h1
    exact h1
  have hez : ∀ W, (Op.equalIn 10000 29 (.agg (idA q)) (.agg (idA (zeros 32)))).run Tryd.prog W = .ok false W := fun W => by
    have h1 := id_eql q (zeros 32) HQ.out.1 rfl W
    rw [decide_eq_false HQN.out] at h1
    exact h1
  have e0 : ∀ w', Below V.heap.size V w' → w'.cell? ⟨g + 3, 0, none⟩ = some (.slice (some ⟨g + 1, 0, none⟩) 1 1) := fun w' hb => (HS.out.keep hb).2.1.cell 0
  have e1 : ∀ w', Below V.heap.size V w' → w'.cell? ⟨g + 3, 1, none⟩ = some (.slice (some ⟨g + 2, 0, none⟩) 1 1) := fun w' hb => (HS.out.keep hb).2.1.cell 1
  have e2 : ∀ w', Below V.heap.size V w' → w'.cell? ⟨g2, 1, none⟩ = some (.slice (some ⟨ob, oo, none⟩) 1 cb) := fun w' hb => (HS.out.keep hb).2.2.2.1.cell 1
  have e5 : ∀ w', Below V.heap.size V w' → w'.cell? ⟨ob, oo, none⟩ = some (.int .i64 5) := fun w' hb => (HS.out.keep hb).2.2.2.2.1
  have e68 : ∀ w', Below V.heap.size V w' → w'.cell? ⟨g4, 68, none⟩ = some (.slice b.ls 1 b.lc) := fun w' hb => ((K4.keep hb).cell 68).trans H68.out
  have HB5 : Hid (∀ W, Below V.heap.size V W → Calls Tryd.prog 18 #[.agg #[.slice (some ⟨g + 1, 0, none⟩) 1 1, .slice (some ⟨g + 2, 0, none⟩) 1 1]] W fun e w' => ∃ s c, e = .returned (.slice s 80 c) ∧ Below W.heap.size W w') := fun W hb => by
    have hk := HS.out.keep hb
    refine (HBY.out W (hk.2.2.1.mono (by have := hk.2.1.lt; omega))).mono ?_
    rintro e w' ⟨v', rfl, M, hb'⟩
    obtain ⟨s, c, rfl⟩ := M.slice
    exact ⟨s, c, rfl, hb'⟩
  have HI5 : Hid (∀ W, Below V.heap.size V W → Calls Tryd.prog 19 #[.agg #[.slice (some ⟨g + 1, 0, none⟩) 1 1, .slice (some ⟨g + 2, 0, none⟩) 1 1]] W fun e w' => e = .returned (.agg (idA q)) ∧ Below W.heap.size W w') := fun W hb => by
    have hk := HS.out.keep hb
    exact HID.out W (hk.2.2.1.mono (by have := hk.2.1.lt; omega)) (HL.out.below hk.1 HL.out.size)
  have HZI : Hid (∀ w : World, (zeroValue 29).run Tryd.prog w = .ok (.agg (idA (zeros 32))) w) := fun w => by kernel_rfl
  have hzi := HZI.out
  have HWV := Lib.hid h.1
  have htl2 := HTL.out
  simp only [htl2]
  clear htl2 htl hszl h K4 K6 HBY HID H68 HHD HRD
  generalize idA (zeros 32) = Z0 at *
  go_region_held (fun w' => Below V.heap.size V w')
    (first | with_reducible assumption | with_reducible exact Below.refl _ _ | with_reducible exact (Below.refl _ _).drew)
    (first
      | (go_at_call 18
         with_reducible refine (HB5.out _ (by first | with_reducible assumption | with_reducible exact (Below.refl _ _).drew | with_reducible exact Below.refl _ _)).mono ?_
         rintro e w6 ⟨s6, c6, rfl, hb6⟩
         have hE6 : Below V.heap.size V w6 := by
           refine below_step ?_ ?_ hb6
           · repeat' (first | with_reducible exact Below.refl _ _ | with_reducible assumption | with_reducible exact From.out (by with_reducible assumption) | with_reducible refine Below.drew ?_ | with_reducible refine Below.setCell ?_ ?_ _ | with_reducible refine Below.alloc ?_ ?_ _ | with_reducible exact Nat.le_refl _ | omega | (simp; done) | (simp; omega) | (simp [World.drew]; done) | (simp [World.drew]; omega))
           · first | omega | (simp; done) | (simp; omega) | (simp [World.drew]; done) | (simp [World.drew]; omega)
         have z6 := hE6.size)
      | (go_at_call 19
         with_reducible refine (HI5.out _ (by first | with_reducible assumption | with_reducible exact (Below.refl _ _).drew | with_reducible exact Below.refl _ _)).mono ?_
         rintro e w7 ⟨rfl, hb7⟩
         have hE7 : Below V.heap.size V w7 := by
           refine below_step ?_ ?_ hb7
           · repeat' (first | with_reducible exact Below.refl _ _ | with_reducible assumption | with_reducible exact From.out (by with_reducible assumption) | with_reducible refine Below.drew ?_ | with_reducible refine Below.setCell ?_ ?_ _ | with_reducible refine Below.alloc ?_ ?_ _ | with_reducible exact Nat.le_refl _ | omega | (simp; done) | (simp; omega) | (simp [World.drew]; done) | (simp [World.drew]; omega))
           · first | omega | (simp; done) | (simp; omega) | (simp [World.drew]; done) | (simp [World.drew]; omega)
         have z7 := hE7.size))
  all_goals
    have hWE := Lib.hid (HWV.out.trans (hE7.mono HWV.out.size))
    go_wp2_with fail
    go_ret
    exact ⟨rfl, hWE.out⟩
end Go.Proofs.YtokiinpegclffaaDoor
namespace Go.Proofs.YtokiinpegclffaaDoor
open Go.RowKit
set_option linter.unusedVariables false
set_option linter.unusedSimpArgs false
set_option maxRecDepth 100000

theorem in_back (x : InM) (ys : List Nat) (hk : x.key.length ≤ 100) (hi : x.ix < 4294967296) : inSt (inpB x ++ ys, 0) = (ys, 0) ∧ ∀ y, InSays (inpB x ++ ys, 0) y → inpB y = inpB x := by
  have e0 : inpB x ++ ys = x.tx.1 ++ (toL x.ix 4 ++ (countL x.key.length ++ (x.key ++ ys))) := by unfold inpB; simp only [List.append_assoc]
  have h1 : rdTake (inpB x ++ ys, 0) 32 = (x.tx.1, (toL x.ix 4 ++ (countL x.key.length ++ (x.key ++ ys)), 0)) := by rw [e0]; exact rdTake_app _ _ 0 32 (by rw [x.tx.2.1]; rfl)
  have h2 : inSt1 (inpB x ++ ys, 0) = (toL x.ix 4 ++ (countL x.key.length ++ (x.key ++ ys)), 0) := by unfold inSt1; rw [h1]
  have h3 : rdNum (toL x.ix 4 ++ (countL x.key.length ++ (x.key ++ ys)), 0) 4 = (x.ix, (countL x.key.length ++ (x.key ++ ys), 0)) := rdNum_toL 4 x.ix _ 0 4 rfl (by omega) hi
  have h4 : inSt2 (inpB x ++ ys, 0) = (countL x.key.length ++ (x.key ++ ys), 0) := by unfold inSt2; rw [h2, h3]
  have h5 : rdCount (countL x.key.length ++ (x.key ++ ys), 0) 100 = (x.key.length, (x.key ++ ys, 0)) := rdCount_fits _ _ _ (by omega) hk
  have h6 : rdText (countL x.key.length ++ (x.key ++ ys), 0) 100 = (x.key, (ys, 0)) := by
    rw [text_route]
    show rdTake (rdCount (countL x.key.length ++ (x.key ++ ys), 0) 100).2 (((rdCount (countL x.key.length ++ (x.key ++ ys), 0) 100).1 : Nat) : Int) = _
    rw [h5]
    exact rdTake_app _ _ 0 _ rfl
  refine ⟨by unfold inSt; rw [h4, h6], fun y hy => ?_⟩
  obtain ⟨a, b, c⟩ := hy
  rw [h1] at a
  rw [h2, h3] at b
  rw [h4, h6] at c
  have a2 : y.tx.1 = x.tx.1 := by rw [a]; exact idOf_whole _ x.tx.2.1
  unfold inpB
  rw [a2, b, c]
theorem out_back (x : OutM) (ys : List Nat) (h : OutOk x) : outSt (outB x ++ ys, 0) = (ys, 0) ∧ ∀ y, OutSays (outB x ++ ys, 0) y → outB y = outB x := by
  have e0 : outB x ++ ys = toL (am64 x.am) 8 ++ (x.lock.1 ++ ys) := by unfold outB; simp only [List.append_assoc]
  have h1 : rdNum (outB x ++ ys, 0) 8 = (am64 x.am, (x.lock.1 ++ ys, 0)) := by rw [e0]; exact rdNum_toL 8 _ _ 0 8 rfl (by omega) (am_lt x.am)
  have h2 : outSt1 (outB x ++ ys, 0) = (x.lock.1 ++ ys, 0) := by unfold outSt1; rw [h1]
  have h3 : rdTake (x.lock.1 ++ ys, 0) 32 = (x.lock.1, (ys, 0)) := rdTake_app _ _ 0 32 (by rw [x.lock.2.1]; rfl)
  refine ⟨by unfold outSt; rw [h2, h3], fun y hy => ?_⟩
  obtain ⟨a, b⟩ := hy
  rw [h1] at a
  rw [h2, h3] at b
  have a2 : y.am = x.am := by
    rw [a]
    obtain ⟨l, u⟩ := h
    unfold i64of am64
    simp [IntKind.wrap, IntKind.signed, IntKind.bits]
    omega
  have b2 : y.lock.1 = x.lock.1 := by rw [b]; exact idOf_whole _ x.lock.2.1
  unfold outB
  rw [a2, b2]
theorem ins_back (l : List InM) (ys : List Nat) (h : ∀ x ∈ l, x.key.length ≤ 100 ∧ x.ix < 4294967296) : ∀ k, k ≤ l.length → inSts k (insB l ++ ys, 0) = (insB (l.drop k) ++ ys, 0) := by
  intro k
  induction k with
  | zero => intro _; rfl
  | succ k ih =>
    intro hk
    have e := ih (by omega)
    have hx := List.drop_eq_getElem_cons (show k < l.length by omega)
    have hm := h l[k] (List.getElem_mem _)
    show inSt (inSts k (insB l ++ ys, 0)) = _
    rw [e, hx, insB_cons, List.append_assoc]
    exact (in_back _ _ hm.1 hm.2).1
theorem outs_back (l : List OutM) (ys : List Nat) (h : ∀ x ∈ l, OutOk x) : ∀ k, k ≤ l.length → outSts k (outsB l ++ ys, 0) = (outsB (l.drop k) ++ ys, 0) := by
  intro k
  induction k with
  | zero => intro _; rfl
  | succ k ih =>
    intro hk
    have e := ih (by omega)
    have hx := List.drop_eq_getElem_cons (show k < l.length by omega)
    show outSt (outSts k (outsB l ++ ys, 0)) = _
    rw [e, hx, outsB_cons, List.append_assoc]
    exact (out_back _ _ (h l[k] (List.getElem_mem _))).1
theorem ins_same (l m : List InM) (ys : List Nat) (h : ∀ x ∈ l, x.key.length ≤ 100 ∧ x.ix < 4294967296) (hl : m.length = l.length) (hs : InsSay (insB l ++ ys, 0) m) : insB m = insB l := by
  unfold insB
  congr 1
  apply List.ext_getElem (by rw [List.length_map, List.length_map, hl])
  intro k h1 h2
  rw [List.length_map] at h1 h2
  rw [List.getElem_map, List.getElem_map]
  have hk := hs k m[k] (List.getElem?_eq_getElem h1)
  rw [ins_back l ys h k (by omega), List.drop_eq_getElem_cons h2, insB_cons, List.append_assoc] at hk
  have hm := h l[k] (List.getElem_mem _)
  exact (in_back _ _ hm.1 hm.2).2 _ hk
theorem outs_same (l m : List OutM) (ys : List Nat) (h : ∀ x ∈ l, OutOk x) (hl : m.length = l.length) (hs : OutsSay (outsB l ++ ys, 0) m) : outsB m = outsB l := by
  unfold outsB
  congr 1
  apply List.ext_getElem (by rw [List.length_map, List.length_map, hl])
  intro k h1 h2
  rw [List.length_map] at h1 h2
  rw [List.getElem_map, List.getElem_map]
  have hk := hs k m[k] (List.getElem?_eq_getElem h1)
  rw [outs_back l ys h k (by omega), List.drop_eq_getElem_cons h2, outsB_cons, List.append_assoc] at hk
  exact (out_back _ _ (h l[k] (List.getElem_mem _))).2 _ hk
/-- A transaction that may be read again is read as it was written, and what stands behind it is left. -/
theorem tx_back (t : TxM) (ys : List Nat) (hg : TxGood t) (hi : ∀ x ∈ t.ins, x.ix < 4294967296) (ho : ∀ x ∈ t.outs, OutOk x) : nxSt (txB t ++ ys, 0) = (ys, 0) ∧ ∀ u, NextSays (txB t ++ ys, 0) u → txB u = txB t := by
  have hgi : ∀ x ∈ t.ins, x.key.length ≤ 100 ∧ x.ix < 4294967296 := fun x hx => ⟨hg.2.2 x hx, hi x hx⟩
  have e0 : txB t ++ ys = countL t.ins.length ++ (insB t.ins ++ (countL t.outs.length ++ (outsB t.outs ++ ys))) := by unfold txB; simp only [List.append_assoc]
  have h1 : rdCount (txB t ++ ys, 0) 32 = (t.ins.length, (insB t.ins ++ (countL t.outs.length ++ (outsB t.outs ++ ys)), 0)) := by rw [e0]; exact rdCount_fits _ _ _ (by have := hg.1; omega) hg.1
  have hN : nxN (txB t ++ ys, 0) = t.ins.length := by unfold nxN; rw [h1]
  have hS1 : nxS1 (txB t ++ ys, 0) = (insB t.ins ++ (countL t.outs.length ++ (outsB t.outs ++ ys)), 0) := by unfold nxS1; rw [h1]
  have hS2 : nxS2 (txB t ++ ys, 0) = (countL t.outs.length ++ (outsB t.outs ++ ys), 0) := by
    unfold nxS2
    rw [hN, hS1, ins_back _ _ hgi _ (Nat.le_refl _), List.drop_length]
    rfl
  have h2 : rdCount (countL t.outs.length ++ (outsB t.outs ++ ys), 0) 32 = (t.outs.length, (outsB t.outs ++ ys, 0)) := rdCount_fits _ _ _ (by have := hg.2.1; omega) hg.2.1
  have hM : nxM (txB t ++ ys, 0) = t.outs.length := by unfold nxM; rw [hS2, h2]
  have hS3 : nxS3 (txB t ++ ys, 0) = (outsB t.outs ++ ys, 0) := by unfold nxS3; rw [hS2, h2]
  refine ⟨?_, fun u hu => ?_⟩
  · unfold nxSt
    rw [hM, hS3, outs_back _ _ ho _ (Nat.le_refl _), List.drop_length]
    rfl
  · obtain ⟨a, b, c, d⟩ := hu
    rw [hN] at a
    rw [hS1] at b
    rw [hM] at c
    rw [hS3] at d
    unfold txB
    rw [ins_same _ _ _ hgi a b, outs_same _ _ _ ho c d, a, c]
end Go.Proofs.YtokiinpegclffaaDoor
namespace Go.Proofs.YtokiinpegclffaaDoor
open Go.ChangeShapes Go.WideShapes Go.ChangeAt Go.RowKit
open Go.Deep (open_slice choose_lt)
set_option linter.unusedVariables false
set_option linter.unusedSimpArgs false
set_option maxRecDepth 100000

/-- 32 bytes. -/
def IsI (x : List Nat) : Prop := x.length = 32 ∧ ∀ b ∈ x, b < 256
theorem wf_u64p {z : Int} (h : (Lit.int .u64 z).wf = true) : 0 ≤ z ∧ z < 18446744073709551616 := by
  simp [Lit.wf, IntKind.min, IntKind.max, IntKind.signed, IntKind.bits] at h
  omega
theorem wf_i64p {z : Int} (h : (Lit.int .i64 z).wf = true) : -9223372036854775808 ≤ z ∧ z ≤ 9223372036854775807 := by
  simp [Lit.wf, IntKind.min, IntKind.max, IntKind.signed, IntKind.bits] at h
  omega
section
variable {H : Type} {enc : TypeId × Value → H} {P : Program} {w : World} {base : Nat} {spare : Nat → Bool} {held : Bool}
theorem i_of_trod {t e : TypeId} {f : Nat} {cs : List Value} {d : DataW H} {p : List MemPlace} (ht : P.underlying t = some (.array 32 e)) (he : P.underlying e = some (.int .u8)) (hce : P.cellsOf e = 1)
    (hlen : cs.length = 32) (h : DataW.trod enc P w base spare held f t cs = some (d, p)) : ∃ x, IsI x ∧ cs = (idA x).toList := by
  obtain ⟨xs, m, _, _, hcl, hxl, hi⟩ := DataW.trod_array ht h
  have hz : ∀ i, i < 32 → ∃ z : Nat, cs[i]? = some (.int .u8 (z : Int)) ∧ z < 256 := by
    intro i hin
    have h1 := hi i hin
    rw [hce, List.getElem?_eq_getElem (by omega)] at h1
    obtain ⟨z, e1, _, hw⟩ := DataW.trod_int he h1
    have hl : i < cs.length := by omega
    simp only [Nat.mul_one] at e1
    rw [List.drop_eq_getElem_cons hl] at e1
    simp only [List.take_succ_cons, List.take_zero, List.cons.injEq, and_true] at e1
    have hb := wf_byte hw
    obtain ⟨n, rfl⟩ := Int.eq_ofNat_of_zero_le hb.1
    refine ⟨n, ?_, by omega⟩
    rw [List.getElem?_eq_getElem hl]
    simpa using e1
  obtain ⟨g, hg⟩ := choose_lt hz
  refine ⟨(List.range 32).map g, ⟨by simp, fun b hb => ?_⟩, ?_⟩
  · obtain ⟨i, hi, rfl⟩ := List.mem_map.1 hb
    exact (hg i (by simpa using hi)).2
  · apply List.ext_getElem?
    intro i
    rw [show (idA ((List.range 32).map g)).toList = ((List.range 32).map g).map byteV from rfl, List.getElem?_map, List.getElem?_map]
    by_cases hi : i < 32
    · rw [(hg i hi).1, List.getElem?_range hi]
      rfl
    · rw [List.getElem?_eq_none (by omega), List.getElem?_eq_none (by simp; omega)]
      rfl
theorem u64_of_trod {t : TypeId} {f o : Nat} {cs : List Value} {d : DataW H × List MemPlace} (ht : P.underlying t = some (.int .u64)) (ho : o < cs.length)
    (h : DataW.trod enc P w base spare held f t ((cs.drop o).take 1) = some d) : ∃ n : Nat, n < 18446744073709551616 ∧ cs[o]? = some (.int .u64 (n : Int)) := by
  obtain ⟨z, e1, _, hw⟩ := DataW.trod_int ht h
  rw [List.drop_eq_getElem_cons ho] at e1
  simp only [List.take_succ_cons, List.take_zero, List.cons.injEq, and_true] at e1
  have hb := wf_u64p hw
  obtain ⟨n, rfl⟩ := Int.eq_ofNat_of_zero_le hb.1
  exact ⟨n, by omega, by rw [List.getElem?_eq_getElem ho, e1]⟩
theorem i64_of_trod {t : TypeId} {f o : Nat} {cs : List Value} {d : DataW H × List MemPlace} (ht : P.underlying t = some (.int .i64)) (ho : o < cs.length)
    (h : DataW.trod enc P w base spare held f t ((cs.drop o).take 1) = some d) : ∃ n : Int, (-9223372036854775808 ≤ n ∧ n ≤ 9223372036854775807) ∧ cs[o]? = some (.int .i64 n) := by
  obtain ⟨z, e1, _, hw⟩ := DataW.trod_int ht h
  rw [List.drop_eq_getElem_cons ho] at e1
  simp only [List.take_succ_cons, List.take_zero, List.cons.injEq, and_true] at e1
  exact ⟨z, wf_i64p hw, by rw [List.getElem?_eq_getElem ho, e1]⟩
end
theorem bytes_trodX {H : Type} {enc : TypeId × Value → H} {w : World} {base f : Nat} {spare : Nat → Bool} {held : Bool} {cs : List Value} {x : DataW H × List MemPlace}
    (hf : DataW.trod enc Tryd.prog w base spare held f 33 cs = some x) : ∃ (v : Value) (xs : List Nat), cs = [v] ∧ BsV w w.heap.size v xs := by
  rcases open_ints Tryd.underlying33 Tryd.underlying5 (by kernel_rfl) hf with ⟨rfl, _⟩ | ⟨a, len, cap, zs, rfl, _, hl, hm, hz, _, hcell, hwz⟩
  · exact ⟨_, [], rfl, none, 0, rfl, Nat.le_refl _, by omega, by simp, fun h => absurd rfl h⟩
  · have hlz : len ≤ zs.length := by rw [hz]; split <;> omega
    have hxl : ((zs.take len).map Int.toNat).length = len := by rw [List.length_map, List.length_take]; omega
    refine ⟨_, (zs.take len).map Int.toNat, rfl, some a, cap, by rw [hxl], by omega, by unfold maxLen at hm; omega, ?_, ?_⟩
    · intro x hx
      simp only [List.mem_map] at hx
      obtain ⟨z, hzm, rfl⟩ := hx
      have := wf_byte (hwz z (List.mem_of_mem_take hzm))
      omega
    · intro hne
      have hpos : 0 < len := by
        rcases Nat.eq_zero_or_pos len with h0 | h0
        · subst h0; simp at hne
        · exact h0
      have c0 := hcell 0 (by omega)
      obtain ⟨b, o, spot⟩ := a
      have hspot : spot = none := by simpa [Addr.add] using World.cell?_spot c0
      subst hspot
      refine ⟨b, o, rfl, ?_, fun i hi => ?_⟩
      · exact block_lt_of_cell (a := ⟨b, o, none⟩) (by have := c0; simpa [Go.WideShapes.add_plain] using this)
      · have hi' : i < len := by rw [hxl] at hi; exact hi
        have ci := hcell i (by omega)
        rw [Addr.add_mid] at ci
        rw [ci]
        have hzi : zs[i]? = some (zs[i]'(by omega)) := List.getElem?_eq_getElem (by omega)
        have hw := wf_byte (hwz _ (List.getElem_mem (show i < zs.length by omega)))
        have e1 : zs.getD i 0 = zs[i]'(by omega) := by rw [List.getD, hzi]; rfl
        have e2 : nth ((zs.take len).map Int.toNat) i = (zs[i]'(by omega)).toNat := by
          unfold nth
          rw [List.getD, List.getElem?_map, List.getElem?_take_of_lt hi', hzi]; rfl
        rw [e1, e2]
        congr 2
        omega
theorem wf_u32' {z : Int} (h : (Lit.int .u32 z).wf = true) : 0 ≤ z ∧ z < 4294967296 := by
  simp [Lit.wf, IntKind.min, IntKind.max, IntKind.signed, IntKind.bits] at h
  omega
section
variable {H : Type} {enc : TypeId × Value → H} {P : Program} {w : World} {base : Nat} {spare : Nat → Bool} {held : Bool}
theorem u32_of_trod {t : TypeId} {f o : Nat} {cs : List Value} {d : DataW H × List MemPlace} (ht : P.underlying t = some (.int .u32)) (ho : o < cs.length)
    (h : DataW.trod enc P w base spare held f t ((cs.drop o).take 1) = some d) : ∃ n : Nat, n < 4294967296 ∧ cs[o]? = some (.int .u32 (n : Int)) := by
  obtain ⟨z, e1, _, hw⟩ := DataW.trod_int ht h
  rw [List.drop_eq_getElem_cons ho] at e1
  simp only [List.take_succ_cons, List.take_zero, List.cons.injEq, and_true] at e1
  have hb := wf_u32' hw
  obtain ⟨n, rfl⟩ := Int.eq_ofNat_of_zero_le hb.1
  exact ⟨n, by omega, by rw [List.getElem?_eq_getElem ho, e1]⟩
end
theorem drop_one {cs : List Value} {o : Nat} {v : Value} (h : cs[o]? = some v) : cs.drop o = v :: cs.drop (o + 1) := by
  obtain ⟨ho, hv⟩ := List.getElem?_eq_some_iff.1 h
  rw [List.drop_eq_getElem_cons ho, hv]
theorem in_trod {H : Type} {enc : TypeId × Value → H} {w : World} {base f : Nat} {spare : Nat → Bool} {held : Bool} {cs : List Value} {d : DataW H × List MemPlace} (hl : cs.length = 34)
    (hf : DataW.trod enc Tryd.prog w base spare held f 35 cs = some d) : ∃ x, InV w w.heap.size x ∧ cs = inL x := by
  obtain ⟨d, p⟩ := d
  have h33 : Tryd.prog.cellsOf 32 = 33 := by kernel_rfl
  have h32 : Tryd.prog.cellsOf 29 = 32 := by kernel_rfl
  have h1 : Tryd.prog.cellsOf 30 = 1 := by kernel_rfl
  have hs1 : Tryd.prog.cellsOf 33 = 1 := by kernel_rfl
  obtain ⟨xs, n, _, _, _, hxl, hi⟩ := DataW.trod_struct Tryd.underlying35 hf
  have e0 : DataW.trod enc Tryd.prog w base spare held n 32 ((cs.drop 0).take (Tryd.prog.cellsOf 32)) = xs[0]? := hi 0 _ rfl
  rw [h33, List.getElem?_eq_getElem (by rw [hxl]; decide)] at e0
  have e1 : DataW.trod enc Tryd.prog w base spare held n 33 ((cs.drop 33).take (Tryd.prog.cellsOf 33)) = xs[1]? := hi 1 _ rfl
  rw [hs1, List.getElem?_eq_getElem (by rw [hxl]; decide)] at e1
  obtain ⟨ys, n2, _, _, _, hyl, hj⟩ := DataW.trod_struct Tryd.underlying32 e0
  have f0 : DataW.trod enc Tryd.prog w base spare held n2 29 ((((cs.drop 0).take 33).drop 0).take (Tryd.prog.cellsOf 29)) = ys[0]? := hj 0 _ rfl
  rw [h32, List.getElem?_eq_getElem (by rw [hyl]; decide)] at f0
  have f1 : DataW.trod enc Tryd.prog w base spare held n2 30 ((((cs.drop 0).take 33).drop 32).take (Tryd.prog.cellsOf 30)) = ys[1]? := hj 1 _ rfl
  rw [h1, List.getElem?_eq_getElem (by rw [hyl]; decide)] at f1
  have hl33 : ((cs.drop 0).take 33).length = 33 := by rw [List.length_take, List.length_drop, hl]; decide
  obtain ⟨q, q1, q2⟩ := i_of_trod Tryd.underlying29 Tryd.underlying5 (by kernel_rfl) (by rw [List.length_take, List.length_drop, hl33]; decide) f0
  obtain ⟨ix, i1, i2⟩ := u32_of_trod Tryd.underlying30 (by rw [hl33]; decide) f1
  obtain ⟨v, zs, k1, k2⟩ := bytes_trodX e1
  obtain ⟨ks, kc, rfl, k3⟩ := k2
  refine ⟨⟨⟨q, q1⟩, ix, ks, kc, zs⟩, ⟨i1, ks, kc, rfl, k3⟩, ?_⟩
  have c32 : cs[32]? = some (.int .u32 (ix : Int)) := by
    rw [List.drop_zero, List.getElem?_take_of_lt (by decide)] at i2
    exact i2
  have c33 : cs.drop 33 = [.slice ks zs.length kc] := by
    rw [List.take_of_length_le (by rw [List.length_drop, hl]; decide)] at k1
    exact k1
  have c0 : cs.take 32 = q.map byteV := by
    have e : ((((cs.drop 0).take 33).drop 0).take 32) = cs.take 32 := by
      rw [List.drop_zero, List.drop_zero, List.take_take]
      rfl
    rw [e] at q2
    exact q2
  rw [← List.take_append_drop 32 cs, c0, drop_one c32, c33]
  rfl
theorem out_trod {H : Type} {enc : TypeId × Value → H} {w : World} {base f : Nat} {spare : Nat → Bool} {held : Bool} {cs : List Value} {d : DataW H × List MemPlace} (hl : cs.length = 33)
    (hf : DataW.trod enc Tryd.prog w base spare held f 37 cs = some d) : ∃ x, OutOk x ∧ cs = ouL x := by
  obtain ⟨d, p⟩ := d
  have h32 : Tryd.prog.cellsOf 29 = 32 := by kernel_rfl
  have h1 : Tryd.prog.cellsOf 2 = 1 := by kernel_rfl
  obtain ⟨xs, n, _, _, _, hxl, hi⟩ := DataW.trod_struct Tryd.underlying37 hf
  have e0 : DataW.trod enc Tryd.prog w base spare held n 2 ((cs.drop 0).take (Tryd.prog.cellsOf 2)) = xs[0]? := hi 0 _ rfl
  rw [h1, List.getElem?_eq_getElem (by rw [hxl]; decide)] at e0
  have e1 : DataW.trod enc Tryd.prog w base spare held n 29 ((cs.drop 1).take (Tryd.prog.cellsOf 29)) = xs[1]? := hi 1 _ rfl
  rw [h32, List.getElem?_eq_getElem (by rw [hxl]; decide)] at e1
  obtain ⟨a, a1, a2⟩ := i64_of_trod Tryd.underlying2 (by rw [hl]; decide) e0
  obtain ⟨q, q1, q2⟩ := i_of_trod Tryd.underlying29 Tryd.underlying5 (by kernel_rfl) (by rw [List.length_take, List.length_drop, hl]; decide) e1
  refine ⟨⟨a, ⟨q, q1⟩⟩, a1, ?_⟩
  have c1 : cs.drop 1 = q.map byteV := by
    rw [List.take_of_length_le (by rw [List.length_drop, hl]; decide)] at q2
    exact q2
  have := drop_one a2
  rw [List.drop_zero, c1] at this
  exact this
/-- A slice of elements of any kind, wherever it comes from. -/
theorem rows_trod {α : Type} {R : RowT α} (hR : R.Ok) (Pr : α → Prop) {H : Type} {enc : TypeId × Value → H} {w : World} {base f : Nat} {spare : Nat → Bool} {held : Bool} {cs0 : List Value} {d : DataW H × List MemPlace}
    (hce : Tryd.prog.cellsOf R.e = R.k) (hel : ∀ n cs d, cs.length = R.k → DataW.trod enc Tryd.prog w base spare held n R.e cs = some d → ∃ x, Pr x ∧ cs = R.c x)
    (hf : DataW.trod enc Tryd.prog w base spare held f R.t cs0 = some d) : ∃ s L c, cs0 = [.slice s L.length c] ∧ RowV R w w.heap.size (.slice s L.length c) L ∧ ∀ x ∈ L, Pr x := by
  rcases open_slice hR.ht hf with ⟨hcs, _⟩ | ⟨a, len, cap, m, n, D, Pl, hcs, _, hlc, hcm, hm, _, hx⟩
  · exact ⟨none, [], 0, hcs, ⟨none, 0, rfl, Nat.le_refl _, by omega, fun h => absurd rfl h⟩, fun x hx => by cases hx⟩
  · have hlm : len ≤ m := by rw [hm]; split <;> omega
    have hk : ∀ i, i < len → ∃ x, Pr x ∧ ∀ j u, (R.c x)[j]? = some u → w.cell? ((a.add (i * R.k)).add j) = some u := by
      intro i hi
      obtain ⟨cs, hc, ht⟩ := hx i (by omega)
      rw [hce] at hc
      obtain ⟨_, hl, hcell⟩ := World.cells?_some hc
      obtain ⟨x, hx1, rfl⟩ := hel _ _ _ hl ht
      refine ⟨x, hx1, fun j u hj => ?_⟩
      have hjl := (List.getElem?_eq_some_iff.1 hj).1
      rw [hcell j (by omega)]
      exact hj
    haveI : Inhabited α := ⟨R.z⟩
    obtain ⟨g, hg⟩ := choose_lt hk
    have hll : ((List.range len).map g).length = len := by simp
    refine ⟨some a, (List.range len).map g, cap, by rw [hll]; exact hcs, ⟨some a, cap, rfl, by omega, by unfold maxLen at hcm; omega, fun hne => ?_⟩, fun x hx => ?_⟩
    · have hpos : 0 < len := by
        rcases Nat.eq_zero_or_pos len with h0 | h0
        · subst h0; simp at hne
        · exact h0
      obtain ⟨u0, hu0⟩ : ∃ u, (R.c (g 0))[0]? = some u := ⟨_, List.getElem?_eq_getElem (by rw [hR.len]; exact hR.pos)⟩
      have c0 := (hg 0 hpos).2 0 _ hu0
      obtain ⟨b, o, spot⟩ := a
      have hspot : spot = none := by simpa [Addr.add] using World.cell?_spot c0
      subst hspot
      refine ⟨b, o, rfl, ?_, fun i x hxi => ?_⟩
      · exact block_lt_of_cell (a := ⟨b, o, none⟩) (by have := c0; simpa [Go.WideShapes.add_plain] using this)
      · have hil : i < len := by
          have := (List.getElem?_eq_some_iff.1 hxi).1
          simpa using this
        have hxe : x = g i := by simp [hil] at hxi; exact hxi.symm
        subst hxe
        intro j u hu
        have h3 := (hg i hil).2 j u hu
        simp only [Go.WideShapes.add_plain] at h3
        exact h3
    · obtain ⟨i, hi, rfl⟩ := List.mem_map.1 hx
      exact (hg i (by simpa using hi)).1
theorem tx_trod {H : Type} {enc : TypeId × Value → H} {w : World} {base f : Nat} {spare : Nat → Bool} {held : Bool} {cs : List Value} {d : DataW H × List MemPlace} (hl : cs.length = 2)
    (hf : DataW.trod enc Tryd.prog w base spare held f 25 cs = some d) : ∃ t, TxV w w.heap.size t ∧ cs = txL t := by
  obtain ⟨d, p⟩ := d
  have h1 : Tryd.prog.cellsOf 22 = 1 := by kernel_rfl
  have h2 : Tryd.prog.cellsOf 23 = 1 := by kernel_rfl
  obtain ⟨xs, n, _, _, _, hxl, hi⟩ := DataW.trod_struct Tryd.underlying25 hf
  have e0 : DataW.trod enc Tryd.prog w base spare held n 22 ((cs.drop 0).take (Tryd.prog.cellsOf 22)) = xs[0]? := hi 0 _ rfl
  rw [h1, List.getElem?_eq_getElem (by rw [hxl]; decide)] at e0
  have e1 : DataW.trod enc Tryd.prog w base spare held n 23 ((cs.drop 1).take (Tryd.prog.cellsOf 23)) = xs[1]? := hi 1 _ rfl
  rw [h2, List.getElem?_eq_getElem (by rw [hxl]; decide)] at e1
  obtain ⟨s0, L0, c0, a1, a2, a3⟩ := rows_trod inR_ok (fun x => InV w w.heap.size x) (by kernel_rfl) (fun n cs d h1 h2 => in_trod h1 h2) e0
  obtain ⟨s1, L1, c1, b1, b2, b3⟩ := rows_trod outR_ok OutOk (by kernel_rfl) (fun n cs d h1 h2 => out_trod h1 h2) e1
  refine ⟨⟨s0, c0, L0, s1, c1, L1⟩, ⟨a2, a3, b2, b3⟩, ?_⟩
  have hd := List.take_append_drop 1 cs
  rw [List.drop_zero] at a1
  rw [List.take_of_length_le (by rw [List.length_drop, hl]; decide)] at b1
  rw [← hd, a1, b1]
  rfl
theorem tx_arg {H : Type} {enc : TypeId × Value → H} {w : World} {base b0 : Nat} {spare : Nat → Bool} {held : Bool} {r : Reach} {v : Value} {d : DataW H} {p : List MemPlace}
    (hv : Value.okWide Tryd.prog w r b0 25 v) (h : DataW.Trod enc Tryd.prog w base spare held 25 v d p) : ∃ t, TxV w w.heap.size t ∧ v = txv t := by
  obtain ⟨cs, rfl, hsz, _⟩ : ∃ cs, v = .agg cs ∧ cs.size = Tryd.prog.cellsOf 25 ∧ Row.okWide Tryd.prog w r b0 25 cs := by simpa [Value.okWide, Tryd.underlying25] using hv
  obtain ⟨fuel, hf⟩ := h
  have h2 : Tryd.prog.cellsOf 25 = 2 := by kernel_rfl
  rw [h2] at hsz
  obtain ⟨t, h3, h4⟩ := tx_trod (cs := cs.toList) (by rw [Array.length_toList, hsz]) hf
  refine ⟨t, h3, ?_⟩
  have e : cs = #[t.iv, t.ov] := by
    apply Array.ext'
    exact h4
  rw [e]
end Go.Proofs.YtokiinpegclffaaDoor
