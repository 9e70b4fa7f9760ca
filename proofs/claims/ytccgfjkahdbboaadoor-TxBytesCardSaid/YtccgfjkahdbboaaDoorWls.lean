/-
  The wire laws' head: what is written is read again.
-/
import Derived.Test.YtccgfjkahdbboaaDoorRed
import Derived.Test.YtccgfjkahdbboaaDoorStrP
import Derived.Lib.SlBytesConst
namespace Go.Proofs.YtccgfjkahdbboaaDoor
open Go.RowKit
set_option linter.unusedVariables false

theorem Wrote.below {g lo : Nat} {v : Value} {xs ys : List Nat} {w w' : World} {e : Ending} {B : Nat} (h : Wrote g lo v ys w e w') (hM : Mine w lo v xs) (hlo : B ≤ lo) (hg : B ≤ g) (hB : B ≤ w.heap.size) : Below B w w' := by
  obtain ⟨_, _, _, _, h, _⟩ := h
  refine h.below hB (fun k hk => ?_)
  rcases hk with hk | hk
  · omega
  · exact Nat.le_trans hlo (hM.slb_lo hk).1
theorem heap_ltw {w : World} {g : Nat} {o : Obj} (h : w.heap[g]? = some o) : g < w.heap.size := by
  rcases Nat.lt_or_ge g w.heap.size with hlt | hge
  · exact hlt
  · rw [Array.getElem?_eq_none hge] at h; cases h
theorem bsn_rowf {w : World} {g n cap : Nat} {t : TypeId} {fr : Nat × Nat} {ys : List Nat} {S : Nat → Prop} (hg : w.heap[g]? = some (.cells (idA ys) t fr)) (hS : ¬ S g) (hn : n = ys.length) (hc : n ≤ cap) (hc2 : cap < 9223372036854775808) (hx : ∀ y ∈ ys, y < 256) : BsN w S (.slice (some ⟨g, 0, none⟩) n cap) ys := by
  subst hn
  refine ⟨some ⟨g, 0, none⟩, cap, rfl, hc, hc2, hx, fun _ => ⟨g, 0, rfl, heap_ltw hg, hS, fun i hi => ?_⟩⟩
  rw [Nat.zero_add, cell_of_row w g i _ _ _ hg, idA_get ys i hi]
  rfl
theorem bsn_row {w : World} {g n cap : Nat} {t : TypeId} {ys : List Nat} {S : Nat → Prop} (hg : Bk w g t (idA ys)) (hS : ¬ S g) (hn : n = ys.length) (hc : n ≤ cap) (hc2 : cap < 9223372036854775808) (hx : ∀ y ∈ ys, y < 256) : BsN w S (.slice (some ⟨g, 0, none⟩) n cap) ys := bsn_rowf hg hS hn hc hc2 hx
theorem ok_small (s : St) (h : s.1.length ≤ 8) (h2 : s.2 = 0) : StOk s := ⟨by omega, by omega⟩
end Go.Proofs.YtccgfjkahdbboaaDoor
