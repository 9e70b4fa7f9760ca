/- The contracts of package tx's Bytes and ID. -/
import Derived.Test.YtkpffjcdalclmaaDoorTxY
namespace Go.Proofs.YtkpffjcdalclmaaDoor
open Go.RowKit
set_option linter.unusedVariables false
set_option linter.unusedSimpArgs false
set_option maxRecDepth 100000
theorem InV.lt {w : World} {B : Nat} {x : InM} (h : InV w B x) : ∀ b ∈ inpB x, b < 256 := by
  intro b hb
  unfold inpB at hb
  simp only [List.mem_append] at hb
  obtain ⟨_, _, _, _, _, hk, _⟩ := h.2
  rcases hb with h1 | h1 | h1 | h1
  · exact x.tx.2.2 b h1
  · exact toL_lt' _ _ b h1
  · exact countL_lt _ b h1
  · exact hk b h1
theorem outB_lt (x : OutM) : ∀ b ∈ outB x, b < 256 := by
  intro b hb
  unfold outB at hb
  rcases List.mem_append.1 hb with h1 | h1
  · exact toL_lt' _ _ b h1
  · exact x.lock.2.2 b h1
theorem TxV.lt {w : World} {B : Nat} {t : TxM} (h : TxV w B t) : ∀ b ∈ txB t, b < 256 := by
  intro b hb
  unfold txB insB outsB at hb
  simp only [List.mem_append, List.mem_flatten, List.mem_map] at hb
  rcases hb with h1 | ⟨_, ⟨x, hx, rfl⟩, h1⟩ | h1 | ⟨_, ⟨x, hx, rfl⟩, h1⟩
  · exact countL_lt _ b h1
  · exact (h.2.1 x hx).lt b h1
  · exact countL_lt _ b h1
  · exact outB_lt x b h1
end Go.Proofs.YtkpffjcdalclmaaDoor
