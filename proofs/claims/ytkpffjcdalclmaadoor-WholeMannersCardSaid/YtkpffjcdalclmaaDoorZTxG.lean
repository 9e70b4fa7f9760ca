/- The contract of package tx's Read. -/
import Derived.Test.YtkpffjcdalclmaaDoorZTxF
import Derived.Laws.ResultCell
namespace Go.Proofs.YtkpffjcdalclmaaDoor
open Go.RowKit
set_option linter.unusedVariables false
set_option linter.unusedSimpArgs false
set_option maxRecDepth 100000
theorem MineT.but' {W W' : World} {lo g : Nat} {cs : Array Value} {t : TxM} (h : MineT W lo t) (hb : But (fun k => k = g) W W') (K : Bk W g 89 cs) : MineT W' lo t := ⟨h.1.but' hb K ne_in_tx, fun x hx => (h.2.1 x hx).but' hb K ht_tx, h.2.2.but' hb K ne_out_tx⟩
theorem MineT.mono {W : World} {lo lo' : Nat} {t : TxM} (h : MineT W lo t) (hl : lo' ≤ lo) : MineT W lo' t := by
  refine ⟨?_, fun x hx => (h.2.1 x hx).mono hl, ?_⟩
  · rcases h.1 with e | ⟨T, cap, z, e, hc, hc2, hT, K⟩
    · exact .inl e
    · exact .inr ⟨T, cap, z, e, hc, hc2, by omega, K⟩
  · rcases h.2.2 with e | ⟨T, cap, z, e, hc, hc2, hT, K⟩
    · exact .inl e
    · exact .inr ⟨T, cap, z, e, hc, hc2, by omega, K⟩
end Go.Proofs.YtkpffjcdalclmaaDoor
