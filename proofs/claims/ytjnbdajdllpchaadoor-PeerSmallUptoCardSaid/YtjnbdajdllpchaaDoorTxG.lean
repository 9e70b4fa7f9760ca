/-
  The contract of package tx's Read.
-/
import Derived.Test.YtjnbdajdllpchaaDoorTxF
import Derived.Laws.ResultCell
namespace Go.Proofs.YtjnbdajdllpchaaDoor
open Go.RowKit
set_option linter.unusedVariables false
set_option linter.unusedSimpArgs false
set_option maxRecDepth 100000

theorem tx_ret {P : Func} {a : Act} {W : World} {g nm k : Nat} {A : Array Value} {v : Value} (hp : P.results = #[ResultVar.cell nm 78, ResultVar.tmp k]) (hd : a.defers = []) (hv : a.tmps.getD nm undef = .pointer (some ⟨g, 0, none⟩)) (hk : a.tmps.getD k undef = v) (hs : A.size = 2) (hR : Bk W g 78 A) {K : Ending → World → Prop} (hK : K (.returned (.tuple #[.agg A, v])) W) :
    bodyPost Tryd.prog P K Exit.ret a W := by
  have h1 := run_loadVar_row (P := Tryd.prog) W g 78 78 A (0, 0) _ hR Tryd.underlying78 rfl (by rw [hs]; exact tx_infos)
  refine bodyPost_ret (v := .tuple #[.agg A, v]) ?_ hd hK
  rw [results_cell_tmp hp, hv, hk]
  show ((asAddr (.pointer (some ⟨g, 0, none⟩))).run Tryd.prog W).andThen _ = _
  simp only [asAddr, Sem.run_pure, Result.andThen_ok, h1]
theorem MineT.but' {W W' : World} {lo g : Nat} {cs : Array Value} {t : TxM} (h : MineT W lo t) (hb : But (fun k => k = g) W W') (K : Bk W g 78 cs) : MineT W' lo t := ⟨h.1.but' hb K ne_in_tx, fun x hx => (h.2.1 x hx).but' hb K ht_tx, h.2.2.but' hb K ne_out_tx⟩
theorem MineT.mono {W : World} {lo lo' : Nat} {t : TxM} (h : MineT W lo t) (hl : lo' ≤ lo) : MineT W lo' t := by
  refine ⟨?_, fun x hx => (h.2.1 x hx).mono hl, ?_⟩
  · rcases h.1 with e | ⟨T, cap, z, e, hc, hc2, hT, K⟩
    · exact .inl e
    · exact .inr ⟨T, cap, z, e, hc, hc2, by omega, K⟩
  · rcases h.2.2 with e | ⟨T, cap, z, e, hc, hc2, hT, K⟩
    · exact .inl e
    · exact .inr ⟨T, cap, z, e, hc, hc2, by omega, K⟩
def tx0 : TxM := ⟨none, 0, [], none, 0, []⟩
end Go.Proofs.YtjnbdajdllpchaaDoor
