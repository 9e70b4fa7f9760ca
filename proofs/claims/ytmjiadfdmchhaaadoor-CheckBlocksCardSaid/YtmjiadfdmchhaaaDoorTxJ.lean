/-
  The contract of package tx's ReadBlock.
-/
import Derived.Test.YtmjiadfdmchhaaaDoorTxI
namespace Go.Proofs.YtmjiadfdmchhaaaDoor
open Go.RowKit
set_option linter.unusedVariables false
set_option linter.unusedSimpArgs false
set_option maxRecDepth 100000

def rbY (xs : List Nat) : List Nat := (rdTake (xs, 0) 80).1
def rbS1 (xs : List Nat) : St := (rdTake (xs, 0) 80).2
def rbN (xs : List Nat) : Nat := (rdCount (rbS1 xs) 32).1
def rbS2 (xs : List Nat) : St := (rdCount (rbS1 xs) 32).2
def nxSts : Nat → St → St
  | 0, s => s
  | k + 1, s => nxSt (nxSts k s)
def rbSt (xs : List Nat) : St := nxSts (rbN xs) (rbS2 xs)
def rbHd (xs : List Nat) : Hd := if (rbY xs).length = 80 then hOf (rbY xs) else hd0
def TxsSay (s : St) (l : List TxM) : Prop := ∀ k t, l[k]? = some t → NextSays (nxSts k s) t
def BlkSays (xs : List Nat) (b : BlkM) : Prop := b.hd = rbHd xs ∧ b.txs.length = rbN xs ∧ TxsSay (rbS2 xs) b.txs
def MineB (W : World) (lo : Nat) (b : BlkM) : Prop := IsHd b.hd ∧ MineR txR W lo b.lv b.txs ∧ ∀ t ∈ b.txs, MineT W lo t
def blk0 : BlkM := ⟨hd0, none, 0, []⟩
theorem nxSts_inv (k : Nat) (s : St) (h : StI s) : StI (nxSts k s) := by
  induction k with
  | zero => exact h
  | succ k ih => exact nxSt_inv _ ih
theorem nxSts_shr (k : Nat) (s : St) : (nxSts k s).1.length ≤ s.1.length := by
  induction k with
  | zero => exact Nat.le_refl _
  | succ k ih => exact Nat.le_trans (nxSt_shr _) ih
theorem TxsSay.snoc {s : St} {l : List TxM} {x : TxM} (h : TxsSay s l) (hx : NextSays (nxSts l.length s) x) : TxsSay s (l ++ [x]) := by
  intro k y hk
  rcases Nat.lt_or_ge k l.length with hlt | hge
  · rw [List.getElem?_append_left hlt] at hk
    exact h k y hk
  · rw [List.getElem?_append_right hge] at hk
    match hj : k - l.length, hk with
    | 0, hk =>
      obtain rfl : x = y := by simpa using hk
      rw [show k = l.length by omega]
      exact hx
theorem MineT.keptR {w W : World} {lo : Nat} {t : TxM} (h : MineT w lo t) (hk : KeptR txR w W) : MineT W lo t := ⟨h.1.keptR hk (by decide), fun x hx => (h.2.1 x hx).keptR hk (by decide), h.2.2.keptR hk (by decide)⟩
theorem MineT.butT {W W' : World} {lo g : Nat} {ty : TypeId} {cs : Array Value} {t : TxM} (h : MineT W lo t) (hb : But (fun k => k = g) W W') (K : Bk W g ty cs) (h1 : ty ≠ inR.e) (h2 : ty ≠ outR.e) (h3 : ty ≠ 5) : MineT W' lo t := ⟨h.1.but' hb K h1, fun x hx => (h.2.1 x hx).but' hb K h3, h.2.2.but' hb K h2⟩
theorem hd0_hOf (ys : List Nat) (h : ∀ x ∈ ys, x < 256) : IsHd (if ys.length = 80 then hOf ys else hd0) := by
  split
  · rename_i h80
    exact hOf_is h80 h
  · exact hd0_is
theorem blk_infos : (Tryd.prog.info? 40).map (·.size) = some 69 := by kernel_rfl
theorem blk_size {b : BlkM} (h : IsHd b.hd) : (blkL b).toArray.size = 69 := by rw [List.size_toArray]; exact blkL_len h
theorem hdL_one (h : Hd) : ∀ v ∈ hdL h, v.oneCell' = true := fun v hv => by
  have := Array.all_eq_true_iff_forall_mem.1 (hdA_one h) v (by unfold hdA; simpa using hv)
  exact this
theorem blk_ones (b : BlkM) : (blkL b).toArray.all (·.oneCell') = true := all_oneCell_toArray (fun v hv => by
  unfold blkL at hv
  rcases List.mem_append.1 hv with h | h
  · exact hdL_one _ v h
  · rw [List.mem_singleton] at h
    subst h
    rfl)
theorem blk_put_hd (h h' : Hd) (k : IsHd h) (k' : IsHd h') (s : Option Addr) (c : Nat) (l : List TxM) : ovr (blkL ⟨h, s, c, l⟩).toArray 0 (hdL h') = (blkL ⟨h', s, c, l⟩).toArray := ovr_app _ _ _ (by rw [hdL_length k, hdL_length k'])
theorem blk_put_ls (h : Hd) (k : IsHd h) (s s' : Option Addr) (c c' : Nat) (l l' : List TxM) : (blkL ⟨h, s, c, l⟩).toArray.setIfInBounds 68 (.slice s' l'.length c') = (blkL ⟨h, s', c', l'⟩).toArray := set_app _ _ 68 0 _ (hdL_length k)
theorem blk_ret {P : Func} {a : Act} {W : World} {g nm k : Nat} {A : Array Value} {v : Value} (hp : P.results = #[ResultVar.cell nm 40, ResultVar.tmp k]) (hd : a.defers = []) (hv : a.tmps.getD nm undef = .pointer (some ⟨g, 0, none⟩)) (hk : a.tmps.getD k undef = v) (hs : A.size = 69) (hR : Bk W g 40 A) {K : Ending → World → Prop} (hK : K (.returned (.tuple #[.agg A, v])) W) :
    bodyPost Tryd.prog P K Exit.ret a W := by
  have h1 := run_loadVar_row (P := Tryd.prog) W g 40 40 A (0, 0) _ hR Tryd.underlying40 rfl (by rw [hs]; exact blk_infos)
  refine bodyPost_ret (v := .tuple #[.agg A, v]) ?_ hd hK
  rw [results_cell_tmp hp, hv, hk]
  show ((asAddr (.pointer (some ⟨g, 0, none⟩))).run Tryd.prog W).andThen _ = _
  simp only [asAddr, Sem.run_pure, Result.andThen_ok, h1]
theorem ne_in_blk : (40 : Nat) ≠ inR.e := by decide
theorem ne_out_blk : (40 : Nat) ≠ outR.e := by decide
theorem ne_tx_blk : (40 : Nat) ≠ txR.e := by decide
theorem zero_blk (w : World) : (zeroValue 40).run Tryd.prog w = .ok (.agg (blkL blk0).toArray) w := by kernel_rfl
end Go.Proofs.YtmjiadfdmchhaaaDoor
