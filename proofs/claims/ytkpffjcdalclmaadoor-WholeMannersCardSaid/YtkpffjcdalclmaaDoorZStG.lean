/-
  Texts in one: FrV, StG.
-/
import Derived.Test.YtkpffjcdalclmaaDoorZFrP
import Derived.Test.YtkpffjcdalclmaaDoorZBytZ
import Derived.Test.YtkpffjcdalclmaaDoorZFrE
import Derived.Test.YtkpffjcdalclmaaDoorZFrF
import Derived.Great.BuildSlice
import Derived.Great.FillDense
namespace Go.Proofs.YtkpffjcdalclmaaDoor
open Go.RowKit
set_option linter.unusedVariables false
set_option linter.unusedSimpArgs false
set_option maxRecDepth 100000
structure FrM where
  wd : List Nat
  ds : Option Addr
  dc : Nat
  da : List Nat
def FrM.dv (x : FrM) : Value := .slice x.ds x.da.length x.dc
def FrM.pr (x : FrM) : List Nat × List Nat := (x.wd, x.da)
def frL (x : FrM) : List Value := [.string (strN x.wd), x.dv]
def fr0 : FrM := ⟨[], none, 0, []⟩
def frR : RowT FrM := ⟨93, 90, 2, 40, frL, fr0⟩
theorem fr_facts : (Tryd.prog.info? 93).map (fun i => (i.zero.map (·.cells), i.size, i.bytes)) = some (some (frL fr0).toArray, 2, 40) := by kernel_rfl
theorem fr_info : ∃ i v, Tryd.prog.info? 93 = some i ∧ i.zero = some v ∧ i.size = 2 ∧ i.bytes = 40 ∧ v.cells = (frL fr0).toArray := by
  obtain ⟨i, hi, hs⟩ := Option.map_eq_some_iff.1 fr_facts
  simp only [Prod.mk.injEq, Option.map_eq_some_iff] at hs
  obtain ⟨⟨v, hv, hc⟩, h1, h2⟩ := hs
  exact ⟨i, v, hi, hv, h1, h2, hc⟩
theorem frR_ok : frR.Ok where
  ht := Tryd.underlying90
  info := fr_info
  len := fun x => rfl
  one := fun x v hv => by
    simp only [frR, frL, List.mem_cons, List.not_mem_nil, or_false] at hv
    rcases hv with rfl | rfl <;> rfl
  pos := by decide
  bys := by decide
def FeedM (FT : TypeId) (FR : Array Value) (fo : Nat) (w : World) (p lo : Nat) (v : Value) (h : List Nat) (e : Nat) : Prop := Bk w p FT (fdA FR fo (v) (.int .i64 (e : Int))) ∧ Mine w lo v h
def MadeM (w : World) (lo : Nat) (v rv : Value) (L : List FrM) : Prop := MineR frR w lo rv L ∧ ∀ x ∈ L, Mine w lo x.dv x.da ∧ ∀ k, slb x.dv k → ¬ slb v k
theorem fr_ne : 93 ≠ 5 := by decide
theorem mineR_apart {w : World} {lo : Nat} {rv : Value} {L : List FrM} (h : MineR frR w lo rv L) {k : Nat} {t : TypeId} {cs : Array Value} (hk : Bk w k t cs) (ht : t ≠ 93) : ∀ o n c, rv ≠ .slice (some ⟨k, o, none⟩) n c := by
  rcases h with ⟨rfl, _⟩ | ⟨T, cap, z, rfl, _, _, _, K⟩
  · intro o n c h; cases h
  · intro o n c h
    cases h
    exact ht (hk.type_eq K)
theorem Mine.butR {w W : World} {lo lo2 : Nat} {v rv : Value} {xs : List Nat} {L : List FrM} (h : Mine w lo v xs) (hr : MineR frR w lo2 rv L) (hb : ButR rv w W) : Mine W lo v xs := by
  rcases h with h | ⟨T, cap, z, e, h1, h2, h3, K⟩
  · exact .inl h
  · exact .inr ⟨T, cap, z, e, h1, h2, h3, hb.2 _ _ _ K (mineR_apart hr K (by decide))⟩
theorem MineR.butS {w W : World} {lo : Nat} {rv : Value} {L : List FrM} {S : Nat → Prop} (h : MineR frR w lo rv L) (hb : But S w W) (hS : ∀ k cs, Bk w k 93 cs → ¬ S k) : MineR frR W lo rv L := by
  rcases h with h | ⟨T, cap, z, e, h1, h2, h3, K⟩
  · exact .inl h
  · exact .inr ⟨T, cap, z, e, h1, h2, h3, hb.keep K (hS _ _ K)⟩
theorem MineR.mono {α : Type} {R : RowT α} {w : World} {lo lo' : Nat} {rv : Value} {L : List α} (h : MineR R w lo rv L) (hl : lo' ≤ lo) : MineR R w lo' rv L := by
  rcases h with h | ⟨T, cap, z, e, h1, h2, h3, K⟩
  · exact .inl h
  · exact .inr ⟨T, cap, z, e, h1, h2, by omega, K⟩
end Go.Proofs.YtkpffjcdalclmaaDoor
namespace Go.Proofs.YtkpffjcdalclmaaDoor
open Go.RowKit
set_option linter.unusedVariables false
set_option linter.unusedSimpArgs false
set_option maxRecDepth 100000
theorem stepR_app {α : Type} {R : RowT α} (h : R.Ok) {ops : Array Oper} {o : Oper} {a : Act} {w : World} {K : Act → World → Prop} {Q : Exit → Act → World → Prop} {E : Prop} {v1 v2 : Value} (xs ys : List α) (lo : Nat)
    (hg : o.guard = none) (s y : Operand) (hop : o.op = Op.call { callee := Callee.builtin Builtin.append, args := #[s, y], argTypes := #[R.t, R.t] }) (hty : o.type = R.t)
    (hs : a.eval s = v1) (hy : a.eval y = v2) (hm : MineR R w lo v1 xs) (hlo : lo ≤ w.heap.size) (hu : RowV R w w.heap.size v2 ys) (hlt : xs.length + ys.length ≤ 1500000)
    (hK : ∀ v W, MineR R W lo v (xs ++ ys) → Below lo w W → ButR v1 w W → K (a.put o.dst v) W) :
    if Region.wanted o (yielded ops a.tmps) = true then Oper.wp Tryd.prog o a w K Q else E := by
  obtain ⟨v, W, hrun, hM, hb, hbut⟩ := appR h xs ys v1 v2 lo w hm hlo hu hlt
  have hw : Region.wanted o (yielded ops a.tmps) = true := by simp [Region.wanted, hg]
  rw [if_pos hw]
  unfold Oper.wp
  simp [execOp, hop, resolve, invoke, builtin, hs, hy, hty, hrun, Result.andThen]
  exact hK v W hM hb hbut
theorem stepB_app {ops : Array Oper} {o : Oper} {a : Act} {w : World} {K : Act → World → Prop} {Q : Exit → Act → World → Prop} {E : Prop} {v1 v2 : Value} (xs ys : List Nat) (lo : Nat)
    (hg : o.guard = none) (s y : Operand) (hop : o.op = Op.call { callee := Callee.builtin Builtin.append, args := #[s, y], argTypes := #[32, 32] }) (hty : o.type = 32)
    (hs : a.eval s = v1) (hy : a.eval y = v2) (hm : Mine w lo v1 xs) (hlo : lo ≤ w.heap.size) (hu : BsV w w.heap.size v2 ys) (hlt : xs.length + ys.length ≤ 1500000)
    (hK : ∀ v W, Mine W lo v (xs ++ ys) → But (slb v1) w W → (∀ k, slb v k → slb v1 k ∨ w.heap.size ≤ k) → K (a.put o.dst v) W) :
    if Region.wanted o (yielded ops a.tmps) = true then Oper.wp Tryd.prog o a w K Q else E := by
  obtain ⟨v, W, hrun, hM, hb, hbut⟩ := app3 xs ys v1 v2 lo w hm hlo hu (Nat.le_trans hlt (by decide))
  have hw : Region.wanted o (yielded ops a.tmps) = true := by simp [Region.wanted, hg]
  rw [if_pos hw]
  unfold Oper.wp
  simp [execOp, hop, resolve, invoke, builtin, hs, hy, hty, hrun, Result.andThen]
  exact hK v W hM hb hbut
theorem stepR_one {α : Type} {R : RowT α} (h : R.Ok) {ops : Array Oper} {o : Oper} {a : Act} {w : World} {K : Act → World → Prop} {Q : Exit → Act → World → Prop} {E : Prop} (x : α) (hsm : R.k ≤ 4096)
    (hg : o.guard = none) (k : Operand) (ho : o.op = .buildSlice R.t 1 #[(0, k)]) (v : Value) (hv : v.cells = (R.c x).toArray) (hev : a.eval k = v)
    (hK : K (a.put o.dst (.slice (some ⟨w.heap.size, 0, none⟩) 1 1)) (w.alloc (.cells (R.c x).toArray R.e))) :
    if Region.wanted o (yielded ops a.tmps) = true then Oper.wp Tryd.prog o a w K Q else E := by
  have hw : Region.wanted o (yielded ops a.tmps) = true := by simp [Region.wanted, hg]
  rw [if_pos hw]
  obtain ⟨i, zv, hi, hz, hs, hby, hc⟩ := h.info
  have hp := h.pos
  have hb := h.bys
  have hl := h.len x
  refine wp_buildSlice R.t R.e 1 _ ho (R.c x).toArray i zv h.ht hi hz ?_ (by rw [hs]; omega) ?_ hK
  · rw [hs]
    omega
  · have hf := Great.fill_whole (s := i.size) (by rw [hs]; exact hp) [v] ((Array.range (1 * i.size)).map (zv.cells[· % zv.cells.size]!)) (by
      intro u hu
      rw [List.mem_singleton.1 hu, hv, List.size_toArray, hl, hs]) (by simp)
    have e : (Array.map (fun (p : Nat × Operand) => (p.1, a.eval p.2)) #[(0, k)]).toList = (([v].zipIdx 0).map fun x => (x.2, x.1)) := by simp [hev]
    refine Eq.trans ?_ (hf.trans ?_)
    · congr 1
    · simp [hv]
end Go.Proofs.YtkpffjcdalclmaaDoor
