/-
  Texts in one: TkP, BkZ, PcI, DeA, PfA.
-/
import Derived.Test.YtkpffjcdalclmaaDoorZBanA
import Derived.Test.YtkpffjcdalclmaaDoorZWfZ
import Derived.Deep.RegionHeld
import Derived.Test.YtkpffjcdalclmaaDoorZTxJ
import Derived.Lib.SlBytesConst
import Derived.Test.YtkpffjcdalclmaaDoorZTxE
import Derived.Test.YtkpffjcdalclmaaDoorZReaZ
import Derived.Test.YtkpffjcdalclmaaDoorZTxY
import Derived.Deep.Slices
import Derived.OpenShut
import Derived.ChangeOld
import Derived.Test.YtkpffjcdalclmaaDoorZHeaZ
import Derived.Test.YtkpffjcdalclmaaDoorZMsZ
import Derived.Test.YtkpffjcdalclmaaDoorZPeZ
namespace Go.Proofs.YtkpffjcdalclmaaDoor
open Go.RowKit
set_option linter.unusedVariables false
set_option linter.unusedSimpArgs false
set_option maxRecDepth 100000
end Go.Proofs.YtkpffjcdalclmaaDoor
namespace Go.Proofs.YtkpffjcdalclmaaDoor
open Go.RowKit
set_option linter.unusedVariables false
set_option linter.unusedSimpArgs false
set_option maxRecDepth 100000
end Go.Proofs.YtkpffjcdalclmaaDoor
namespace Go.Proofs.YtkpffjcdalclmaaDoor
open Go.RowKit
set_option linter.unusedVariables false
set_option linter.unusedSimpArgs false
set_option maxRecDepth 100000
def tw (g : Nat) : TxM := ⟨some ⟨g + 1, 0, none⟩, 1, [⟨i0, 0, some ⟨g, 0, none⟩, 1, [107]⟩], some ⟨g + 2, 0, none⟩, 1, [⟨5, i0⟩]⟩
end Go.Proofs.YtkpffjcdalclmaaDoor
namespace Go.Proofs.YtkpffjcdalclmaaDoor
open Go.RowKit
set_option linter.unusedVariables false
set_option linter.unusedSimpArgs false
set_option maxRecDepth 100000
def WSt (w W : World) (g g2 ob oo : Nat) (sa : Option Addr) (na ca cb : Nat) : Prop := Below w.heap.size w W ∧ Bk W (g + 3) 89 #[.slice (some ⟨g + 1, 0, none⟩) 1 1, .slice (some ⟨g + 2, 0, none⟩) 1 1] ∧ TxV W (g + 3) (tw g) ∧ Bk W g2 89 #[.slice sa na ca, .slice (some ⟨ob, oo, none⟩) 1 cb] ∧ W.cell? ⟨ob, oo, none⟩ = some (.int .i64 5) ∧ ob < W.heap.size
theorem WSt.keep {w W W' : World} {g g2 ob oo : Nat} {sa : Option Addr} {na ca cb : Nat} (h : WSt w W g g2 ob oo sa na ca cb) (hb : Below W.heap.size W W') : WSt w W' g g2 ob oo sa na ca cb := ⟨below_step h.1 h.1.size hb, h.2.1.keep hb, h.2.2.1.keep hb (by have := h.2.1.lt; omega), h.2.2.2.1.keep hb, (hb.cell (p := ⟨ob, oo, none⟩) h.2.2.2.2.2).trans h.2.2.2.2.1, Nat.lt_of_lt_of_le h.2.2.2.2.2 hb.size⟩
end Go.Proofs.YtkpffjcdalclmaaDoor
namespace Go.Proofs.YtkpffjcdalclmaaDoor
open Go.RowKit
set_option linter.unusedVariables false
set_option linter.unusedSimpArgs false
set_option maxRecDepth 100000
end Go.Proofs.YtkpffjcdalclmaaDoor
namespace Go.Proofs.YtkpffjcdalclmaaDoor
open Go.ChangeShapes Go.WideShapes Go.ChangeAt Go.RowKit
open Go.Deep (open_slice choose_lt)
set_option linter.unusedVariables false
set_option linter.unusedSimpArgs false
set_option maxRecDepth 100000
section
variable {H : Type} {enc : TypeId × Value → H} {P : Program} {w : World} {base : Nat} {spare : Nat → Bool} {held : Bool}
end
section
variable {H : Type} {enc : TypeId × Value → H} {P : Program} {w : World} {base : Nat} {spare : Nat → Bool} {held : Bool}
end
end Go.Proofs.YtkpffjcdalclmaaDoor
namespace Go.Proofs.YtkpffjcdalclmaaDoor
open Go.ChangeShapes Go.WideShapes Go.ChangeAt Go.RowKit
open Go.Deep (open_slice choose_lt)
set_option linter.unusedVariables false
set_option maxRecDepth 100000
end Go.Proofs.YtkpffjcdalclmaaDoor
namespace Go.Proofs.YtkpffjcdalclmaaDoor
open Go.ChangeShapes Go.WideShapes Go.ChangeAt Go.RowKit
open Go.Deep (open_slice choose_lt)
set_option linter.unusedVariables false
set_option maxRecDepth 100000
end Go.Proofs.YtkpffjcdalclmaaDoor
namespace Go.Proofs.YtkpffjcdalclmaaDoor
open Go.ChangeShapes Go.WideShapes Go.ChangeAt Go.RowKit
set_option linter.unusedVariables false
set_option linter.unusedSimpArgs false
set_option maxRecDepth 100000
theorem ver_cells0 (n : Nat) : (Tryd.zeroCells58.setIfInBounds 0 (.int .i64 1)).setIfInBounds 1 (.int .u64 (n : Int)) = (msR.c (verM n 0)).toArray := by
  rw [msz, ms_kd]
  rw [ms_nc { ms0 with kd := 1 } n]
  rfl
theorem feed_one (wd da : List Nat) (h : WordOk wd) (hd : da.length ≤ 16384) (hx : ∀ x ∈ da, x < 256) : feedL ⟨[], 0, []⟩ (encL wd da) = ⟨[], 0, [(wd, da)]⟩ := by
  have e := feed_enc wd da [] [] h hd hx (by simp)
  rw [List.append_nil] at e
  rw [e]
  rfl
end Go.Proofs.YtkpffjcdalclmaaDoor
namespace Go.Proofs.YtkpffjcdalclmaaDoor
open Go.ChangeShapes Go.WideShapes Go.ChangeAt Go.RowKit
set_option linter.unusedVariables false
set_option linter.unusedSimpArgs false
set_option maxRecDepth 100000
structure DeM where
 kd : Int
 n : Int
 ls : Option Addr
 lc : Nat
 list : List MsI
 ds : Option Addr
 dc : Nat
 data : List Nat
def DeM.lv (d : DeM) : Value := .slice d.ls d.list.length d.lc
def DeM.dv (d : DeM) : Value := .slice d.ds d.data.length d.dc
def DeV (w : World) (B : Nat) (d : DeM) : Prop := (-9223372036854775808 ≤ d.kd ∧ d.kd ≤ 9223372036854775807) ∧ (-9223372036854775808 ≤ d.n ∧ d.n ≤ 9223372036854775807) ∧ RowV msR w B d.lv d.list ∧ (∀ x ∈ d.list, MsV w B x.1) ∧ BsV w B d.dv d.data
theorem DeV.keep {w w' : World} {B C : Nat} {d : DeM} (h : DeV w B d) (hb : Below C w w') (hC : B ≤ C) : DeV w' B d :=
 ⟨h.1, h.2.1, h.2.2.1.keep hb hC, fun x hx => (h.2.2.2.1 x hx).keep hb hC, h.2.2.2.2.keep hb hC⟩
theorem DeV.mono {w : World} {B C : Nat} {d : DeM} (h : DeV w B d) (hC : B ≤ C) : DeV w C d :=
 ⟨h.1, h.2.1, h.2.2.1.mono hC, fun x hx => (h.2.2.2.1 x hx).mono hC, h.2.2.2.2.mono hC⟩
end Go.Proofs.YtkpffjcdalclmaaDoor
namespace Go.Proofs.YtkpffjcdalclmaaDoor
open Go.RowKit
set_option linter.unusedVariables false
set_option linter.unusedSimpArgs false
set_option maxRecDepth 100000
theorem hear_enc (m : PeM) (x : MsM) (h1 : m.h = []) (h2 : m.e = 0) (hd : msE x = 0 → (dataL x).length ≤ 16384 ∧ WordOk (kindL x.kd.toNat) ∧ ∀ b ∈ dataL x, b < 256) :
    hearM m (encB x) = if msE x = 0 then hear1 m (kindL x.kd.toNat, dataL x) else (m, [], []) := by
  obtain ⟨sc, nc, si, wt, hh, e, kn, rd, ht⟩ := m
  simp only at h1 h2
  subst h1
  subst h2
  unfold encB
  by_cases hm : msE x = 0
  · rw [if_pos hm, if_pos hm]
    obtain ⟨a, b, c⟩ := hd hm
    have hs : (⟨[], 0, [(kindL x.kd.toNat, dataL x)]⟩ : FS) = feedL ⟨[], 0, []⟩ (encL (kindL x.kd.toNat) (dataL x)) := (feed_one _ _ b a c).symm
    rw [hearM_of (⟨sc, nc, si, wt, [], 0, kn, rd, ht⟩ : PeM) _ _ hs]
    simp only [ne_eq, not_true_eq_false, if_false, hearF_one]
  · rw [if_neg hm, if_neg hm]
    rw [hearM_of (⟨sc, nc, si, wt, [], 0, kn, rd, ht⟩ : PeM) [] ⟨[], 0, []⟩ rfl]
    simp only [ne_eq, not_true_eq_false, if_false, hearF]
end Go.Proofs.YtkpffjcdalclmaaDoor
