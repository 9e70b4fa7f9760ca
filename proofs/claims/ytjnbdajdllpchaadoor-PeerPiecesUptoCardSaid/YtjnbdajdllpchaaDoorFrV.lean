/-
  Frames in memory: rows of a word and a slice of bytes, and rows of two texts.
-/
import Derived.Test.YtjnbdajdllpchaaDoorFrP
import Derived.Test.YtjnbdajdllpchaaDoorBytZ
import Derived.Test.YtjnbdajdllpchaaDoorFdO
namespace Go.Proofs.YtjnbdajdllpchaaDoor
open Go.RowKit
set_option linter.unusedVariables false
set_option linter.unusedSimpArgs false
set_option maxRecDepth 100000

/-- A frame: its word, and its bytes. -/
structure FrM where
  wd : List Nat
  ds : Option Addr
  dc : Nat
  da : List Nat
def FrM.dv (x : FrM) : Value := .slice x.ds x.da.length x.dc
def FrM.pr (x : FrM) : List Nat × List Nat := (x.wd, x.da)
def frL (x : FrM) : List Value := [.string (strN x.wd), x.dv]
def fr0 : FrM := ⟨[], none, 0, []⟩
def frR : RowT FrM := ⟨82, 79, 2, 40, frL, fr0⟩
theorem fr_facts : (Tryd.prog.info? 82).map (fun i => (i.zero.map (·.cells), i.size, i.bytes)) = some (some (frL fr0).toArray, 2, 40) := by kernel_rfl
theorem fr_info : ∃ i v, Tryd.prog.info? 82 = some i ∧ i.zero = some v ∧ i.size = 2 ∧ i.bytes = 40 ∧ v.cells = (frL fr0).toArray := by
  obtain ⟨i, hi, hs⟩ := Option.map_eq_some_iff.1 fr_facts
  simp only [Prod.mk.injEq, Option.map_eq_some_iff] at hs
  obtain ⟨⟨v, hv, hc⟩, h1, h2⟩ := hs
  exact ⟨i, v, hi, hv, h1, h2, hc⟩
theorem frR_ok : frR.Ok where
  ht := Tryd.underlying79
  info := fr_info
  len := fun x => rfl
  one := fun x v hv => by
    simp only [frR, frL, List.mem_cons, List.not_mem_nil, or_false] at hv
    rcases hv with rfl | rfl <;> rfl
  pos := by decide
  bys := by decide
/-- A feed in memory. -/
def FeedM (FT : TypeId) (FR : Array Value) (fo : Nat) (w : World) (p lo : Nat) (v : Value) (h : List Nat) (e : Nat) : Prop := Bk w p FT (fdA FR fo (v) (.int .i64 (e : Int))) ∧ Mine w lo v h
/-- The frames that were made: a row of one's own, and each one's bytes lie in a block of their own that isn't the feed's. -/
def MadeM (w : World) (lo : Nat) (v rv : Value) (L : List FrM) : Prop := MineR frR w lo rv L ∧ ∀ x ∈ L, Mine w lo x.dv x.da ∧ ∀ k, slb x.dv k → ¬ slb v k
theorem fr_ne : 82 ≠ 5 := by decide
theorem mineR_apart {w : World} {lo : Nat} {rv : Value} {L : List FrM} (h : MineR frR w lo rv L) {k : Nat} {t : TypeId} {cs : Array Value} (hk : Bk w k t cs) (ht : t ≠ 82) : ∀ o n c, rv ≠ .slice (some ⟨k, o, none⟩) n c := by
  rcases h with ⟨rfl, _⟩ | ⟨T, cap, z, rfl, _, _, _, K⟩
  · intro o n c h; cases h
  · intro o n c h
    cases h
    exact ht (hk.type_eq K)
/-- Bytes of one's own stay while the row of frames grows. -/
theorem Mine.butR {w W : World} {lo lo2 : Nat} {v rv : Value} {xs : List Nat} {L : List FrM} (h : Mine w lo v xs) (hr : MineR frR w lo2 rv L) (hb : ButR rv w W) : Mine W lo v xs := by
  rcases h with h | ⟨T, cap, z, e, h1, h2, h3, K⟩
  · exact .inl h
  · exact .inr ⟨T, cap, z, e, h1, h2, h3, hb.2 _ _ _ K (mineR_apart hr K (by decide))⟩
/-- A row of frames stays while other blocks change. -/
theorem MineR.butS {w W : World} {lo : Nat} {rv : Value} {L : List FrM} {S : Nat → Prop} (h : MineR frR w lo rv L) (hb : But S w W) (hS : ∀ k cs, Bk w k 82 cs → ¬ S k) : MineR frR W lo rv L := by
  rcases h with h | ⟨T, cap, z, e, h1, h2, h3, K⟩
  · exact .inl h
  · exact .inr ⟨T, cap, z, e, h1, h2, h3, hb.keep K (hS _ _ K)⟩
theorem MineR.mono {α : Type} {R : RowT α} {w : World} {lo lo' : Nat} {rv : Value} {L : List α} (h : MineR R w lo rv L) (hl : lo' ≤ lo) : MineR R w lo' rv L := by
  rcases h with h | ⟨T, cap, z, e, h1, h2, h3, K⟩
  · exact .inl h
  · exact .inr ⟨T, cap, z, e, h1, h2, by omega, K⟩
end Go.Proofs.YtjnbdajdllpchaaDoor
