/-
  Transactions: what they say, how they lie in memory, and their bytes.
-/
import Derived.Test.YtccgfjkahdbboaaDoorRed
import Derived.Test.YtccgfjkahdbboaaDoorRow
import Derived.Test.YtccgfjkahdbboaaDoorWls
namespace Go.Proofs.YtccgfjkahdbboaaDoor
open Go.RowKit
set_option linter.unusedVariables false
set_option maxRecDepth 100000

/-- 32 bytes. -/
abbrev I32 := {l : List Nat // l.length = 32 ∧ ∀ b ∈ l, b < 256}
def i0 : I32 := ⟨zeros 32, by decide⟩
/-- An input. -/
structure InM where
  tx : I32
  ix : Nat
  ks : Option Addr
  kc : Nat
  key : List Nat
def InM.kv (x : InM) : Value := .slice x.ks x.key.length x.kc
/-- An output. -/
structure OutM where
  am : Int
  lock : I32
/-- A transaction. -/
structure TxM where
  is_ : Option Addr
  ic : Nat
  ins : List InM
  os_ : Option Addr
  oc : Nat
  outs : List OutM
def TxM.iv (t : TxM) : Value := .slice t.is_ t.ins.length t.ic
def TxM.ov (t : TxM) : Value := .slice t.os_ t.outs.length t.oc
def inL (x : InM) : List Value := x.tx.1.map byteV ++ [.int .u32 (x.ix : Int), x.kv]
def ouL (x : OutM) : List Value := .int .i64 x.am :: x.lock.1.map byteV
def txL (t : TxM) : List Value := [t.iv, t.ov]
abbrev txv (t : TxM) : Value := .agg #[t.iv, t.ov]
theorem inL_len (x : InM) : (inL x).length = 34 := by unfold inL; rw [List.length_append, List.length_map, x.tx.2.1]; rfl
theorem ouL_len (x : OutM) : (ouL x).length = 33 := by unfold ouL; rw [List.length_cons, List.length_map, x.lock.2.1]
theorem inL_one (x : InM) : ∀ v ∈ inL x, v.oneCell' = true := by
  intro v hv
  unfold inL at hv
  rcases List.mem_append.1 hv with h | h
  · obtain ⟨b, _, rfl⟩ := List.mem_map.1 h; rfl
  · simp only [List.mem_cons, List.not_mem_nil, or_false] at h
    rcases h with rfl | rfl <;> rfl
theorem ouL_one (x : OutM) : ∀ v ∈ ouL x, v.oneCell' = true := by
  intro v hv
  unfold ouL at hv
  rcases List.mem_cons.1 hv with rfl | h
  · rfl
  · obtain ⟨b, _, rfl⟩ := List.mem_map.1 h; rfl
def inR : RowT InM := ⟨35, 22, 34, 64, inL, ⟨i0, 0, none, 0, []⟩⟩
def outR : RowT OutM := ⟨37, 23, 33, 40, ouL, ⟨0, i0⟩⟩
def txR : RowT TxM := ⟨25, 48, 2, 48, txL, ⟨none, 0, [], none, 0, []⟩⟩
theorem in_facts : (Tryd.prog.info? 35).map (fun i => (i.zero.map (·.cells), i.size, i.bytes)) = some (some (inL ⟨i0, 0, none, 0, []⟩).toArray, 34, 64) := by kernel_rfl
theorem in_info : ∃ i v, Tryd.prog.info? 35 = some i ∧ i.zero = some v ∧ i.size = 34 ∧ i.bytes = 64 ∧ v.cells = (inL ⟨i0, 0, none, 0, []⟩).toArray := by
  obtain ⟨i, hi, hs⟩ := Option.map_eq_some_iff.1 in_facts
  simp only [Prod.mk.injEq, Option.map_eq_some_iff] at hs
  obtain ⟨⟨v, hv, hc⟩, h1, h2⟩ := hs
  exact ⟨i, v, hi, hv, h1, h2, hc⟩
theorem out_facts : (Tryd.prog.info? 37).map (fun i => (i.zero.map (·.cells), i.size, i.bytes)) = some (some (ouL ⟨0, i0⟩).toArray, 33, 40) := by kernel_rfl
theorem out_info : ∃ i v, Tryd.prog.info? 37 = some i ∧ i.zero = some v ∧ i.size = 33 ∧ i.bytes = 40 ∧ v.cells = (ouL ⟨0, i0⟩).toArray := by
  obtain ⟨i, hi, hs⟩ := Option.map_eq_some_iff.1 out_facts
  simp only [Prod.mk.injEq, Option.map_eq_some_iff] at hs
  obtain ⟨⟨v, hv, hc⟩, h1, h2⟩ := hs
  exact ⟨i, v, hi, hv, h1, h2, hc⟩
theorem tx_facts : (Tryd.prog.info? 25).map (fun i => (i.zero.map (·.cells), i.size, i.bytes)) = some (some (txL ⟨none, 0, [], none, 0, []⟩).toArray, 2, 48) := by kernel_rfl
theorem tx_info : ∃ i v, Tryd.prog.info? 25 = some i ∧ i.zero = some v ∧ i.size = 2 ∧ i.bytes = 48 ∧ v.cells = (txL ⟨none, 0, [], none, 0, []⟩).toArray := by
  obtain ⟨i, hi, hs⟩ := Option.map_eq_some_iff.1 tx_facts
  simp only [Prod.mk.injEq, Option.map_eq_some_iff] at hs
  obtain ⟨⟨v, hv, hc⟩, h1, h2⟩ := hs
  exact ⟨i, v, hi, hv, h1, h2, hc⟩
theorem inR_ok : inR.Ok where
  ht := Tryd.underlying22
  info := in_info
  len := inL_len
  one := inL_one
  pos := by decide
  bys := by decide
theorem outR_ok : outR.Ok where
  ht := Tryd.underlying23
  info := out_info
  len := ouL_len
  one := ouL_one
  pos := by decide
  bys := by decide
theorem txR_ok : txR.Ok where
  ht := Tryd.underlying48
  info := tx_info
  len := fun _ => rfl
  one := fun x v hv => by
    simp only [txR, txL, List.mem_cons, List.not_mem_nil, or_false] at hv
    rcases hv with rfl | rfl <;> rfl
  pos := by decide
  bys := by decide
/-- The bytes, as the document has them. -/
def am64 (a : Int) : Nat := (a % 18446744073709551616).toNat
def inpB (x : InM) : List Nat := x.tx.1 ++ (toL x.ix 4 ++ (countL x.key.length ++ x.key))
def outB (x : OutM) : List Nat := toL (am64 x.am) 8 ++ x.lock.1
def insB (l : List InM) : List Nat := (l.map inpB).flatten
def outsB (l : List OutM) : List Nat := (l.map outB).flatten
def txB (t : TxM) : List Nat := countL t.ins.length ++ (insB t.ins ++ (countL t.outs.length ++ outsB t.outs))
def txsB (l : List TxM) : List Nat := (l.map txB).flatten
/-- How an input lies, below B. -/
def InV (w : World) (B : Nat) (x : InM) : Prop := x.ix < 4294967296 ∧ BsV w B x.kv x.key
def OutOk (x : OutM) : Prop := -9223372036854775808 ≤ x.am ∧ x.am ≤ 9223372036854775807
def TxV (w : World) (B : Nat) (t : TxM) : Prop := RowV inR w B t.iv t.ins ∧ (∀ x ∈ t.ins, InV w B x) ∧ RowV outR w B t.ov t.outs ∧ ∀ x ∈ t.outs, OutOk x
theorem InV.keep {w w' : World} {B : Nat} {x : InM} (h : InV w B x) {C : Nat} (hb : Below C w w') (hC : B ≤ C) : InV w' B x := ⟨h.1, h.2.keep hb hC⟩
theorem TxV.keep {w w' : World} {B : Nat} {t : TxM} (h : TxV w B t) {C : Nat} (hb : Below C w w') (hC : B ≤ C) : TxV w' B t := ⟨h.1.keep hb hC, fun x hx => (h.2.1 x hx).keep hb hC, h.2.2.1.keep hb hC, h.2.2.2⟩
theorem InV.mono {w : World} {B C : Nat} {x : InM} (h : InV w B x) (hC : B ≤ C) : InV w C x := ⟨h.1, h.2.mono hC⟩
theorem TxV.mono {w : World} {B C : Nat} {t : TxM} (h : TxV w B t) (hC : B ≤ C) : TxV w C t := ⟨h.1.mono hC, fun x hx => (h.2.1 x hx).mono hC, h.2.2.1.mono hC, h.2.2.2⟩
/-- How many bytes at most. -/
def InFit (x : InM) : Prop := x.key.length ≤ 200
def TxFit (t : TxM) : Prop := t.ins.length ≤ 40 ∧ t.outs.length ≤ 40 ∧ ∀ x ∈ t.ins, InFit x
theorem inpB_len (x : InM) : (inpB x).length ≤ 45 + x.key.length := by
  unfold inpB
  have := countL_len x.key.length
  simp only [List.length_append, toL_length, x.tx.2.1]
  omega
theorem outB_len (x : OutM) : (outB x).length = 40 := by unfold outB; rw [List.length_append, toL_length, x.lock.2.1]
theorem insB_cons (x : InM) (l : List InM) : insB (x :: l) = inpB x ++ insB l := rfl
theorem outsB_cons (x : OutM) (l : List OutM) : outsB (x :: l) = outB x ++ outsB l := rfl
theorem insB_len (l : List InM) (h : ∀ x ∈ l, InFit x) : (insB l).length ≤ 245 * l.length := by
  induction l with
  | nil => simp [insB]
  | cons x r ih =>
    have h1 := ih (fun y hy => h y (List.mem_cons_of_mem _ hy))
    have h2 := inpB_len x
    have h3 : x.key.length ≤ 200 := h x (List.mem_cons_self ..)
    rw [insB_cons, List.length_append, List.length_cons]
    omega
theorem outsB_len (l : List OutM) : (outsB l).length = 40 * l.length := by
  induction l with
  | nil => simp [outsB]
  | cons x r ih => rw [outsB_cons, List.length_append, outB_len, ih, List.length_cons]; omega
theorem txB_len (t : TxM) (h : TxFit t) : (txB t).length ≤ 11500 := by
  have h1 := insB_len t.ins h.2.2
  have h2 := outsB_len t.outs
  have h3 := countL_len t.ins.length
  have h4 := countL_len t.outs.length
  have h5 := h.1
  have h6 := h.2.1
  unfold txB
  simp only [List.length_append]
  omega
theorem insB_take (l : List InM) (k : Nat) (x : InM) (h : l[k]? = some x) : insB (l.take (k + 1)) = insB (l.take k) ++ inpB x := by
  unfold insB
  rw [List.take_add_one, h, List.map_append, List.flatten_append]
  simp
theorem outsB_take (l : List OutM) (k : Nat) (x : OutM) (h : l[k]? = some x) : outsB (l.take (k + 1)) = outsB (l.take k) ++ outB x := by
  unfold outsB
  rw [List.take_add_one, h, List.map_append, List.flatten_append]
  simp
theorem txsB_take (l : List TxM) (k : Nat) (x : TxM) (h : l[k]? = some x) : txsB (l.take (k + 1)) = txsB (l.take k) ++ txB x := by
  unfold txsB
  rw [List.take_add_one, h, List.map_append, List.flatten_append]
  simp
theorem toL_lt' (n k : Nat) : ∀ x ∈ toL n k, x < 256 := by
  intro x hx
  exact toL_lt k n x hx
end Go.Proofs.YtccgfjkahdbboaaDoor
