/- Texts in one: TxM, TxA, TxB. -/
import Derived.Test.YtkpffjcdalclmaaDoorZReaZ
import Derived.Test.YtkpffjcdalclmaaDoorZBytZ
import Derived.Deep.MidRow
namespace Go.Proofs.YtkpffjcdalclmaaDoor
open Go.RowKit
set_option linter.unusedVariables false
set_option maxRecDepth 100000
abbrev I32 := {l : List Nat // l.length = 32 ∧ ∀ b ∈ l, b < 256}
def i0 : I32 := ⟨zeros 32, by decide⟩
structure InM where
 tx : I32
 ix : Nat
 ks : Option Addr
 kc : Nat
 key : List Nat
def InM.kv (x : InM) : Value := .slice x.ks x.key.length x.kc
structure OutM where
 am : Int
 lock : I32
structure TxM where
 is_ : Option Addr
 ic : Nat
 ins : List InM
 os_ : Option Addr
 oc : Nat
 outs : List OutM
def TxM.iv (t : TxM) : Value := .slice t.is_ t.ins.length t.ic
def TxM.ov (t : TxM) : Value := .slice t.os_ t.outs.length t.oc
def inL (x : InM) : List Value := x.tx.1.map byteV ++ [.int .u32 (x.ix : Int), x.kv]
def ouL (x : OutM) : List Value := .int .i64 x.am :: x.lock.1.map byteV
def txL (t : TxM) : List Value := [t.iv, t.ov]
theorem inL_len (x : InM) : (inL x).length = 34 := by unfold inL; rw [List.length_append, List.length_map, x.tx.2.1]; rfl
theorem ouL_len (x : OutM) : (ouL x).length = 33 := by unfold ouL; rw [List.length_cons, List.length_map, x.lock.2.1]
theorem inL_one (x : InM) : ∀ v ∈ inL x, v.oneCell' = true := by
 intro v hv
 unfold inL at hv
 rcases List.mem_append.1 hv with h | h
 ·obtain ⟨b, _, rfl⟩ := List.mem_map.1 h; rfl
 ·simp only [List.mem_cons, List.not_mem_nil, or_false] at h
  rcases h with rfl | rfl <;> rfl
theorem ouL_one (x : OutM) : ∀ v ∈ ouL x, v.oneCell' = true := by
 intro v hv
 unfold ouL at hv
 rcases List.mem_cons.1 hv with rfl | h
 ·rfl
 ·obtain ⟨b, _, rfl⟩ := List.mem_map.1 h; rfl
def inR : RowT InM := ⟨166, 86, 34, 64, inL, ⟨i0, 0, none, 0, []⟩⟩
def outR : RowT OutM := ⟨169, 87, 33, 40, ouL, ⟨0, i0⟩⟩
def txR : RowT TxM := ⟨89, 54, 2, 48, txL, ⟨none, 0, [], none, 0, []⟩⟩
theorem in_facts : (Tryd.prog.info? 166).map (fun i => (i.zero.map (·.cells), i.size, i.bytes)) = some (some (inL ⟨i0, 0, none, 0, []⟩).toArray, 34, 64) := by kernel_rfl
theorem in_info : ∃ i v, Tryd.prog.info? 166 = some i ∧ i.zero = some v ∧ i.size = 34 ∧ i.bytes = 64 ∧ v.cells = (inL ⟨i0, 0, none, 0, []⟩).toArray := by
 obtain ⟨i, hi, hs⟩ := Option.map_eq_some_iff.1 in_facts
 simp only [Prod.mk.injEq, Option.map_eq_some_iff] at hs
 obtain ⟨⟨v, hv, hc⟩, h1, h2⟩ := hs
 exact ⟨i, v, hi, hv, h1, h2, hc⟩
theorem out_facts : (Tryd.prog.info? 169).map (fun i => (i.zero.map (·.cells), i.size, i.bytes)) = some (some (ouL ⟨0, i0⟩).toArray, 33, 40) := by kernel_rfl
theorem out_info : ∃ i v, Tryd.prog.info? 169 = some i ∧ i.zero = some v ∧ i.size = 33 ∧ i.bytes = 40 ∧ v.cells = (ouL ⟨0, i0⟩).toArray := by
 obtain ⟨i, hi, hs⟩ := Option.map_eq_some_iff.1 out_facts
 simp only [Prod.mk.injEq, Option.map_eq_some_iff] at hs
 obtain ⟨⟨v, hv, hc⟩, h1, h2⟩ := hs
 exact ⟨i, v, hi, hv, h1, h2, hc⟩
theorem tx_facts : (Tryd.prog.info? 89).map (fun i => (i.zero.map (·.cells), i.size, i.bytes)) = some (some (txL ⟨none, 0, [], none, 0, []⟩).toArray, 2, 48) := by kernel_rfl
theorem tx_info : ∃ i v, Tryd.prog.info? 89 = some i ∧ i.zero = some v ∧ i.size = 2 ∧ i.bytes = 48 ∧ v.cells = (txL ⟨none, 0, [], none, 0, []⟩).toArray := by
 obtain ⟨i, hi, hs⟩ := Option.map_eq_some_iff.1 tx_facts
 simp only [Prod.mk.injEq, Option.map_eq_some_iff] at hs
 obtain ⟨⟨v, hv, hc⟩, h1, h2⟩ := hs
 exact ⟨i, v, hi, hv, h1, h2, hc⟩
theorem inR_ok : inR.Ok where
 ht := Tryd.underlying86
 info := in_info
 len := inL_len
 one := inL_one
 pos := by decide
 bys := by decide
theorem outR_ok : outR.Ok where
 ht := Tryd.underlying87
 info := out_info
 len := ouL_len
 one := ouL_one
 pos := by decide
 bys := by decide
theorem txR_ok : txR.Ok where
 ht := Tryd.underlying54
 info := tx_info
 len := fun _ => rfl
 one := fun x v hv => by
  simp only [txR, txL, List.mem_cons, List.not_mem_nil, or_false] at hv
  rcases hv with rfl | rfl <;> rfl
 pos := by decide
 bys := by decide
def am64 (a : Int) : Nat := (a % 18446744073709551616).toNat
def inpB (x : InM) : List Nat := x.tx.1 ++ (toL x.ix 4 ++ (countL x.key.length ++ x.key))
def outB (x : OutM) : List Nat := toL (am64 x.am) 8 ++ x.lock.1
def insB (l : List InM) : List Nat := (l.map inpB).flatten
def outsB (l : List OutM) : List Nat := (l.map outB).flatten
def txB (t : TxM) : List Nat := countL t.ins.length ++ (insB t.ins ++ (countL t.outs.length ++ outsB t.outs))
def txsB (l : List TxM) : List Nat := (l.map txB).flatten
def InV (w : World) (B : Nat) (x : InM) : Prop := x.ix < 4294967296 ∧ BsV w B x.kv x.key
def OutOk (x : OutM) : Prop := -9223372036854775808 ≤ x.am ∧ x.am ≤ 9223372036854775807
def TxV (w : World) (B : Nat) (t : TxM) : Prop := RowV inR w B t.iv t.ins ∧ (∀ x ∈ t.ins, InV w B x) ∧ RowV outR w B t.ov t.outs ∧ ∀ x ∈ t.outs, OutOk x
theorem InV.keep {w w' : World} {B : Nat} {x : InM} (h : InV w B x) {C : Nat} (hb : Below C w w') (hC : B ≤ C) : InV w' B x := ⟨h.1, h.2.keep hb hC⟩
theorem TxV.keep {w w' : World} {B : Nat} {t : TxM} (h : TxV w B t) {C : Nat} (hb : Below C w w') (hC : B ≤ C) : TxV w' B t := ⟨h.1.keep hb hC, fun x hx => (h.2.1 x hx).keep hb hC, h.2.2.1.keep hb hC, h.2.2.2⟩
theorem InV.mono {w : World} {B C : Nat} {x : InM} (h : InV w B x) (hC : B ≤ C) : InV w C x := ⟨h.1, h.2.mono hC⟩
theorem TxV.mono {w : World} {B C : Nat} {t : TxM} (h : TxV w B t) (hC : B ≤ C) : TxV w C t := ⟨h.1.mono hC, fun x hx => (h.2.1 x hx).mono hC, h.2.2.1.mono hC, h.2.2.2⟩
def InFit (x : InM) : Prop := x.key.length ≤ 1100000
def TxFit (t : TxM) : Prop := t.ins.length ≤ 40 ∧ t.outs.length ≤ 40 ∧ ∀ x ∈ t.ins, InFit x
theorem inpB_len (x : InM) : (inpB x).length ≤ 45 + x.key.length := by
 unfold inpB
 have := countL_len x.key.length
 simp only [List.length_append, toL_length, x.tx.2.1]
 omega
theorem outB_len (x : OutM) : (outB x).length = 40 := by unfold outB; rw [List.length_append, toL_length, x.lock.2.1]
theorem insB_cons (x : InM) (l : List InM) : insB (x :: l) = inpB x ++ insB l := rfl
theorem outsB_cons (x : OutM) (l : List OutM) : outsB (x :: l) = outB x ++ outsB l := rfl
theorem insB_len (l : List InM) (h : ∀ x ∈ l, InFit x) : (insB l).length ≤ 1100045 * l.length := by
 induction l with
 | nil => simp [insB]
 | cons x r ih =>
  have h1 := ih (fun y hy => h y (List.mem_cons_of_mem _ hy))
  have h2 := inpB_len x
  have h3 : x.key.length ≤ 1100000 := h x (List.mem_cons_self ..)
  rw [insB_cons, List.length_append, List.length_cons]
  omega
theorem outsB_len (l : List OutM) : (outsB l).length = 40 * l.length := by
 induction l with
 | nil => simp [outsB]
 | cons x r ih => rw [outsB_cons, List.length_append, outB_len, ih, List.length_cons]; omega
theorem txB_len (t : TxM) (h : TxFit t) : (txB t).length ≤ 44100000 := by
 have h1 := insB_len t.ins h.2.2
 have h2 := outsB_len t.outs
 have h3 := countL_len t.ins.length
 have h4 := countL_len t.outs.length
 have h5 := h.1
 have h6 := h.2.1
 unfold txB
 simp only [List.length_append]
 omega
theorem insB_take (l : List InM) (k : Nat) (x : InM) (h : l[k]? = some x) : insB (l.take (k + 1)) = insB (l.take k) ++ inpB x := by
 unfold insB
 rw [List.take_add_one, h, List.map_append, List.flatten_append]
 simp
theorem outsB_take (l : List OutM) (k : Nat) (x : OutM) (h : l[k]? = some x) : outsB (l.take (k + 1)) = outsB (l.take k) ++ outB x := by
 unfold outsB
 rw [List.take_add_one, h, List.map_append, List.flatten_append]
 simp
theorem txsB_take (l : List TxM) (k : Nat) (x : TxM) (h : l[k]? = some x) : txsB (l.take (k + 1)) = txsB (l.take k) ++ txB x := by
 unfold txsB
 rw [List.take_add_one, h, List.map_append, List.flatten_append]
 simp
theorem toL_lt' (n k : Nat) : ∀ x ∈ toL n k, x < 256 := by
 intro x hx
 exact toL_lt k n x hx
end Go.Proofs.YtkpffjcdalclmaaDoor
namespace Go.Proofs.YtkpffjcdalclmaaDoor
open Go.RowKit
set_option linter.unusedVariables false
set_option linter.unusedSimpArgs false
set_option maxRecDepth 100000
theorem cells_store (g : Nat) (l : List Value) (k : Nat) (w : World) (h1 : ∀ v ∈ l, v.oneCell' = true) (hs : l.length = k) (h : w.there g 0 k) : (storeCells ⟨g, 0, none⟩ l).run Tryd.prog w = .ok () (w.setCells g 0 l) := by
 have e := run_storeCells_cells (P := Tryd.prog) g 0 l 0 w (fun j hj => by simpa using (h j (by omega)).1) (fun j hj => by simpa using (h j (by omega)).2) (fun v hv => by
  have := h1 v (by simpa using hv)
  simpa using this)
 simpa using e
theorem row_made {α : Type} {R : RowT α} (h : R.Ok) (x : α) (w : World) (Z : Array Value) (t : TypeId) (hZ : Z.size = R.k) : (storeCells ⟨w.heap.size, 0, none⟩ (R.c x)).run Tryd.prog (w.alloc (.cells Z t)) = .ok () ((w.alloc (.cells Z t)).setCells w.heap.size 0 (R.c x)) ∧ Bk ((w.alloc (.cells Z t)).setCells w.heap.size 0 (R.c x)) w.heap.size t (R.c x).toArray ∧ Below w.heap.size w ((w.alloc (.cells Z t)).setCells w.heap.size 0 (R.c x)) := by
 refine ⟨cells_store w.heap.size (R.c x) R.k _ (h.one x) (h.len x) (Bk.there (Bk.new w _ Z) R.k (by rw [hZ]; exact Nat.le_refl _)), ?_, Below.setCells (Nat.le_refl _) _ _ _ ((Below.refl _ _).alloc (Nat.le_refl _) _)⟩
 have h2 : (R.c x).toArray.size = Z.size := by rw [hZ]; exact h.len x
 exact Bk.setAll (xs := (R.c x).toArray) (Bk.new _ _ _) h2
theorem row_size {α : Type} {R : RowT α} (h : R.Ok) (x : α) : (Tryd.prog.info? R.e).map (·.size) = some (R.c x).length := by
 obtain ⟨i, v, h1, h2, h3, _⟩ := h.info
 rw [h1, h.len x]
 exact congrArg some h3
structure Ws (w0 : World) (g lo : Nat) (v0 : Value) (W : World) (v : Value) (ys : List Nat) : Prop where
 G : Bk W g 104 #[v]
 M : Mine W lo v ys
 B : But (fun k => k = g ∨ slb v0 k) w0 W
 O : ∀ k, slb v k → slb v0 k ∨ w0.heap.size ≤ k
theorem Ws.refl {w0 : World} {g lo : Nat} {v0 : Value} {ys : List Nat} (G : Bk w0 g 104 #[v0]) (M : Mine w0 lo v0 ys) : Ws w0 g lo v0 w0 v0 ys := ⟨G, M, But.refl _ _, fun _ h => .inl h⟩
theorem Ws.later {w0 W W' : World} {g lo : Nat} {v0 v : Value} {ys : List Nat} (h : Ws w0 g lo v0 W v ys) (hb : Below W.heap.size W W') : Ws w0 g lo v0 W' v ys := ⟨h.G.keep hb, h.M.keep hb, h.B.step hb, h.O⟩
theorem Ws.call {w0 W W' : World} {g lo : Nat} {v0 v : Value} {ys zs : List Nat} {e : Ending} (h : Ws w0 g lo v0 W v ys) (k : Wrote g lo v zs W e W') : e = .returned (.tuple #[]) ∧ ∃ v', Ws w0 g lo v0 W' v' zs := by
 obtain ⟨he, v', h1, h2, h3, h4⟩ := k.behind h.B h.O
 exact ⟨he, v', h1, h2, h3, h4⟩
theorem Ws.trans {w0 w1 W : World} {g lo : Nat} {v0 v1 v : Value} {ys zs : List Nat} (h : Ws w0 g lo v0 w1 v1 ys) (k : Ws w1 g lo v1 W v zs) : Ws w0 g lo v0 W v zs := by
 have hw : Wrote g lo v1 zs w1 (.returned (.tuple #[])) W := ⟨rfl, v, k.G, k.M, k.B, k.O⟩
 obtain ⟨_, v', h1, h2, h3, h4⟩ := hw.behind h.B h.O
 have e : v' = v := by
  have := h1.cell 0
  rw [k.G.cell 0] at this
  simpa using this.symm
 subst e
 exact ⟨h1, h2, h3, h4⟩
theorem Ws.wrote {w0 W : World} {g lo : Nat} {v0 v : Value} {ys : List Nat} (h : Ws w0 g lo v0 W v ys) : Wrote g lo v0 ys w0 (.returned (.tuple #[])) W := ⟨rfl, v, h.G, h.M, h.B, h.O⟩
theorem Ws.bk {w0 W : World} {g lo b : Nat} {v0 v : Value} {ys y0 : List Nat} {t : TypeId} {cs : Array Value} (h : Ws w0 g lo v0 W v ys) (M0 : Mine w0 lo v0 y0) (K : Bk w0 b t cs) (hb : b ≠ g) (ht : t ≠ 5) : Bk W b t cs := h.B.keep K (fun hk => by
 rcases hk with e | e
 ·exact hb e
 ·exact M0.apart K ht e)
theorem Ws.below {w0 W : World} {g lo B : Nat} {v0 v : Value} {ys y0 : List Nat} (h : Ws w0 g lo v0 W v ys) (M0 : Mine w0 lo v0 y0) (hlo : B ≤ lo) (hg : B ≤ g) (hB : B ≤ w0.heap.size) : Below B w0 W := h.wrote.below M0 hlo hg hB
theorem Ws.bsn {W : World} {g lo B : Nat} {v u : Value} {ys xs : List Nat} (M : Mine W lo v ys) (hlo : B ≤ lo) (hg : B ≤ g) (hB : B ≤ W.heap.size) (h : BsV W B u xs) : BsN W (fun k => k = g ∨ slb v k) u xs := BsN.of_bs h hB (fun k hk e => by
 rcases e with e | e
 ·omega
 ·have := (M.slb_lo e).1
  omega)
theorem not_s {W : World} {g lo b : Nat} {v : Value} {ys : List Nat} {t : TypeId} {cs : Array Value} (M : Mine W lo v ys) (K : Bk W b t cs) (hb : b ≠ g) (ht : t ≠ 5) : ¬ (fun k => k = g ∨ slb v k) b := fun hk => by
 rcases hk with e | e
 ·exact hb e
 ·exact M.apart K ht e
theorem new_s {W : World} {g lo : Nat} {v : Value} {ys : List Nat} (M : Mine W lo v ys) (hg : g < W.heap.size) : ¬ (fun k => k = g ∨ slb v k) W.heap.size := fun hk => by
 have hk : W.heap.size = g ∨ slb v W.heap.size := hk
 rcases hk with e | e
 ·omega
 ·have := (M.slb_lo e).2.1
  omega
theorem in_get (x : InM) (i : Nat) (hi : i < 32) : (inL x)[i]? = some (.int .u8 ((nth x.tx.1 i : Nat) : Int)) := by
 unfold inL
 rw [List.getElem?_append_left (by rw [List.length_map, x.tx.2.1]; exact hi), List.getElem?_map, List.getElem?_eq_getElem (by rw [x.tx.2.1]; exact hi)]
 unfold nth
 rw [List.getD, List.getElem?_eq_getElem (by rw [x.tx.2.1]; exact hi)]
 rfl
theorem in_32 (x : InM) : (inL x)[32]? = some (.int .u32 (x.ix : Int)) := by
 unfold inL
 rw [List.getElem?_append_right (by rw [List.length_map, x.tx.2.1]; exact Nat.le_refl _), List.length_map, x.tx.2.1]
 rfl
theorem in_33 (x : InM) : (inL x)[33]? = some x.kv := by
 unfold inL
 rw [List.getElem?_append_right (by rw [List.length_map, x.tx.2.1]; decide), List.length_map, x.tx.2.1]
 rfl
theorem out_get (x : OutM) (i : Nat) (hi : i < 32) : (ouL x)[1 + i]? = some (.int .u8 ((nth x.lock.1 i : Nat) : Int)) := by
 unfold ouL
 rw [show 1 + i = i + 1 by omega, List.getElem?_cons_succ, List.getElem?_map, List.getElem?_eq_getElem (by rw [x.lock.2.1]; exact hi)]
 unfold nth
 rw [List.getD, List.getElem?_eq_getElem (by rw [x.lock.2.1]; exact hi)]
 rfl
theorem in_bsn {W : World} {b : Nat} {S : Nat → Prop} {x : InM} (K : Bk W b 166 (inL x).toArray) (hS : ¬ S b) : BsN W S (.slice (some ⟨b, 0, none⟩) 32 32) x.tx.1 :=
 ⟨some ⟨b, 0, none⟩, 32, by rw [x.tx.2.1], by rw [x.tx.2.1]; exact Nat.le_refl _, by omega, x.tx.2.2, fun _ => ⟨b, 0, rfl, K.lt, hS, fun i hi => by
  rw [Nat.zero_add, K.cell, List.getElem?_toArray]
  exact in_get x i (by rw [← x.tx.2.1]; exact hi)⟩⟩
theorem out_bsn {W : World} {b : Nat} {S : Nat → Prop} {x : OutM} (K : Bk W b 169 (ouL x).toArray) (hS : ¬ S b) : BsN W S (.slice (some ⟨b, 1, none⟩) 32 32) x.lock.1 :=
 ⟨some ⟨b, 1, none⟩, 32, by rw [x.lock.2.1], by rw [x.lock.2.1]; exact Nat.le_refl _, by omega, x.lock.2.2, fun _ => ⟨b, 1, rfl, K.lt, hS, fun i hi => by
  rw [K.cell, List.getElem?_toArray]
  exact out_get x i (by rw [← x.lock.2.1]; exact hi)⟩⟩
theorem am_wrap (a : Int) : IntKind.u64.wrap a = ((am64 a : Nat) : Int) := by
 unfold am64
 simp [IntKind.wrap, IntKind.signed, IntKind.bits]
 omega
theorem in_made (x : InM) (w : World) : (storeCells ⟨w.heap.size, 0, none⟩ (inL x)).run Tryd.prog (w.alloc (.cells #[.int .u8 0, .int .u8 0, .int .u8 0, .int .u8 0, .int .u8 0, .int .u8 0, .int .u8 0, .int .u8 0, .int .u8 0, .int .u8 0, .int .u8 0, .int .u8 0, .int .u8 0, .int .u8 0, .int .u8 0, .int .u8 0, .int .u8 0, .int .u8 0, .int .u8 0, .int .u8 0, .int .u8 0, .int .u8 0, .int .u8 0, .int .u8 0, .int .u8 0, .int .u8 0, .int .u8 0, .int .u8 0, .int .u8 0, .int .u8 0, .int .u8 0, .int .u8 0, .int .u32 0, .slice none 0 0] 166)) = .ok () ((w.alloc (.cells #[.int .u8 0, .int .u8 0, .int .u8 0, .int .u8 0, .int .u8 0, .int .u8 0, .int .u8 0, .int .u8 0, .int .u8 0, .int .u8 0, .int .u8 0, .int .u8 0, .int .u8 0, .int .u8 0, .int .u8 0, .int .u8 0, .int .u8 0, .int .u8 0, .int .u8 0, .int .u8 0, .int .u8 0, .int .u8 0, .int .u8 0, .int .u8 0, .int .u8 0, .int .u8 0, .int .u8 0, .int .u8 0, .int .u8 0, .int .u8 0, .int .u8 0, .int .u8 0, .int .u32 0, .slice none 0 0] 166)).setCells w.heap.size 0 (inL x)) ∧ Bk ((w.alloc (.cells #[.int .u8 0, .int .u8 0, .int .u8 0, .int .u8 0, .int .u8 0, .int .u8 0, .int .u8 0, .int .u8 0, .int .u8 0, .int .u8 0, .int .u8 0, .int .u8 0, .int .u8 0, .int .u8 0, .int .u8 0, .int .u8 0, .int .u8 0, .int .u8 0, .int .u8 0, .int .u8 0, .int .u8 0, .int .u8 0, .int .u8 0, .int .u8 0, .int .u8 0, .int .u8 0, .int .u8 0, .int .u8 0, .int .u8 0, .int .u8 0, .int .u8 0, .int .u8 0, .int .u32 0, .slice none 0 0] 166)).setCells w.heap.size 0 (inL x)) w.heap.size 166 (inL x).toArray ∧ Below w.heap.size w ((w.alloc (.cells #[.int .u8 0, .int .u8 0, .int .u8 0, .int .u8 0, .int .u8 0, .int .u8 0, .int .u8 0, .int .u8 0, .int .u8 0, .int .u8 0, .int .u8 0, .int .u8 0, .int .u8 0, .int .u8 0, .int .u8 0, .int .u8 0, .int .u8 0, .int .u8 0, .int .u8 0, .int .u8 0, .int .u8 0, .int .u8 0, .int .u8 0, .int .u8 0, .int .u8 0, .int .u8 0, .int .u8 0, .int .u8 0, .int .u8 0, .int .u8 0, .int .u8 0, .int .u8 0, .int .u32 0, .slice none 0 0] 166)).setCells w.heap.size 0 (inL x)) := row_made inR_ok x w _ _ rfl
theorem out_made (x : OutM) (w : World) : (storeCells ⟨w.heap.size, 0, none⟩ (ouL x)).run Tryd.prog (w.alloc (.cells #[.int .i64 0, .int .u8 0, .int .u8 0, .int .u8 0, .int .u8 0, .int .u8 0, .int .u8 0, .int .u8 0, .int .u8 0, .int .u8 0, .int .u8 0, .int .u8 0, .int .u8 0, .int .u8 0, .int .u8 0, .int .u8 0, .int .u8 0, .int .u8 0, .int .u8 0, .int .u8 0, .int .u8 0, .int .u8 0, .int .u8 0, .int .u8 0, .int .u8 0, .int .u8 0, .int .u8 0, .int .u8 0, .int .u8 0, .int .u8 0, .int .u8 0, .int .u8 0, .int .u8 0] 169)) = .ok () ((w.alloc (.cells #[.int .i64 0, .int .u8 0, .int .u8 0, .int .u8 0, .int .u8 0, .int .u8 0, .int .u8 0, .int .u8 0, .int .u8 0, .int .u8 0, .int .u8 0, .int .u8 0, .int .u8 0, .int .u8 0, .int .u8 0, .int .u8 0, .int .u8 0, .int .u8 0, .int .u8 0, .int .u8 0, .int .u8 0, .int .u8 0, .int .u8 0, .int .u8 0, .int .u8 0, .int .u8 0, .int .u8 0, .int .u8 0, .int .u8 0, .int .u8 0, .int .u8 0, .int .u8 0, .int .u8 0] 169)).setCells w.heap.size 0 (ouL x)) ∧ Bk ((w.alloc (.cells #[.int .i64 0, .int .u8 0, .int .u8 0, .int .u8 0, .int .u8 0, .int .u8 0, .int .u8 0, .int .u8 0, .int .u8 0, .int .u8 0, .int .u8 0, .int .u8 0, .int .u8 0, .int .u8 0, .int .u8 0, .int .u8 0, .int .u8 0, .int .u8 0, .int .u8 0, .int .u8 0, .int .u8 0, .int .u8 0, .int .u8 0, .int .u8 0, .int .u8 0, .int .u8 0, .int .u8 0, .int .u8 0, .int .u8 0, .int .u8 0, .int .u8 0, .int .u8 0, .int .u8 0] 169)).setCells w.heap.size 0 (ouL x)) w.heap.size 169 (ouL x).toArray ∧ Below w.heap.size w ((w.alloc (.cells #[.int .i64 0, .int .u8 0, .int .u8 0, .int .u8 0, .int .u8 0, .int .u8 0, .int .u8 0, .int .u8 0, .int .u8 0, .int .u8 0, .int .u8 0, .int .u8 0, .int .u8 0, .int .u8 0, .int .u8 0, .int .u8 0, .int .u8 0, .int .u8 0, .int .u8 0, .int .u8 0, .int .u8 0, .int .u8 0, .int .u8 0, .int .u8 0, .int .u8 0, .int .u8 0, .int .u8 0, .int .u8 0, .int .u8 0, .int .u8 0, .int .u8 0, .int .u8 0, .int .u8 0] 169)).setCells w.heap.size 0 (ouL x)) := row_made outR_ok x w _ _ rfl
theorem tx_made (a b : Value) (w : World) : Bk (w.alloc (.cells #[a, b] 89)) w.heap.size 89 #[a, b] ∧ Below w.heap.size w (w.alloc (.cells #[a, b] 89)) := ⟨Bk.new _ _ _, (Below.refl _ _).alloc (Nat.le_refl _) _⟩
theorem ht_tx : (89 : Nat) ≠ 5 := by decide
theorem ht_in : (166 : Nat) ≠ 5 := by decide
theorem ht_out : (169 : Nat) ≠ 5 := by decide
end Go.Proofs.YtkpffjcdalclmaaDoor
namespace Go.Proofs.YtkpffjcdalclmaaDoor
open Go.RowKit
set_option linter.unusedVariables false
set_option linter.unusedSimpArgs false
set_option maxRecDepth 100000
def TxsAt (w : World) (S : Nat → Prop) (B : Nat) (s : Option Addr) (n : Nat) (L : List TxM) : Prop := n = L.length ∧ ∀ k, k < n → ∃ t b o, L[k]? = some t ∧ s = some ⟨b, o, none⟩ ∧ b < w.heap.size ∧ ¬ S b ∧ TxV w B t ∧ TxFit t ∧ w.rangeAt b (o + k * 2) (txL t)
theorem rr_below {C : Nat} {w w' : World} {b o : Nat} {cs : List Value} (h : w.rangeAt b o cs) (hb : Below C w w') (hC : b < C) : w'.rangeAt b o cs := fun j v hv => (hb.cell (p := ⟨b, o + j, none⟩) hC).trans (h j v hv)
theorem rr_but {S : Nat → Prop} {w w' : World} {b o : Nat} {cs : List Value} (h : w.rangeAt b o cs) (hb : But S w w') (hC : b < w.heap.size) (hS : ¬ S b) : w'.rangeAt b o cs := fun j v hv => (hb.cell (p := ⟨b, o + j, none⟩) hC hS).trans (h j v hv)
theorem row_at {α : Type} {R : RowT α} {w : World} {B : Nat} {s : Option Addr} {n c : Nat} {L : List α} (h : RowV R w B (.slice s n c) L) : ∀ k, k < L.length → ∃ x b o, L[k]? = some x ∧ s = some ⟨b, o, none⟩ ∧ b < B ∧ w.rangeAt b (o + k * R.k) (R.c x) := by
 intro k hk
 obtain ⟨b, o, e, hb, _, hc⟩ := h.at_ (fun e => by rw [e] at hk; simp at hk)
 exact ⟨_, b, o, List.getElem?_eq_getElem hk, e, hb, hc k _ (List.getElem?_eq_getElem hk)⟩
theorem txsB_le (L : List TxM) (k : Nat) (h : ∀ x ∈ L, TxFit x) : (txsB (L.take k)).length ≤ 44100000 * L.length := by
 induction L generalizing k with
 | nil => simp [txsB]
 | cons x r ih =>
  cases k with
  | zero => simp [txsB]
  | succ k =>
   have h1 := ih k (fun y hy => h y (List.mem_cons_of_mem _ hy))
   have h2 := txB_len x (h x (List.mem_cons_self ..))
   have e : txsB ((x :: r).take (k + 1)) = txB x ++ txsB (r.take k) := rfl
   rw [e, List.length_append, List.length_cons]
   omega
theorem insB_le (t : TxM) (k : Nat) (h : TxFit t) : (insB (t.ins.take k)).length ≤ 44002000 := by
 have h1 := insB_len (t.ins.take k) (fun x hx => h.2.2 x (List.mem_of_mem_take hx))
 have h2 := h.1
 rw [List.length_take] at h1
 omega
theorem outsB_le (t : TxM) (k : Nat) (h : TxFit t) : (outsB (t.outs.take k)).length ≤ 1600 := by
 have h1 := outsB_len (t.outs.take k)
 have h2 := h.2.1
 rw [List.length_take] at h1
 omega
theorem Wrote.bk {g lo b : Nat} {v : Value} {ys zs : List Nat} {W W' : World} {e : Ending} {t : TypeId} {cs : Array Value} (h : Wrote g lo v zs W e W') (M : Mine W lo v ys) (K : Bk W b t cs) (hb : b ≠ g) (ht : t ≠ 5) : Bk W' b t cs := by
 obtain ⟨_, _, _, _, hB, _⟩ := h
 exact hB.keep K (not_s M K hb ht)
set_option maxHeartbeats 8000000 in
theorem tput_any (g lo B : Nat) (s0 : Option Addr) (n c : Nat) (L : List TxM) (xs : List Nat) (v : Value) (w : World) (hG : Bk w g 104 #[v]) (hM : Mine w lo v xs) (hlo : lo ≤ w.heap.size) (hg : B ≤ g) (hBl : B ≤ lo) (hL : TxsAt w (fun k => k = g ∨ slb v k) B s0 n L) (hlen : xs.length + 44100000 * n + 44300000 ≤ 8000000000) :
  Calls Tryd.prog 83 #[.pointer (some ⟨g, 0, none⟩), .slice s0 n c] w (Wrote g lo v (xs ++ txsB L) w) := by
 have hgw := hG.lt
 have HGW := Lib.hid hgw
 have HLO := Lib.hid (show lo ≤ w.heap.size ∧ B ≤ g ∧ B ≤ lo from ⟨hlo, hg, hBl⟩)
 have HL := Lib.hid hL.2
 have HN := Lib.hid hL.1
 have HM0 := Lib.hid hM
 have HF : Hid (∀ x ∈ L, TxFit x) := by
  show ∀ x ∈ L, TxFit x
  intro x hx
  obtain ⟨i, hi, rfl⟩ := List.mem_iff_getElem.1 hx
  obtain ⟨t, b, o, e, _, _, _, _, hf, _⟩ := hL.2 i (by have := hL.1; omega)
  rw [List.getElem?_eq_getElem hi] at e
  obtain rfl : L[i] = t := by simpa using e
  exact hf
 have HLN := Lib.hid hlen
 have W0 := Lib.hid (Ws.refl hG hM)
 have hn40 : n < 1000 := by omega
 clear hG hM hlo hg hBl hL hgw hlen
 go_enter Tryd.func83, Tryd.ntmps83
 go_wp2_with fail
 go_loopw [12] (fun i wr => ∃ (k : Nat) (vr : Value), k ≤ n ∧ i = .int .i64 k ∧ Hid (Ws w g lo v wr vr (xs ++ txsB (L.take k)))) (fun i _ => n - (intOf i).toNat)
 case atStart => exact ⟨0, v, Nat.zero_le _, rfl, by rw [List.take_zero]; show Ws _ _ _ _ _ _ (xs ++ []); rw [List.append_nil]; exact W0.out⟩
 case round =>
  obtain ⟨k, vr, hk, rfl, HR⟩ := hrel
  clear W0
  by_cases hlt : k < n
  ·obtain ⟨t, b, o, hkt, rfl, hbw, hbs, hTV, hTF, hrg⟩ := HL.out k hlt
   have j1 : decide ((k : Int) < (n : Int)) = true := decide_eq_true (by omega)
   replace hrg := rr_but hrg HR.out.B hbw hbs
   have c0_ : wr.cell? ⟨b, o + k * 2, none⟩ = some t.iv := hrg 0 _ rfl
   have c1_ : wr.cell? ⟨b, o + k * 2 + 1, none⟩ = some t.ov := hrg 1 _ rfl
   have hbr : b < wr.heap.size := Nat.lt_of_lt_of_le hbw HR.out.B.size
   have hTB := HR.out.below HM0.out HLO.out.2.2 HLO.out.2.1 (Nat.le_trans HLO.out.2.2 HLO.out.1)
   have HTV := Lib.hid (hTV.keep hTB (Nat.le_refl _))
   have HTF := Lib.hid hTF
   have HYL : Hid ((xs ++ txsB (L.take k)).length + 44100000 + 44200000 ≤ 8000000000) := by
    have e : txsB (L.take k) ++ txB t = txsB (L.take (k + 1)) := (txsB_take L k t hkt).symm
    have h3 := txsB_le L k HF.out
    have h1 := HN.out
    have h2 := HLN.out
    show _ ≤ _
    have h4 : k * 44100000 ≤ 44100000 * (n - 1) := by rw [Nat.mul_comm]; exact Nat.mul_le_mul_left _ (by omega)
    have h5 := txsB_le (L.take k) k (fun x hx => HF.out x (List.mem_of_mem_take hx))
    rw [List.take_take, Nat.min_self, List.length_take] at h5
    rw [List.length_append]
    have h6 : min k L.length = k := by omega
    rw [h6] at h5
    omega
   have HST : Hid ((xs ++ txsB (L.take k)) ++ txB t = xs ++ txsB (L.take (k + 1))) := by
    show _ = _
    rw [txsB_take L k t hkt, List.append_assoc]
   obtain ⟨Y, hY⟩ : ∃ Y, Y = xs ++ txsB (L.take k) := ⟨_, rfl⟩
   rw [← hY] at HR HYL HST
   obtain ⟨ti, tic, ins, to_, toc, outs⟩ := t
   obtain ⟨ni, hni⟩ : ∃ ni, ni = ins.length := ⟨_, rfl⟩
   obtain ⟨no, hno⟩ : ∃ no, no = outs.length := ⟨_, rfl⟩
   have HNI := Lib.hid hni
   have HNO := Lib.hid hno
   have HTB : Hid (txB ⟨ti, tic, ins, to_, toc, outs⟩ = countL ni ++ (insB ins ++ (countL no ++ outsB outs))) := by show _ = _; rw [hni, hno]; rfl
   have hni40 : ni ≤ 40 := by rw [hni]; exact HTF.out.1
   have hno40 : no ≤ 40 := by rw [hno]; exact HTF.out.2.1
   change wr.cell? _ = some (.slice ti ins.length tic) at c0_
   change wr.cell? _ = some (.slice to_ outs.length toc) at c1_
   rw [← hni] at c0_
   rw [← hno] at c1_
   obtain ⟨KT, BT⟩ := tx_made (.slice ti ni tic) (.slice to_ no toc) wr
   have hgr : g ≠ wr.heap.size := by have := HR.out.G.lt; omega
   clear hrg hni hno hY hTV hTF hTB hkt hbs hbw HL
   have HR2 := Lib.hid (HR.out.later BT)
   have HTV2 := Lib.hid (HTV.out.keep BT (Nat.le_trans HLO.out.2.2 (Nat.le_trans HLO.out.1 HR.out.B.size)))
   go_upto_region 3 with fail
   refine wp_any (fun W => Ws w g lo v W vr Y ∧ Bk W wr.heap.size 89 #[.slice ti ni tic, .slice to_ no toc] ∧ TxV W B ⟨ti, tic, ins, to_, toc, outs⟩) ⟨HR2.out, KT, HTV2.out⟩ ?_
   have HG5 := Lib.hid hgr
   have HBw := Lib.hid (show w.heap.size ≤ wr.heap.size from HR.out.B.size)
   clear HR HR2 KT BT HTV HTV2 c0_ c1_ hbr hgr
   generalize wr.heap.size = g5 at *
   clear wr
   rintro W1 ⟨h1, K5, TV⟩
   have HR1 := Lib.hid h1
   have HTV1 := Lib.hid TV
   have HM1 := Lib.hid h1.M
   have HW1 := Lib.hid (Ws.refl h1.G h1.M)
   have HS1 := Lib.hid h1.B.size
   have K5b := K5
   clear h1 K5 TV
   have c0 := K5b.cell 0
   have c1 := K5b.cell 1
   have z5 := K5b.lt
   go_wp2_with fail
   refine (count_any g lo ni Y vr W1 HR1.out.G HR1.out.M (Nat.le_trans HLO.out.1 HS1.out) (by have := HYL.out; omega)).mono ?_
   rintro e W2 h
   obtain ⟨rfl, v2, W2s⟩ := HW1.out.call h
   have KK := W2s.bk HM1.out K5b (fun e => HG5.out e.symm) ht_tx
   have c0 := KK.cell 0
   have c1 := KK.cell 1
   have z5 := KK.lt
   have W2s := Lib.hid W2s
   have HK5 := Lib.hid K5b
   clear h K5b KK HW1
   go_upto_region 4 with fail
   go_wp2_with fail
   go_loopw [25] (fun i wr => ∃ (j : Nat) (vj : Value), j ≤ ni ∧ i = .int .i64 j ∧ Hid (Ws W1 g lo vr wr vj ((Y ++ countL ni) ++ insB (ins.take j)))) (fun i _ => ni - (intOf i).toNat)
   case atStart => exact ⟨0, v2, Nat.zero_le _, rfl, by rw [List.take_zero]; show Ws _ _ _ _ _ _ ((Y ++ countL ni) ++ []); rw [List.append_nil]; exact W2s.out⟩
   case round =>
    obtain ⟨j, vj, hj, rfl, HR⟩ := hrel
    clear W2s c0 c1 z5
    by_cases hlj : j < ni
    ·obtain ⟨x, b2, o2, hkx, rfl, hb2, hrg⟩ := row_at HTV1.out.1 j (by have := HNI.out; show j < ins.length; omega)
     have j2 : decide ((j : Int) < (ni : Int)) = true := decide_eq_true (by omega)
     have hIV := HTV1.out.2.1 x (List.mem_of_getElem? hkx)
     have hIF : x.key.length ≤ 1100000 := HTF.out.2.2 x (List.mem_of_getElem? hkx)
     have hTB := HR.out.below HM1.out HLO.out.2.2 HLO.out.2.1 (Nat.le_trans HLO.out.2.2 (Nat.le_trans HLO.out.1 HS1.out))
     replace hrg := rr_below hrg hTB hb2
     change wr.rangeAt b2 (o2 + j * 34) (inL x) at hrg
     have HIV := Lib.hid (hIV.keep hTB (Nat.le_refl _))
     have HYJ : Hid (((Y ++ countL ni) ++ insB (ins.take j)).length + 1200500 ≤ 8000000000) := by
      show _ ≤ _
      have h1 := insB_le _ j HTF.out
      simp only at h1
      have h2 := countL_len ni
      have h3 := HYL.out
      simp only [List.length_append]
      omega
     have HSJ : Hid (((Y ++ countL ni) ++ insB (ins.take j)) ++ inpB x = (Y ++ countL ni) ++ insB (ins.take (j + 1))) := by
      show _ = _
      rw [insB_take ins j x hkx, List.append_assoc]
     obtain ⟨Z, hZ⟩ : ∃ Z, Z = (Y ++ countL ni) ++ insB (ins.take j) := ⟨_, rfl⟩
     rw [← hZ] at HR HYJ HSJ
     have hbw2 : b2 < wr.heap.size := Nat.lt_of_lt_of_le hb2 (Nat.le_trans HLO.out.2.2 (Nat.le_trans (Nat.le_trans HLO.out.1 HS1.out) HR.out.B.size))
     obtain ⟨hstc, K7, B7⟩ := in_made x wr
     have hps := row_size inR_ok x
     have hs34 := inL_len x
     have HR3 := Lib.hid (HR.out.later B7)
     have HIV3 := Lib.hid (HIV.out.keep B7 (Nat.le_trans HLO.out.2.2 (Nat.le_trans (Nat.le_trans HLO.out.1 HS1.out) HR.out.B.size)))
     have hg7 : wr.heap.size ≠ g := by have := HR.out.G.lt; omega
     have HG7 := Lib.hid hg7
     have HS3 := Lib.hid (show W1.heap.size ≤ wr.heap.size from HR.out.B.size)
     obtain ⟨PL, hPL⟩ : ∃ PL, PL = inL x := ⟨_, rfl⟩
     have HPL := Lib.hid hPL
     rw [← hPL] at hrg hstc K7 B7 hs34 HR3 HIV3
     have hps : (Tryd.prog.info? 166).map (·.size) = some PL.length := by rw [hPL]; exact hps
     clear hPL hZ hTB hIV hkx HR HIV hg7
     go_upto_region 7 with (refine wpList_load_mid rfl 166 (.tmp 27) rfl b2 (o2 + j * 34) rfl PL _ hrg Tryd.underlying166 rfl hps ?_)
     refine wp_any (fun W => Ws W1 g lo vr W vj Z ∧ Bk W wr.heap.size 166 PL.toArray ∧ InV W B x) ⟨HR3.out, K7, HIV3.out⟩ ?_
     clear HR3 HIV3 hstc K7 B7 hps hs34 hrg hbw2
     generalize wr.heap.size = g7 at *
     clear wr
     rintro W3 ⟨h3, K7, IV3⟩
     have H3 := Lib.hid h3
     have K7 : Bk W3 g7 166 (inL x).toArray := by rw [← HPL.out]; exact K7
     have z7 := K7.lt
     have hsz3 : lo ≤ W3.heap.size := Nat.le_trans (Nat.le_trans HLO.out.1 HS1.out) h3.B.size
     have HA3 : Below W3.heap.size W3 (W3.alloc (.cells #[.slice (some ⟨g7, 0, none⟩) 32 32] 32)) := (Below.refl _ _).alloc (Nat.le_refl _) _
     have M3 := h3.M.keep HA3
     have K7a := K7.alloc (.cells #[.slice (some ⟨g7, 0, none⟩) 32 32] 32)
     have hG3 := h3.G.lt
     have HC := raw_any g lo (some ⟨W3.heap.size, 0, none⟩) 1 [x.tx.1] Z vj (W3.alloc (.cells #[.slice (some ⟨g7, 0, none⟩) 32 32] 32)) (h3.G.alloc _) M3 (Nat.le_trans hsz3 HA3.size) (by have := HYJ.out; have := x.tx.2.1; simp; omega) (by simp) (partsN_one (in_bsn K7a (not_s M3 K7a HG7.out ht_in)) (Bk.new _ _ _) (new_s h3.M hG3))
     simp only [List.flatten_cons, List.flatten_nil, List.append_nil] at HC
     have HC := Lib.hid HC
     have H3a := Lib.hid (h3.later HA3)
     have IV3a := Lib.hid (IV3.keep HA3 (Nat.le_trans HLO.out.2.2 hsz3))
     have HM3 := Lib.hid M3
     have HK7 := Lib.hid K7a
     clear h3 K7 IV3 M3 K7a HA3 H3
     go_wp2_with fail
     refine HC.out.mono ?_
     rintro e W4 h
     have K7 := h.bk HM3.out HK7.out HG7.out ht_in
     have IV4 := IV3a.out.keep (h.below HM3.out HLO.out.2.2 HLO.out.2.1 (Nat.le_trans HLO.out.2.2 (Nat.le_trans hsz3 (by simp)))) (Nat.le_refl _)
     obtain ⟨rfl, v4, H4⟩ := H3a.out.call h
     clear h HC H3a IV3a HM3 HK7
     have d32 := (K7.cell 32).trans ((List.getElem?_toArray).trans (in_32 x))
     have z7 := K7.lt
     have hwr : IntKind.u64.wrap (x.ix : Int) = (x.ix : Int) := by have := IV4.1; simp [IntKind.wrap, IntKind.signed, IntKind.bits]; omega
     have hsz4 : lo ≤ W4.heap.size := Nat.le_trans (Nat.le_trans HLO.out.1 HS1.out) H4.B.size
     have HA4 : Below W4.heap.size W4 (W4.alloc (.cells #[.int .u64 (x.ix : Int)] 22)) := (Below.refl _ _).alloc (Nat.le_refl _) _
     have M4 := H4.M.keep HA4
     have K7a := K7.alloc (.cells #[.int .u64 (x.ix : Int)] 22)
     have HC := put_any g lo W4.heap.size 4 x.ix (Z ++ x.tx.1) v4 (W4.alloc (.cells #[.int .u64 (x.ix : Int)] 22)) (H4.G.alloc _) M4 (Nat.le_trans hsz4 HA4.size) (Bk.new _ _ _) (by have := HYJ.out; have := x.tx.2.1; rw [List.length_append]; omega)
     rw [show sz8 4 = 4 by decide] at HC
     have HC := Lib.hid HC
     have H4a := Lib.hid (H4.later HA4)
     have IV4a := Lib.hid (IV4.keep HA4 (Nat.le_trans HLO.out.2.2 hsz4))
     have HM4 := Lib.hid M4
     have HK7 := Lib.hid K7a
     clear H4 K7 IV4 M4 K7a HA4
     go_wp2_with fail
     refine HC.out.mono ?_
     rintro e W5 h
     have K7 := h.bk HM4.out HK7.out HG7.out ht_in
     have IV5 := IV4a.out.keep (h.below HM4.out HLO.out.2.2 HLO.out.2.1 (Nat.le_trans HLO.out.2.2 (Nat.le_trans hsz4 (by simp)))) (Nat.le_refl _)
     obtain ⟨rfl, v5, H5⟩ := H4a.out.call h
     clear h HC H4a IV4a HM4 HK7 d32 hwr
     have d33 : W5.cell? ⟨g7, 33, none⟩ = some x.kv := (K7.cell 33).trans ((List.getElem?_toArray).trans (in_33 x))
     have z7 := K7.lt
     have hsz5 : lo ≤ W5.heap.size := Nat.le_trans (Nat.le_trans HLO.out.1 HS1.out) H5.B.size
     have HC := text_any g lo x.kv x.key ((Z ++ x.tx.1) ++ toL x.ix 4) v5 W5 H5.G H5.M hsz5 (by have := HYJ.out; have := x.tx.2.1; simp only [List.length_append, toL_length]; omega) (Ws.bsn H5.M HLO.out.2.2 HLO.out.2.1 (Nat.le_trans HLO.out.2.2 hsz5) IV5.2)
     have HC := Lib.hid HC
     have H5 := Lib.hid H5
     clear K7 IV5
     generalize x.kv = xkv at *
     go_wp2_with fail
     refine HC.out.mono ?_
     rintro e W6 h
     obtain ⟨rfl, v6, H6⟩ := H5.out.call h
     have e6 : ((Z ++ x.tx.1) ++ toL x.ix 4) ++ (countL x.key.length ++ x.key) = (Y ++ countL ni) ++ insB (ins.take (j + 1)) := by
      rw [← HSJ.out]
      unfold inpB
      simp only [List.append_assoc]
     rw [e6] at H6
     have H6 := Lib.hid H6
     clear h HC H5 e6 d33 hIF
     go_wp2_with fail
     go_roundw
     case rel => exact ⟨j + 1, v6, by omega, by go_num, H6⟩
     case measure => simp [intOf]; omega
    ·obtain rfl : j = ni := by omega
     have j2 : decide ((j : Int) < (j : Int)) = false := decide_eq_false (by omega)
     rw [HNI.out, List.take_length, ← HNI.out] at HR
     clear hlj
     have KK := HR.out.bk HM1.out HK5.out (fun e => HG5.out e.symm) ht_tx
     have c0 := KK.cell 0
     have c1 := KK.cell 1
     have z5 := KK.lt
     clear KK
     have hszr : lo ≤ wr.heap.size := Nat.le_trans (Nat.le_trans HLO.out.1 HS1.out) HR.out.B.size
     go_wp2_with fail
     refine (count_any g lo no ((Y ++ countL j) ++ insB ins) vj wr HR.out.G HR.out.M hszr (by
      have h1 := insB_le _ ins.length HTF.out
      simp only [List.take_length] at h1
      have h2 := countL_len j
      have h3 := HYL.out
      simp only [List.length_append]
      omega)).mono ?_
     rintro e W7 h
     obtain ⟨rfl, v7, H7⟩ := HR.out.call h
     have KK := H7.bk HM1.out HK5.out (fun e => HG5.out e.symm) ht_tx
     have c0 := KK.cell 0
     have c1 := KK.cell 1
     have z5 := KK.lt
     have H7 := Lib.hid H7
     clear h KK HR hszr
     obtain ⟨U, hU⟩ : ∃ U, U = ((Y ++ countL j) ++ insB ins) ++ countL no := ⟨_, rfl⟩
     have HUL : Hid (U.length + 1600 + 1000 ≤ 8000000000) := by
      show _ ≤ _
      have h1 := insB_le _ ins.length HTF.out
      simp only [List.take_length] at h1
      have h2 := countL_len j
      have h3 := HYL.out
      have h4 := countL_len no
      rw [hU]
      simp only [List.length_append]
      omega
     have HUE : Hid (U ++ outsB outs = xs ++ txsB (L.take (k + 1))) := by
      show _ = _
      rw [← HST.out, HTB.out, hU]
      simp only [List.append_assoc]
     rw [← hU] at H7
     clear hU HST HTB HYL
     go_upto_region 12 with fail
     go_wp2_with fail
     go_loopw [56] (fun i wr => ∃ (q : Nat) (vj : Value), q ≤ no ∧ i = .int .i64 q ∧ Hid (Ws W1 g lo vr wr vj (U ++ outsB (outs.take q)))) (fun i _ => no - (intOf i).toNat)
     case atStart => exact ⟨0, v7, Nat.zero_le _, rfl, by rw [List.take_zero]; show Ws _ _ _ _ _ _ (U ++ []); rw [List.append_nil]; exact H7.out⟩
     case round =>
      obtain ⟨q, vq, hq, rfl, HR⟩ := hrel
      clear H7 c0 c1 z5
      by_cases hlq : q < no
      ·obtain ⟨x, b2, o2, hkx, rfl, hb2, hrg⟩ := row_at HTV1.out.2.2.1 q (by have := HNO.out; show q < outs.length; omega)
       have j3 : decide ((q : Int) < (no : Int)) = true := decide_eq_true (by omega)
       have hTB := HR.out.below HM1.out HLO.out.2.2 HLO.out.2.1 (Nat.le_trans HLO.out.2.2 (Nat.le_trans HLO.out.1 HS1.out))
       replace hrg := rr_below hrg hTB hb2
       change wr.rangeAt b2 (o2 + q * 33) (ouL x) at hrg
       have HYJ : Hid ((U ++ outsB (outs.take q)).length + 500 ≤ 8000000000) := by
        show _ ≤ _
        have h1 := outsB_le _ q HTF.out
        simp only at h1
        have h3 := HUL.out
        simp only [List.length_append]
        omega
       have HSJ : Hid ((U ++ outsB (outs.take q)) ++ outB x = U ++ outsB (outs.take (q + 1))) := by
        show _ = _
        rw [outsB_take outs q x hkx, List.append_assoc]
       obtain ⟨Z, hZ⟩ : ∃ Z, Z = U ++ outsB (outs.take q) := ⟨_, rfl⟩
       rw [← hZ] at HR HYJ HSJ
       have hbw2 : b2 < wr.heap.size := Nat.lt_of_lt_of_le hb2 (Nat.le_trans HLO.out.2.2 (Nat.le_trans (Nat.le_trans HLO.out.1 HS1.out) HR.out.B.size))
       obtain ⟨hstc, K9, B9⟩ := out_made x wr
       have hps := row_size outR_ok x
       have hs33 := ouL_len x
       have HR3 := Lib.hid (HR.out.later B9)
       have hg9 : wr.heap.size ≠ g := by have := HR.out.G.lt; omega
       have HG9 := Lib.hid hg9
       obtain ⟨PL, hPL⟩ : ∃ PL, PL = ouL x := ⟨_, rfl⟩
       have HPL := Lib.hid hPL
       rw [← hPL] at hrg hstc K9 B9 hs33 HR3
       have hps : (Tryd.prog.info? 169).map (·.size) = some PL.length := by rw [hPL]; exact hps
       clear hPL hZ hTB hkx HR hg9
       go_upto_region 15 with (refine wpList_load_mid rfl 169 (.tmp 58) rfl b2 (o2 + q * 33) rfl PL _ hrg Tryd.underlying169 rfl hps ?_)
       refine wp_any (fun W => Ws W1 g lo vr W vq Z ∧ Bk W wr.heap.size 169 PL.toArray) ⟨HR3.out, K9⟩ ?_
       clear HR3 hstc K9 B9 hps hs33 hrg hbw2
       generalize wr.heap.size = g9 at *
       clear wr
       rintro W3 ⟨h3, K9⟩
       have K9 : Bk W3 g9 169 (ouL x).toArray := by rw [← HPL.out]; exact K9
       have z9 := K9.lt
       have d0 : W3.cell? ⟨g9, 0, none⟩ = some (.int .i64 x.am) := K9.cell 0
       have hwr := am_wrap x.am
       have hsz3 : lo ≤ W3.heap.size := Nat.le_trans (Nat.le_trans HLO.out.1 HS1.out) h3.B.size
       have HA3 : Below W3.heap.size W3 (W3.alloc (.cells #[.int .u64 ((am64 x.am : Nat) : Int)] 22)) := (Below.refl _ _).alloc (Nat.le_refl _) _
       have M3 := h3.M.keep HA3
       have K9a := K9.alloc (.cells #[.int .u64 ((am64 x.am : Nat) : Int)] 22)
       have HC := put_any g lo W3.heap.size 8 (am64 x.am) Z vq (W3.alloc (.cells #[.int .u64 ((am64 x.am : Nat) : Int)] 22)) (h3.G.alloc _) M3 (Nat.le_trans hsz3 HA3.size) (Bk.new _ _ _) (by have := HYJ.out; omega)
       rw [show sz8 8 = 8 by decide] at HC
       have HC := Lib.hid HC
       have H3a := Lib.hid (h3.later HA3)
       have HM3 := Lib.hid M3
       have HK9 := Lib.hid K9a
       clear h3 K9 M3 K9a HA3
       go_wp2_with fail
       refine HC.out.mono ?_
       rintro e W4 h
       have K9 := h.bk HM3.out HK9.out HG9.out ht_out
       obtain ⟨rfl, v4, H4⟩ := H3a.out.call h
       clear h HC H3a HM3 HK9 d0 hwr
       have z9 := K9.lt
       have hG4 := H4.G.lt
       have hsz4 : lo ≤ W4.heap.size := Nat.le_trans (Nat.le_trans HLO.out.1 HS1.out) H4.B.size
       have HA4 : Below W4.heap.size W4 (W4.alloc (.cells #[.slice (some ⟨g9, 1, none⟩) 32 32] 32)) := (Below.refl _ _).alloc (Nat.le_refl _) _
       have M4 := H4.M.keep HA4
       have K9a := K9.alloc (.cells #[.slice (some ⟨g9, 1, none⟩) 32 32] 32)
       have HC := raw_any g lo (some ⟨W4.heap.size, 0, none⟩) 1 [x.lock.1] (Z ++ toL (am64 x.am) 8) v4 (W4.alloc (.cells #[.slice (some ⟨g9, 1, none⟩) 32 32] 32)) (H4.G.alloc _) M4 (Nat.le_trans hsz4 HA4.size) (by have := HYJ.out; have := x.lock.2.1; simp only [List.flatten_cons, List.flatten_nil, List.append_nil, List.length_append, toL_length]; omega) (by simp) (partsN_one (out_bsn K9a (not_s M4 K9a HG9.out ht_out)) (Bk.new _ _ _) (new_s H4.M hG4))
       simp only [List.flatten_cons, List.flatten_nil, List.append_nil] at HC
       have HC := Lib.hid HC
       have H4a := Lib.hid (H4.later HA4)
       clear H4 K9 M4 K9a HA4
       go_wp2_with fail
       refine HC.out.mono ?_
       rintro e W6 h
       obtain ⟨rfl, v6, H6⟩ := H4a.out.call h
       have e6 : (Z ++ toL (am64 x.am) 8) ++ x.lock.1 = U ++ outsB (outs.take (q + 1)) := by
        rw [← HSJ.out]
        unfold outB
        simp only [List.append_assoc]
       rw [e6] at H6
       have H6 := Lib.hid H6
       clear h HC H4a e6
       go_wp2_with fail
       go_roundw
       case rel => exact ⟨q + 1, v6, by omega, by go_num, H6⟩
       case measure => simp [intOf]; omega
      ·obtain rfl : q = no := by omega
       have j3 : decide ((q : Int) < (q : Int)) = false := decide_eq_false (by omega)
       rw [HNO.out, List.take_length, HUE.out] at HR
       have HE := Lib.hid (HR1.out.trans HR.out)
       clear hlq HR
       go_wp2_with fail
       go_roundw
       case rel => exact ⟨k + 1, vq, by omega, by go_num, HE⟩
       case measure => simp [intOf]; omega
  ·obtain rfl : k = n := by omega
   have j1 : decide ((k : Int) < (k : Int)) = false := decide_eq_false (by omega)
   rw [HN.out, List.take_length] at HR
   clear hlt
   go_wp2_with fail
   go_end0
   exact HR.out.wrote
end Go.Proofs.YtkpffjcdalclmaaDoor
