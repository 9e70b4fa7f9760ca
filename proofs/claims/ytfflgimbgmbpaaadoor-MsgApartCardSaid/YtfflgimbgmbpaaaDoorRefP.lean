/-
  Texts in one: RefM, AppW, RefA, Step, RefT.
-/
import Derived.Test.YtfflgimbgmbpaaaDoorHashZ
import Derived.Test.YtfflgimbgmbpaaaDoorBytZ
namespace Go.Proofs.YtfflgimbgmbpaaaDoor
open Go.RowKit
set_option linter.unusedVariables false

/-! ### bits turned one by one -/
/-! ### the padding -/
/-- The words behind so many blocks, block by block. -/
def blk (l : List Nat) (k : Nat) : List Nat := (l.drop (64 * k)).take 64
/-! ### the tail, byte by byte -/
/-! ### the first words, byte by byte -/
/-! ### the bytes at the end -/
end Go.Proofs.YtfflgimbgmbpaaaDoor
namespace Go.Proofs.YtfflgimbgmbpaaaDoor
open Go.RowKit
set_option linter.unusedVariables false

/-- A slice whose bytes are these, in a block below B. -/
def WsV (w : World) (B : Nat) (v : Value) (xs : List Nat) : Prop := ∃ s cap, v = .slice s xs.length cap ∧ xs.length ≤ cap ∧ cap < 9223372036854775808 ∧ (∀ x ∈ xs, x < m32) ∧
  (xs ≠ [] → ∃ b o, s = some ⟨b, o, none⟩ ∧ b < B ∧ ∀ i, i < xs.length → w.cell? ⟨b, o + i, none⟩ = some (.int .u32 ((nth xs i : Nat) : Int)))
theorem WsV.keep {w w' : World} {B : Nat} {v : Value} {xs : List Nat} (h : WsV w B v xs) {C : Nat} (hb : Below C w w') (hC : B ≤ C) : WsV w' B v xs := by
  obtain ⟨s, cap, rfl, h1, h2, h3, h4⟩ := h
  refine ⟨s, cap, rfl, h1, h2, h3, fun hne => ?_⟩
  obtain ⟨b, o, e, hb', hc⟩ := h4 hne
  exact ⟨b, o, e, hb', fun i hi => (hb.cell (p := ⟨b, o + i, none⟩) (by show b < C; omega)).trans (hc i hi)⟩
theorem WsV.mono {w : World} {B C : Nat} {v : Value} {xs : List Nat} (h : WsV w B v xs) (hC : B ≤ C) : WsV w C v xs := by
  obtain ⟨s, cap, rfl, h1, h2, h3, h4⟩ := h
  refine ⟨s, cap, rfl, h1, h2, h3, fun hne => ?_⟩
  obtain ⟨b, o, e, hb', hc⟩ := h4 hne
  exact ⟨b, o, e, by omega, hc⟩
/-- A slice at the head of a row that is known whole. -/
theorem ws_row {w : World} {g n cap : Nat} {t : TypeId} {ys : List Nat} (hg : Bk w g t (wA ys)) (hn : n ≤ ys.length) (hc : n ≤ cap) (hc2 : cap < 9223372036854775808) (hx : ∀ y ∈ ys, y < m32) : WsV w w.heap.size (.slice (some ⟨g, 0, none⟩) n cap) (ys.take n) := by
  have hl : (ys.take n).length = n := by rw [List.length_take]; omega
  refine ⟨some ⟨g, 0, none⟩, cap, by rw [hl], by omega, hc2, fun x hxm => hx x (List.mem_of_mem_take hxm), fun hne => ⟨g, 0, rfl, hg.lt, fun i hi => ?_⟩⟩
  rw [hl] at hi
  rw [Nat.zero_add, hg.cell, wA_get ys i (by omega)]
  unfold nth
  rw [List.getD, List.getD, List.getElem?_take_of_lt hi]
/-- A slice of the call's own, of just these bytes. -/
def MineW (W : World) (lo : Nat) (v : Value) (xs : List Nat) : Prop := (v = .slice none 0 0 ∧ xs = []) ∨
  ∃ T cap z, v = .slice (some ⟨T, 0, none⟩) xs.length cap ∧ cap = xs.length + z ∧ cap < 9223372036854775808 ∧ lo ≤ T ∧ Bk W T 22 (wA (xs ++ zeros z))
theorem MineW.keep {W W' : World} {lo : Nat} {v : Value} {xs : List Nat} (h : MineW W lo v xs) (hb : Below W.heap.size W W') : MineW W' lo v xs := by
  rcases h with h | ⟨T, cap, z, e, hc, hc2, hT, K⟩
  · exact .inl h
  · exact .inr ⟨T, cap, z, e, hc, hc2, hT, K.keep hb⟩
theorem MineW.bs {W : World} {lo : Nat} {v : Value} {xs : List Nat} (h : MineW W lo v xs) (hx : ∀ x ∈ xs, x < m32) : WsV W W.heap.size v xs := by
  rcases h with ⟨rfl, rfl⟩ | ⟨T, cap, z, rfl, hc, hc2, hT, K⟩
  · exact ⟨none, 0, rfl, Nat.le_refl _, by omega, by simp, fun h => absurd rfl h⟩
  · have h := ws_row K (n := xs.length) (cap := cap) (by simp) (by omega) hc2 (by
      intro y hy
      rcases List.mem_append.1 hy with h | h
      · exact hx y h
      · rw [List.eq_of_mem_replicate h]; exact m32_pos)
    have e : (xs ++ zeros z).take xs.length = xs := by simp
    rw [e] at h
    exact h
end Go.Proofs.YtfflgimbgmbpaaaDoor
namespace Go.Proofs.YtfflgimbgmbpaaaDoor
open Go.RowKit
set_option linter.unusedVariables false

end Go.Proofs.YtfflgimbgmbpaaaDoor
namespace Go.Proofs.YtfflgimbgmbpaaaDoor
open Go.RowKit
set_option linter.unusedVariables false

theorem wpList_cat {ops : Array Oper} {rest : List Oper} {o : Oper} {a : Act} {w : World} {Q : Exit → Act → World → Prop} {s t u : ByteArray} (hg : o.guard = none) (x y : Operand)
    (hop : o.op = Op.binOp BinOp.add 9 x y 9) (hx : a.eval x = .string s) (hy : a.eval y = .string t) (hsz : s.size + t.size ≤ 9223372036854775807) (hst : s ++ t = u)
    (hK : wpList Tryd.prog ops Q rest (a.put o.dst (.string u)) w) : wpList Tryd.prog ops Q (o :: rest) a w := by
  refine wpList_plain hg fun K hK' => ?_
  have h := run_string_add_sum (P := Tryd.prog) w s t hsz
  have hq : (eqGuard BinOp.add 9 x y (.string s) (.string t)).run Tryd.prog w = .ok () w := by simp [eqGuard]
  unfold Oper.wp
  simp [execOp, hop, hx, hy, binOp, hq, h, Result.andThen, hst]
  exact hK' _ _ hK
theorem wpList_cnv {ops : Array Oper} {rest : List Oper} {o : Oper} {a : Act} {w : World} {Q : Exit → Act → World → Prop} {v u : Value} (hg : o.guard = none) (x : Operand) (t t' : TypeId)
    (hop : o.op = Op.convert t t' x) (hx : a.eval x = v) (hrun : (convert t t' v).run Tryd.prog w = .ok u w)
    (hK : wpList Tryd.prog ops Q rest (a.put o.dst u) w) : wpList Tryd.prog ops Q (o :: rest) a w := by
  refine wpList_plain hg fun K hK' => ?_
  unfold Oper.wp
  simp [execOp, hop, hx, hrun, Result.andThen]
  exact hK' _ _ hK
/-- A slice of one byte, just built. -/
theorem bs_oneR (w : World) (x : Nat) (t : TypeId) (hx : x < 256) : BsV (w.alloc (.cells #[.int .u8 (x : Int)] t)) (w.heap.size + 1) (.slice (some ⟨w.heap.size, 0, none⟩) 1 1) [x] := by
  refine ⟨_, 1, rfl, Nat.le_refl _, by omega, by simpa using hx, fun _ => ⟨w.heap.size, 0, rfl, by omega, fun i hi => ?_⟩⟩
  have : i = 0 := by simp at hi; exact hi
  subst this
  exact (Bk.new w t #[.int .u8 (x : Int)]).cell 0
end Go.Proofs.YtfflgimbgmbpaaaDoor
namespace Go.Proofs.YtfflgimbgmbpaaaDoor
open Go.RowKit
set_option linter.unusedVariables false

/-- Words at the head of a block. -/
def Row (W : World) (T : Nat) (xs : List Nat) : Prop := T < W.heap.size ∧ ∀ i, i < xs.length → W.cell? ⟨T, i, none⟩ = some (.int .u32 ((nth xs i : Nat) : Int))
theorem Row.keep {W W' : World} {T : Nat} {xs : List Nat} (h : Row W T xs) (hb : Below W.heap.size W W') : Row W' T xs :=
  ⟨Nat.lt_of_lt_of_le h.1 hb.size, fun i hi => (hb.cell (p := ⟨T, i, none⟩) h.1).trans (h.2 i hi)⟩
theorem Row.far {W : World} {T g : Nat} {xs : List Nat} (h : Row W T xs) (hne : T ≠ g) (i : Nat) (u : Value) : Row (W.setCell ⟨g, i, none⟩ u) T xs :=
  ⟨by simpa [World.setCell] using h.1, fun j hj => (World.cell?_setCell_other W ⟨g, i, none⟩ ⟨T, j, none⟩ u (by intro e; apply hne; have := congrArg Addr.block e; exact this.symm)).trans (h.2 j hj)⟩
theorem Row.c8 {W : World} {T : Nat} {S : S8} (h : Row W T S.toL) : W.cell? ⟨T, 0, none⟩ = some (.int .u32 (S.a : Int)) ∧ W.cell? ⟨T, 1, none⟩ = some (.int .u32 (S.b : Int)) ∧ W.cell? ⟨T, 2, none⟩ = some (.int .u32 (S.c : Int)) ∧ W.cell? ⟨T, 3, none⟩ = some (.int .u32 (S.d : Int)) ∧
    W.cell? ⟨T, 4, none⟩ = some (.int .u32 (S.e : Int)) ∧ W.cell? ⟨T, 5, none⟩ = some (.int .u32 (S.f : Int)) ∧ W.cell? ⟨T, 6, none⟩ = some (.int .u32 (S.g : Int)) ∧ W.cell? ⟨T, 7, none⟩ = some (.int .u32 (S.h : Int)) := by
  have h8 := S8.toL_length S
  exact ⟨h.2 0 (by omega), h.2 1 (by omega), h.2 2 (by omega), h.2 3 (by omega), h.2 4 (by omega), h.2 5 (by omega), h.2 6 (by omega), h.2 7 (by omega)⟩
end Go.Proofs.YtfflgimbgmbpaaaDoor
