/-
  Package check: a point as a map's key.
-/
import Derived.Test.YtmjiadfdmchhaaaDoorCkA
import Derived.Maps.OwnSet
import Derived.DeepKeys4
namespace Go.Proofs.YtmjiadfdmchhaaaDoor
open Go.RowKit
open Go.Maps (Keyed IsMap)
set_option linter.unusedVariables false
set_option linter.unusedSimpArgs false
set_option maxRecDepth 100000

theorem ptLaidOut : laidOutB Tryd.prog = true := by kernel_rfl
theorem ptRow : (54 : TypeId) < Tryd.prog.types.size := of_decide_eq_true (by kernel_rfl)
theorem ptWide : (match Tryd.prog.underlying 54 with | some (.array _ _) | some (.struct _) => true | _ => false) = true := by kernel_rfl
theorem ptLaw : Keyed Tryd.prog 54 := Keyed.of_law (deep_law_laid ptLaidOut (m := 3) (by omega) ptRow (by kernel_rfl) ptWide)
/-- A point's cells. -/
def poL (p : I32 × Nat) : List Value := p.1.1.map byteV ++ [.int .u32 (p.2 : Int)]
def pov (p : I32 × Nat) : Value := .agg (poL p).toArray
theorem poL_len (p : I32 × Nat) : (poL p).length = 33 := by unfold poL; rw [List.length_append, List.length_map, p.1.2.1]; rfl
theorem mapM_some {α β : Type} (f : α → Option β) : ∀ (l : List α), (∀ x ∈ l, ∃ y, f x = some y) → ∃ ys, l.mapM f = some ys := by
  intro l
  induction l with
  | nil => intro _; exact ⟨[], rfl⟩
  | cons a r ih =>
    intro h
    obtain ⟨y, hy⟩ := h a List.mem_cons_self
    obtain ⟨ys, hys⟩ := ih (fun x hx => h x (List.mem_cons_of_mem _ hx))
    exact ⟨y :: ys, by simp [List.mapM_cons, hy, hys]⟩
theorem lit_u8 (d b : Nat) (h : b < 256) : ∃ l, Tryd.prog.keyLits (d + 1) 5 [.int .u8 (b : Int)] = some l := by
  refine ⟨[.int .u8 (b : Int)], ?_⟩
  unfold Program.keyLits
  rw [Tryd.underlying5]
  have hw : (Lit.int .u8 (b : Int)).wf = true := by simp [Lit.wf, IntKind.min, IntKind.max, IntKind.wrap, IntKind.signed, IntKind.bits]; omega
  simp [hw]
theorem lit_u32 (d n : Nat) (h : n < 4294967296) : ∃ l, Tryd.prog.keyLits (d + 1) 35 [.int .u32 (n : Int)] = some l := by
  refine ⟨[.int .u32 (n : Int)], ?_⟩
  unfold Program.keyLits
  rw [Tryd.underlying35]
  have hw : (Lit.int .u32 (n : Int)).wf = true := by simp [Lit.wf, IntKind.min, IntKind.max, IntKind.wrap, IntKind.signed, IntKind.bits]; omega
  simp [hw]
theorem lit_id (d : Nat) (x : I32) : ∃ l, Tryd.prog.keyLits (d + 2) 23 (x.1.map byteV) = some l := by
  unfold Program.keyLits
  rw [Tryd.underlying23]
  simp only
  rw [if_pos (by rw [List.length_map, x.2.1]; kernel_rfl), show Tryd.prog.cellsOf 5 = 1 by kernel_rfl]
  obtain ⟨ys, hys⟩ := mapM_some (fun i => Tryd.prog.keyLits (d + 1) 5 (((x.1.map byteV).drop (i * 1)).take 1)) (List.range 32) (fun i hi => by
    have hi : i < 32 := List.mem_range.1 hi
    have hl : i < x.1.length := by rw [x.2.1]; exact hi
    rw [Nat.mul_one, ← List.map_drop, List.drop_eq_getElem_cons hl, List.map_cons, List.take_succ_cons, List.take_zero]
    exact lit_u8 d _ (x.2.2 _ (List.getElem_mem hl)))
  rw [hys]
  exact ⟨_, rfl⟩
theorem lit_pt (d : Nat) (p : I32 × Nat) (h : p.2 < 4294967296) : ∃ l, Tryd.prog.keyLits (d + 3) 54 (poL p) = some l := by
  unfold Program.keyLits
  rw [Tryd.underlying54]
  simp only
  rw [if_pos ⟨by rw [poL_len]; kernel_rfl, by kernel_rfl⟩]
  have h0 : (poL p).take 32 = p.1.1.map byteV := by
    unfold poL
    rw [List.take_append_of_le_length (by rw [List.length_map, p.1.2.1]; exact Nat.le_refl _), List.take_of_length_le (by rw [List.length_map, p.1.2.1]; exact Nat.le_refl _)]
  have h1 : ((poL p).drop 32).take 1 = [.int .u32 (p.2 : Int)] := by
    unfold poL
    rw [List.drop_append, List.drop_of_length_le (by rw [List.length_map, p.1.2.1]; exact Nat.le_refl _), List.length_map, p.1.2.1]
    rfl
  obtain ⟨l0, e0⟩ := lit_id d p.1
  obtain ⟨l1, e1⟩ := lit_u32 (d + 1) p.2 h
  have c0 : Tryd.prog.cellsOf 23 = 32 := by kernel_rfl
  have c1 : Tryd.prog.cellsOf 35 = 1 := by kernel_rfl
  refine ⟨l0 ++ (l1 ++ []), ?_⟩
  simp [List.mapM_cons, c0, c1, h0, h1, e0, e1]
theorem pt_key (p : I32 × Nat) (h : p.2 < 4294967296) : ∃ kl, keyOf Tryd.prog 54 (pov p) = some kl := by
  obtain ⟨l, hl⟩ := lit_pt (Tryd.prog.types.size - 2) p h
  refine ⟨.string (keyBytes l), ?_⟩
  unfold keyOf
  rw [Tryd.underlying54]
  simp only
  have hs : Tryd.prog.types.size + 1 = Tryd.prog.types.size - 2 + 3 := by have : 2 ≤ Tryd.prog.types.size := of_decide_eq_true (by kernel_rfl); omega
  have hf : (pov p).formed Tryd.prog 54 = true := by
    unfold pov
    simp [Value.formed, Tryd.underlying54, poL_len]
    kernel_rfl
  have hk : Tryd.prog.keyType 54 = true := by kernel_rfl
  rw [hf, hk, hs]
  show (if (true && true) = true then Option.map _ (Tryd.prog.keyLits _ _ (poL p).toArray.toList) else none) = _
  rw [List.toList_toArray, hl]
  rfl
theorem pov_inj (p q : I32 × Nat) (h : pov p = pov q) : p = q := by
  unfold pov at h
  have h : (poL p).toArray = (poL q).toArray := by injection h
  have h : poL p = poL q := by simpa using h
  unfold poL at h
  obtain ⟨h1, h2⟩ := List.append_inj h (by rw [List.length_map, List.length_map, p.1.2.1, q.1.2.1])
  have h3 : p.1.1 = q.1.1 := by
    refine List.map_inj_right ?_ |>.1 h1
    intro a b hab
    unfold byteV at hab
    have hab : (a : Int) = (b : Int) := by injection hab
    omega
  have h4 : p.2 = q.2 := by
    have h2 : (p.2 : Int) = (q.2 : Int) := by simpa using h2
    omega
  exact Prod.ext (Subtype.ext h3) h4
end Go.Proofs.YtmjiadfdmchhaaaDoor
