/-
  Package ban: the laws' head; tables as a law goes on.
-/
import Derived.Test.YtckmkbnmbleegaaBanE
namespace Go.Proofs.Ytckmkbnmbleegaa
open Go.RowKit
set_option linter.unusedVariables false
set_option linter.unusedSimpArgs false
set_option maxRecDepth 100000

theorem Turned.go {T : Nat} {v : Value} {lo : Nat} {L M : List BanM} {w : World} {e : Ending} {w' : World} (h : Turned T v lo M w e w') (hT : Tab w T v lo L) {B : Nat} (hlo : B ≤ lo) (hTB : B ≤ T) (hw : B ≤ w.heap.size) :
    e = .returned (.tuple #[]) ∧ ∃ v', Tab w' T v' lo M ∧ Below B w w' ∧ But (fun k => k = T ∨ slb v k) w w' ∧ ∀ k, slb v' k → slb v k ∨ w.heap.size ≤ k := by
  obtain ⟨he, v', h1, h2, h3⟩ := h
  refine ⟨he, v', h1, h2.below hw (fun k hk => ?_), h2, h3⟩
  rcases hk with rfl | hk
  · exact hTB
  · exact Nat.le_trans hlo (hT.M.slb_lo hk).1
theorem tab_new (w : World) (lo : Nat) : Tab (w.alloc (.cells #[.slice none 0 0] 27)) w.heap.size (.slice none 0 0) lo [] := ⟨Bk.new _ _ _, .inl ⟨rfl, rfl⟩⟩
theorem tab_new' (w : World) (lo : Nat) {g : Nat} (hg : g = w.heap.size) : Tab (w.alloc (.cells #[.slice none 0 0] 27)) g (.slice none 0 0) lo [] := by subst hg; exact tab_new w lo
theorem below_le {B : Nat} {a w w1 : World} (h : Below B a w) (hB : B ≤ a.heap.size) (h1 : Below w.heap.size w w1) : Below B a w1 := below_step h (Nat.le_trans hB h.size) h1
set_option maxHeartbeats 2000000 in
theorem bans_any (w : World) : Calls Try.prog 8 #[] w fun e w' => e = .returned (.bool true) ∧ Below w.heap.size w w' := by
  have hT0 := tab_new w w.heap.size
  have hB0 : Below w.heap.size w (w.alloc (.cells #[.slice none 0 0] 27)) := (Below.refl _ _).alloc (Nat.le_refl _) _
  have h1 := ban_any w.heap.size _ w.heap.size [] 7 10 _ hT0 hB0.size (by decide)
  have e1 : banF [] 7 10 = [⟨7, 10⟩] := rfl
  rw [e1] at h1
  go_enter Try.func8, Try.ntmps8
  go_wp2_with fail
  refine h1.mono ?_
  rintro e w1 ht
  obtain ⟨rfl, v1, hT1, hB1, _⟩ := ht.go hT0 (Nat.le_refl _) (Nat.le_refl _) hB0.size
  have hB1 := hB0.trans hB1
  have h2 := until_any w.heap.size v1 w.heap.size _ 7 w1 hT1
  clear h1 ht hT0 hB0
  generalize hg : w.heap.size = g at *
  rw [show til [⟨7, 10⟩] 7 = (10, true) from rfl] at h2
  go_wp2_with fail
  refine h2.mono ?_
  rintro e w2 ⟨rfl, hb2⟩
  have hT2 := hT1.keep hb2
  have hB2 := below_le hB1 (Nat.le_of_eq hg.symm) hb2
  have h3 := banned_any g v1 g _ 7 9 w2 hT2
  rw [show til [⟨7, 10⟩] 7 = (10, true) from rfl] at h3
  clear h2 hT1 hb2 hB1
  go_wp2_with fail
  refine h3.mono ?_
  rintro e w3 ⟨rfl, hb3⟩
  have hT3 := hT2.keep hb3
  have hB3 := below_le hB2 (Nat.le_of_eq hg.symm) hb3
  have h4 := banned_any g v1 g _ 7 10 w3 hT3
  rw [show til [⟨7, 10⟩] 7 = (10, true) from rfl] at h4
  clear h3 hT2 hb3 hB2
  go_wp2_with fail
  refine h4.mono ?_
  rintro e w4 ⟨rfl, hb4⟩
  have hT4 := hT3.keep hb4
  have hB4 := below_le hB3 (Nat.le_of_eq hg.symm) hb4
  have h5 := banned_any g v1 g _ 8 0 w4 hT4
  rw [show til [⟨7, 10⟩] 8 = (0, false) from rfl] at h5
  clear h4 hT3 hb4 hB3
  go_wp2_with fail
  refine h5.mono ?_
  rintro e w5 ⟨rfl, hb5⟩
  have hT5 := hT4.keep hb5
  have hB5 := below_le hB4 (Nat.le_of_eq hg.symm) hb5
  have h6 := len_any g v1 g _ w5 hT5
  clear h5 hT4 hb5 hB4
  go_wp2_with fail
  refine h6.mono ?_
  rintro e w6 ⟨rfl, rfl⟩
  go_wp2_with fail
  go_ret
  exact ⟨rfl, by rw [hg]; exact hB5⟩
/-- What is done with a table. -/
structure OpM where
  kind : Int
  addr : Int
  til : Int
def opL (x : OpM) : List Value := [.int .i64 x.kind, .int .i64 x.addr, .int .i64 x.til]
def opR : RowT OpM := ⟨30, 22, 3, 24, opL, ⟨0, 0, 0⟩⟩
theorem op_facts : (Try.prog.info? 30).map (fun i => (i.zero.map (·.cells), i.size, i.bytes)) = some (some #[.int .i64 0, .int .i64 0, .int .i64 0], 3, 24) := by kernel_rfl
theorem op_info : ∃ i v, Try.prog.info? 30 = some i ∧ i.zero = some v ∧ i.size = 3 ∧ i.bytes = 24 ∧ v.cells = #[.int .i64 0, .int .i64 0, .int .i64 0] := by
  obtain ⟨i, hi, hs⟩ := Option.map_eq_some_iff.1 op_facts
  simp only [Prod.mk.injEq, Option.map_eq_some_iff] at hs
  obtain ⟨⟨v, hv, hc⟩, h1, h2⟩ := hs
  exact ⟨i, v, hi, hv, h1, h2, hc⟩
theorem opR_ok : opR.Ok where
  ht := Try.underlying22
  info := op_info
  len := fun x => rfl
  one := fun x v hv => by
    simp only [opR, opL, List.mem_cons, List.not_mem_nil, or_false] at hv
    rcases hv with rfl | rfl | rfl <;> rfl
  pos := by decide
  bys := by decide
def intR : RowT Int := ⟨3, 39, 1, 8, fun z => [.int .i64 z], 0⟩
theorem int_facts : (Try.prog.info? 3).map (fun i => (i.zero.map (·.cells), i.size, i.bytes)) = some (some #[.int .i64 0], 1, 8) := by kernel_rfl
theorem int_info : ∃ i v, Try.prog.info? 3 = some i ∧ i.zero = some v ∧ i.size = 1 ∧ i.bytes = 8 ∧ v.cells = #[.int .i64 0] := by
  obtain ⟨i, hi, hs⟩ := Option.map_eq_some_iff.1 int_facts
  simp only [Prod.mk.injEq, Option.map_eq_some_iff] at hs
  obtain ⟨⟨v, hv, hc⟩, h1, h2⟩ := hs
  exact ⟨i, v, hi, hv, h1, h2, hc⟩
theorem intR_ok : intR.Ok where
  ht := Try.underlying39
  info := int_info
  len := fun x => rfl
  one := fun x v hv => by
    rw [List.mem_singleton.1 hv]
    rfl
  pos := by decide
  bys := by decide
end Go.Proofs.Ytckmkbnmbleegaa
