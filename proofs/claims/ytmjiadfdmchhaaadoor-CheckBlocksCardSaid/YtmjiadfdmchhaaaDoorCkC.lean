/-
  Package check: two points the same; Maker.
-/
import Derived.Test.YtmjiadfdmchhaaaDoorCkB
import Derived.Lib.QuietBelow
import Derived.Deep.MidRow
namespace Go.Proofs.YtmjiadfdmchhaaaDoor
open Go.RowKit
open Go.Maps (Keyed IsMap)
set_option linter.unusedVariables false
set_option linter.unusedSimpArgs false
set_option maxRecDepth 100000

theorem pt_formed (p : I32 × Nat) : (pov p).formed Tryd.prog 54 = true := by
  unfold pov
  simp [Value.formed, Tryd.underlying54, poL_len]
  kernel_rfl
theorem pt_tiled : Tryd.prog.tiled 3 54 = true := by kernel_rfl
theorem pt_eql (p q : I32 × Nat) (hp : p.2 < 4294967296) (hq : q.2 < 4294967296) (w : World) : (Op.equalIn 10000 54 (pov p) (pov q)).run Tryd.prog w = .ok (decide (p = q)) w := by
  obtain ⟨lp, hlp⟩ := lit_pt 0 p hp
  obtain ⟨lq, hlq⟩ := lit_pt 0 q hq
  have hc : ∀ x : I32 × Nat, (pov x).cells.toList = poL x := fun x => by unfold pov; simp [Value.cells]
  obtain ⟨r, h1, h2⟩ := run_equalIn_deep (P := Tryd.prog) 9997 3 54 (by kernel_rfl) w 3 3 (pov p) (pov q) lp lq (pt_formed p) (pt_formed q) (by rw [hc]; exact hlp) (by rw [hc]; exact hlq)
  have h3 : r = true ↔ p = q := by
    rw [h2]
    constructor
    · intro e
      have e1 := cells_of_lits 3 54 pt_tiled 3 _ _ hlp
      have e2 := cells_of_lits 3 54 pt_tiled 3 _ _ hlq
      refine pov_inj p q ?_
      unfold pov
      rw [e1, e2, e]
    · intro e
      subst e
      rw [hlp] at hlq
      exact Option.some.inj hlq
  have h4 : r = decide (p = q) := by
    by_cases h : p = q
    · rw [decide_eq_true h]; exact h3.2 h
    · rw [decide_eq_false h]
      cases r with
      | false => rfl
      | true => exact absurd (h3.1 rfl) h
  rw [← h4]
  exact h1
/-- The point that a first transaction spends. -/
def mkP : I32 × Nat := (i0, 4294967295)
theorem po_info : (Tryd.prog.info? 54).map (·.size) = some 33 := by kernel_rfl
def mC : List Value := [.int .u8 0, .int .u8 0, .int .u8 0, .int .u8 0, .int .u8 0, .int .u8 0, .int .u8 0, .int .u8 0, .int .u8 0, .int .u8 0, .int .u8 0, .int .u8 0, .int .u8 0, .int .u8 0, .int .u8 0, .int .u8 0, .int .u8 0, .int .u8 0, .int .u8 0, .int .u8 0, .int .u8 0, .int .u8 0, .int .u8 0, .int .u8 0, .int .u8 0, .int .u8 0, .int .u8 0, .int .u8 0, .int .u8 0, .int .u8 0, .int .u8 0, .int .u8 0, .int .u32 4294967295]
theorem mC_eq : mC = poL mkP := by kernel_rfl
theorem mC_pov : (Value.agg #[.int .u8 0, .int .u8 0, .int .u8 0, .int .u8 0, .int .u8 0, .int .u8 0, .int .u8 0, .int .u8 0, .int .u8 0, .int .u8 0, .int .u8 0, .int .u8 0, .int .u8 0, .int .u8 0, .int .u8 0, .int .u8 0, .int .u8 0, .int .u8 0, .int .u8 0, .int .u8 0, .int .u8 0, .int .u8 0, .int .u8 0, .int .u8 0, .int .u8 0, .int .u8 0, .int .u8 0, .int .u8 0, .int .u8 0, .int .u8 0, .int .u8 0, .int .u8 0, .int .u32 4294967295]) = pov mkP := by unfold pov; rw [← mC_eq]; rfl
theorem mC_len : mC.length = 33 := by rw [mC_eq, poL_len]
theorem mC_one : mC.toArray.all (·.oneCell') = true := all_oneCell_toArray (fun v hv => by
  rw [mC_eq] at hv
  unfold poL at hv
  rcases List.mem_append.1 hv with h | h
  · obtain ⟨b, _, rfl⟩ := List.mem_map.1 h; rfl
  · simp at h; subst h; rfl)
theorem maker_set (W : World) (g : Nat) (K : Bk W g 54 (poL (i0, 0)).toArray) : Bk (W.setCells g 0 mC) g 54 mC.toArray := Bk.setAll (xs := mC.toArray) K (by rw [List.size_toArray, List.size_toArray, mC_len, poL_len])
theorem maker_new (w : World) : Bk (w.alloc (.cells #[.int .u8 0, .int .u8 0, .int .u8 0, .int .u8 0, .int .u8 0, .int .u8 0, .int .u8 0, .int .u8 0, .int .u8 0, .int .u8 0, .int .u8 0, .int .u8 0, .int .u8 0, .int .u8 0, .int .u8 0, .int .u8 0, .int .u8 0, .int .u8 0, .int .u8 0, .int .u8 0, .int .u8 0, .int .u8 0, .int .u8 0, .int .u8 0, .int .u8 0, .int .u8 0, .int .u8 0, .int .u8 0, .int .u8 0, .int .u8 0, .int .u8 0, .int .u8 0, .int .u32 0] 54)) w.heap.size 54 (poL (i0, 0)).toArray := Bk.new _ _ _
set_option maxHeartbeats 4000000 in
theorem maker_any (w : World) :
    Calls Tryd.prog 17 #[] w fun r w' => r = .returned (pov mkP) ∧ Below w.heap.size w w' := by
  have HP : Hid (Value.agg mC.toArray = pov mkP) := mC_pov
  have HL := Lib.hid mC_len
  go_enter Tryd.func17, Tryd.ntmps17
  go_upto_region 1 with fail
  refine wp_any (fun W => Bk W w.heap.size 54 (poL (i0, 0)).toArray ∧ Below w.heap.size w W) ⟨maker_new w, (Below.refl _ _).alloc (Nat.le_refl _) _⟩ ?_
  obtain ⟨g, hg⟩ : ∃ g, g = w.heap.size := ⟨_, rfl⟩
  rw [← hg]
  rintro W1 ⟨K, hB⟩
  have hth : W1.there g 0 mC.toArray.size := Bk.there K _ (by rw [List.size_toArray, List.size_toArray, mC_len, poL_len]; exact Nat.le_refl _)
  have hin : (Tryd.prog.info? 54).map (·.size) = some mC.toArray.size := by rw [po_info, List.size_toArray, HL.out]
  have ho := mC_one
  have HK := Lib.hid (maker_set W1 g K)
  have HB : Hid (Below w.heap.size w (W1.setCells g 0 mC)) := by rw [hg] at hB ⊢; exact Below.setCells (Nat.le_refl _) _ _ _ hB
  have zg := K.lt
  clear K hB hg
  go_wp2_with (refine wpList_store_mid rfl 54 (.tmp 0) (.tmp 1) rfl g 0 mC.toArray rfl rfl hth hin ho ?_)
  exact bodyPost_ret (results_cell_row rfl _ _ g 54 mC.toArray (0, 0) _ rfl HK.out Tryd.underlying54 rfl (by rw [po_info, List.size_toArray, HL.out])) rfl ⟨congrArg Ending.returned HP.out, HB.out⟩
end Go.Proofs.YtmjiadfdmchhaaaDoor
