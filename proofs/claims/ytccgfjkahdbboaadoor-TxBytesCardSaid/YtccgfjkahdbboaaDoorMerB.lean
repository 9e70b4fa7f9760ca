/-
  The contract of package merkle's above.
-/
import Derived.Test.YtccgfjkahdbboaaDoorMerA
namespace Go.Proofs.YtccgfjkahdbboaaDoor
open Go.RowKit
set_option linter.unusedVariables false

def nthI (L : List (List Nat)) (i : Nat) : List Nat := L.getD i []
theorem nthI_get {L : List (List Nat)} {i : Nat} (h : i < L.length) : L[i]? = some (nthI L i) := by
  unfold nthI
  rw [List.getD, List.getElem?_eq_getElem h]
  rfl
theorem nthI_id {L : List (List Nat)} (hL : IsIds L) {i : Nat} (h : i < L.length) : IsId (nthI L i) := hL.at_ (nthI_get h)
theorem besideN_lt (i n : Nat) (h : i < n) : besideN i n < n := by unfold besideN; split <;> omega
/-- The first so many of the level over a level. -/
def aboveP (L : List (List Nat)) (m : Nat) : List (List Nat) := (List.range m).map fun t => H2 (nthI L (2 * t)) (nthI L (besideN (2 * t) L.length))
def aboveV (L : List (List Nat)) : List (List Nat) := aboveP L ((L.length + 1) / 2)
theorem aboveP_length (L : List (List Nat)) (m : Nat) : (aboveP L m).length = m := by unfold aboveP; simp
theorem aboveV_length (L : List (List Nat)) : (aboveV L).length = (L.length + 1) / 2 := aboveP_length _ _
theorem aboveP_succ (L : List (List Nat)) (m : Nat) : aboveP L (m + 1) = aboveP L m ++ [H2 (nthI L (2 * m)) (nthI L (besideN (2 * m) L.length))] := by
  unfold aboveP
  rw [List.range_succ, List.map_append]
  rfl
theorem aboveP_ids (L : List (List Nat)) (m : Nat) : IsIds (aboveP L m) := by
  intro x hx
  unfold aboveP at hx
  obtain ⟨t, _, rfl⟩ := List.mem_map.1 hx
  exact H2_id _ _
set_option maxRecDepth 100000 in
set_option maxHeartbeats 2000000 in
theorem above_any (v : Value) (L : List (List Nat)) (w : World) (hL : Laid w) (hv : IdsV w w.heap.size v L) (hn : L.length ≤ 100000) :
    Calls Tryd.prog 57 #[v] w fun e w' => ∃ v', e = .returned v' ∧ MineI w' w.heap.size v' (aboveV L) ∧ Below w.heap.size w w' := by
  have HV := Lib.hid hv
  have HL := Lib.hid hL
  have hid := hv.ids
  obtain ⟨s, c, rfl⟩ := hv.slice
  have hat := hv.at_
  obtain ⟨n, hnl⟩ : ∃ n, n = L.length := ⟨_, rfl⟩
  have HAT : Hid (0 < n → ∃ b o, s = some ⟨b, o, none⟩ ∧ b < w.heap.size ∧ ∀ k, k < n → w.rangeAt b (o + k * 32) (idA (nthI L k)).toList) := fun h => by
    obtain ⟨b, o, e, hb, _, hr⟩ := hat (fun h0 => by rw [h0] at hnl; simp at hnl; omega)
    exact ⟨b, o, e, hb, fun k hk => hr k _ (nthI_get (by omega))⟩
  have HNL := Lib.hid hnl
  have HID := Lib.hid (fun k (h : k < n) => nthI_id hid (i := k) (by omega))
  rw [← hnl] at hn ⊢
  clear hat hv hL hid hnl
  obtain ⟨m, hm⟩ : ∃ m, m = (n + 1) / 2 := ⟨_, rfl⟩
  have hm0 : ((n : Int) / 2 + (n : Int) % 2) = (m : Int) := by omega
  have hmk : (Instr.makeSlice 83 (.int .i64 0) (.int .i64 (m : Int))).run Tryd.prog w = .ok (.slice (some ⟨w.heap.size, 0, none⟩) 0 m) (w.alloc (.cells (idA (zeros (m * 32))) 29)) := run_makeI w m (by omega)
  have HM := Lib.hid hm
  have hml : m ≤ 100000 := by omega
  clear hm
  go_enter Tryd.func57, Tryd.ntmps57
  go_wp2_with (refine wpList_mkI (v1 := .int .i64 0) (v2 := .int .i64 (m : Int)) (v := .slice (some ⟨w.heap.size, 0, none⟩) 0 m) 83 rfl (.const (.int .i64 0)) (.tmp 11) rfl rfl rfl hmk ?_)
  clear hmk hm0
  go_loopw [3, 4] (fun out i wr => ∃ j : Nat, j ≤ m ∧ i = .int .i64 ((2 * j : Nat) : Int) ∧ Hid (Below w.heap.size w wr) ∧ Hid (MineI wr w.heap.size out (aboveP L j))) (fun _ i _ => (2 * m - (intOf i).toNat))
  case atStart => exact ⟨0, Nat.zero_le _, rfl, (Below.refl _ _).alloc (Nat.le_refl _) _, .inr ⟨w.heap.size, m, m, rfl, by simp [aboveP], by omega, Nat.le_refl _, Bk.new _ _ _⟩⟩
  case round =>
    obtain ⟨j, hj, rfl, hWr, Mr⟩ := hrel
    by_cases hlt : 2 * j < n
    · have hd : decide (((2 * j : Nat) : Int) < (n : Int)) = true := decide_eq_true (by omega)
      obtain ⟨b, o, rfl, hbl, hrange⟩ := HAT.out (by omega)
      obtain ⟨s5, c5, e5⟩ := Mr.out.slice
      rw [aboveP_length] at e5
      subst e5
      obtain ⟨i, hi⟩ : ∃ i, i = 2 * j := ⟨_, rfl⟩
      rw [← hi] at hlt hd ⊢
      obtain ⟨p, hp⟩ : ∃ p, p = besideN i n := ⟨_, rfl⟩
      have hpn : p < n := by rw [hp]; exact besideN_lt i n hlt
      have HB := Lib.hid (fun W => beside_any i n W hlt (by omega))
      rw [← hp] at HB
      have hxi := HID.out i hlt
      have hyi := HID.out p hpn
      have hrx := idr_below (hrange i hlt) hWr.out hbl
      have hry := idr_below (hrange p hpn) hWr.out hbl
      have hPV := aboveP_succ L j
      rw [← HNL.out, ← hi, ← hp] at hPV
      have HP := Lib.hid (fun W (h : Laid W) => pair_any _ _ W h hxi hyi)
      have HXL := Lib.hid hxi.1
      have HYL := Lib.hid hyi.1
      have hqi := H2_id (nthI L i) (nthI L p)
      generalize nthI L i = x at *
      generalize nthI L p = y at *
      generalize H2 x y = q at *
      have HLW := Lib.hid (HL.out.below hWr.out HL.out.size)
      have hAI := fun u W (h : MineI W w.heap.size (.slice s5 j c5) (aboveP L j)) (hs : w.heap.size ≤ W.heap.size) (hu : IdsV W W.heap.size u [q]) => appI (aboveP L j) [q] _ u w.heap.size W h (aboveP_ids L j) hs hu (by rw [aboveP_length]; simp; omega)
      rw [← hPV] at hAI
      have HAI := Lib.hid hAI
      have HJ := Lib.hid hi
      have HQ := Lib.hid hqi
      have hn2 : i + 2 < 9223372036854775807 := by omega
      clear hAI hPV hp hxi hyi HID hrange hi hqi
      go_upto_region 5 with fail
      have hx0 : wr.drew.rangeAt b (o + i * 32) (idA x).toList := by simpa using hrx
      have hy0 : wr.drew.rangeAt b (o + p * 32) (idA y).toList := by simpa using hry
      obtain ⟨tl, htl⟩ : ∃ tl : TypeId, tl = 29 := ⟨_, rfl⟩
      obtain ⟨sz, hsz0⟩ : ∃ sz : Nat, sz = 32 := ⟨_, rfl⟩
      have hag : ∀ w, (isAgg tl).run Tryd.prog w = .ok true w := by rw [htl]; exact id_agg
      have hsz : ∀ w, (sizeOf tl).run Tryd.prog w = .ok sz w := by rw [htl, hsz0]; exact id_size
      have hlx : (loadCellsFrom ⟨b, o + i * 32, none⟩ 0 sz #[]).run Tryd.prog wr.drew = .ok (idA x) wr.drew := by rw [hsz0]; exact id_load _ _ _ _ HXL.out hx0
      have hly : (loadCellsFrom ⟨b, o + p * 32, none⟩ 0 sz #[]).run Tryd.prog wr.drew = .ok (idA y) wr.drew := by rw [hsz0]; exact id_load _ _ _ _ HYL.out hy0
      simp only [show ∀ z, Op.load 29 z = Op.load tl z from fun z => by rw [htl]]
      clear htl hsz0 hx0 hy0 hrx hry
      have HLD := Lib.hid (HLW.out.below ((Below.refl _ _).drew) HLW.out.size)
      have hb0 := Lib.hid hWr.out.drew
      have M0 : Hid (MineI wr.drew w.heap.size (.slice s5 j c5) (aboveP L j)) := Mr.out.keep ((Below.refl _ _).drew)
      have hq32 : (idA q).size = 32 := by rw [idA_size]; exact HQ.out.1
      have hfold := id_fold q HQ.out.1
      go_region_law (first
        | (go_simp; go_at_call 75; refine (HB.out _).mono ?_; rintro e w5 ⟨rfl, h5⟩; subst h5)
        | (go_simp; go_at_call 74; refine (HP.out _ HLD.out).mono ?_; rintro e w6 ⟨rfl, hb6⟩; have M6 := M0.out.keep hb6; have hE6 := hb0.out.trans (hb6.mono hb0.out.size); have hA6 : Below w6.heap.size w6 (w6.alloc (.cells (idA q) 29)) := (Below.refl _ _).alloc (Nat.le_refl _) _; obtain ⟨v7, W7, hrun, M7, hb7⟩ := HAI.out (.slice (some ⟨w6.heap.size, 0, none⟩) 1 1) _ (M6.keep hA6) (Nat.le_trans hE6.size hA6.size) (one_row (Bk.new _ _ _) HQ.out); have hb8 := Lib.hid ((hE6.alloc hE6.size _).trans hb7); obtain ⟨s7, c7, eq7⟩ := M7.slice; subst eq7; have M7 := Lib.hid M7; rw [aboveP_length] at hrun M7; clear hb7 M6 hE6 hA6 hb6)
        | (refine step_appI (v1 := .slice s5 j c5) (v2 := .slice (some ⟨w6.heap.size, 0, none⟩) 1 1) (v := .slice s7 (j + 1) c7) rfl (.tmp 19) (.tmp 32) rfl rfl rfl rfl hrun ?_))
      all_goals
       clear hrun hlx hly hag hsz hfold hq32
       go_wp2_with fail
       go_roundw
       case rel =>
        have hi2 : Value.int .i64 ((i : Int) + 2) = .int .i64 ((2 * (j + 1) : Nat) : Int) := congrArg (Value.int .i64) (by have := HJ.out; omega)
        have hjm : j + 1 ≤ m := by have := HM.out; have := HJ.out; omega
        first | exact ⟨j + 1, hjm, hi2, hb8, M7⟩ | ((repeat apply Exists.intro); exact ⟨⟨j + 1, hjm, hi2, hb8, M7⟩, rfl⟩)
       case measure => have hJ := HJ.out; have hM := HM.out; simp [intOf]; omega
    · have hd : decide (((2 * j : Nat) : Int) < (n : Int)) = false := decide_eq_false (by omega)
      have hjm : j = m := by have := HM.out; omega
      obtain ⟨s5, c5, e5⟩ := Mr.out.slice
      subst e5
      have hd' : decide (2 * j < n) = false := decide_eq_false hlt
      go_wp2_with fail
      go_ret
      refine ⟨_, rfl, ?_, hWr.out⟩
      have e : aboveV L = aboveP L j := by unfold aboveV; rw [← HNL.out, ← HM.out, hjm]
      rw [e]
      exact Mr.out
end Go.Proofs.YtccgfjkahdbboaaDoor
