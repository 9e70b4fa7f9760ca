/-
  Texts in one: FrL, FrS.
-/
import Derived.Test.YtkpffjcdalclmaaDoorFrC
import Derived.Lib.LazyBuf
import Derived.WalkSpells
import Derived.Laws.Cover3
import Derived.Test.YtkpffjcdalclmaaDoorMerP
namespace Go.Proofs.YtkpffjcdalclmaaDoor
open Go.RowKit
set_option linter.unusedVariables false
set_option linter.unusedSimpArgs false
set_option maxRecDepth 100000
theorem wpList_copyS {ops : Array Oper} {rest : List Oper} {o : Oper} {a : Act} {w W : World} {Q : Exit → Act → World → Prop} {v1 v2 v : Value} (hg : o.guard = none) (s x : Operand)
    (hop : o.op = Op.call { callee := Callee.builtin Builtin.copy, args := #[s, x], argTypes := #[32, 9] }) (hty : o.type = 3) (hs : a.eval s = v1) (hx : a.eval x = v2)
    (hrun : (Builtin.copy_ #[32, 9] 3 #[v1, v2]).run Tryd.prog w = .ok v W) (hK : wpList Tryd.prog ops Q rest (a.put o.dst v) W) : wpList Tryd.prog ops Q (o :: rest) a w := by
  refine wpList_plain hg fun K hK' => ?_
  unfold Oper.wp
  simp [execOp, hop, resolve, invoke, builtin, hs, hx, hty, hrun, Result.andThen]
  exact hK' _ _ hK
theorem strN_cells (l : List Nat) (hx : ∀ x ∈ l, x < 256) : ((strN l).data.toList.map fun x => Value.int .u8 (x.toNat : Int)) = l.map byteV := by
  rw [strN_list, List.map_map]
  apply List.map_congr_left
  intro b hb
  show Value.int .u8 ((UInt8.ofNat b).toNat : Int) = byteV b
  have h := hx b hb
  rw [UInt8.toNat_ofNat', Nat.mod_eq_of_lt h]
  rfl
theorem a12_info : (Tryd.prog.info? 133).map (·.size) = some 12 := by kernel_rfl
theorem u8_size1 (w : World) : (sizeOf 5).run Tryd.prog w = .ok 1 w := by kernel_rfl
set_option maxHeartbeats 4000000 in
theorem laid_any (l : List Nat) (w : World) (hl : l.length ≤ 12) (hx : ∀ x ∈ l, x < 256) :
    Calls Tryd.prog 64 #[.string (strN l)] w fun e w' => e = .returned (.agg (idA (l ++ zeros (12 - l.length)))) ∧ Below w.heap.size w w' := by
  have HC := Lib.hid (strN_cells l hx)
  have HZ := Lib.hid (strN_size l)
  have HO : Hid (ovr (idA (zeros 12)) 0 (l.map byteV) = idA (l ++ zeros (12 - l.length))) := by
    have h := ovr_bytes [] l 12 hl
    exact h
  have HS : Hid ((idA (l ++ zeros (12 - l.length))).size = 12) := by
    show _ = _
    rw [idA_size, List.length_append, zeros_length]
    omega
  have HL := Lib.hid hl
  obtain ⟨u, hu⟩ : ∃ u, u = strN l := ⟨_, rfl⟩
  obtain ⟨A, hA⟩ : ∃ A, A = idA (l ++ zeros (12 - l.length)) := ⟨_, rfl⟩
  have HA : Hid (A.all (·.oneCell') = true) := by
    show _ = _
    rw [hA]
    exact all_oneCell_toArray (by intro v hv; obtain ⟨b, _, rfl⟩ := List.mem_map.1 hv; rfl)
  rw [← hu] at HC HZ ⊢
  rw [← hA] at HO HS ⊢
  clear hu hA hl hx
  go_enter Tryd.func64, Tryd.ntmps64
  go_upto_region 2 with fail
  refine wp_any (fun W => Below w.heap.size w W ∧ Bk W w.heap.size 133 (idA (zeros 12)) ∧ Bk W (w.heap.size + 1) 133 (idA (zeros 12))) ⟨((Below.refl _ _).alloc (Nat.le_refl _) _).alloc (by simp) _, (Bk.new _ _ _).alloc _, Bk.new' _ _ _ (by simp)⟩ ?_
  obtain ⟨g2, hg2⟩ : ∃ g2, g2 = w.heap.size := ⟨_, rfl⟩
  obtain ⟨g3, hg3⟩ : ∃ g3, g3 = g2 + 1 := ⟨_, rfl⟩
  have HG := Lib.hid (show w.heap.size ≤ g2 ∧ w.heap.size ≤ g3 ∧ g2 ≠ g3 by omega)
  have HGW := Lib.hid hg2
  rw [← hg2, ← hg3]
  clear hg2 hg3
  rintro W ⟨hW, K2, K3⟩
  have HW : Hid (Below w.heap.size w W) := by rw [← HGW.out]; exact hW
  clear hW
  have hrun := run_copy_string (P := Tryd.prog) W 32 9 3 5 g3 0 12 12 u Tryd.underlying32 u8_size1 (by rw [HZ.out]; exact HL.out)
    (fun j hj => by
      have h1 := HZ.out
      have h2 := HL.out
      rw [Nat.zero_add, K3.cell, idA_get _ j (by rw [zeros_length]; omega)]
      rfl)
    (fun j hj => K3.frozen (0 + j))
  rw [HC.out] at hrun
  have K3' : Bk (W.setCells g3 0 (l.map byteV)) g3 133 A := by
    have h := Bk.ovr_ (g := g3) (t := 133) (w := W) (l.map byteV) 0 W _ K3
    rw [HO.out] at h
    exact h
  have K2' : Bk (W.setCells g3 0 (l.map byteV)) g2 133 (idA (zeros 12)) := Bk.farCells K2 HG.out.2.2 _ _
  have HW' : Hid (Below w.heap.size w (W.setCells g3 0 (l.map byteV))) := Below.setCells HG.out.2.1 _ _ _ HW.out
  have z3 := K3.lt
  clear K2 K3 HW
  generalize W.setCells g3 0 (l.map byteV) = W3 at *
  go_upto_region 3 with (at_builtin; refine wpList_copyS (v1 := .slice (some ⟨g3, 0, none⟩) 12 12) (v2 := .string u) rfl (.tmp 4) (.tmp 5) rfl rfl rfl rfl hrun ?_)
  clear hrun z3
  have hr3 := K3'.range0
  have z3 := K3'.lt
  have hps : (Tryd.prog.info? 133).map (·.size) = some A.toList.length := by rw [Array.length_toList, HS.out]; exact a12_info
  go_wp2_with (first | (refine wpList_load_mid rfl 133 (.tmp 3) rfl g3 0 rfl A.toList _ hr3 Tryd.underlying133 rfl hps ?_; rw [Array.toArray_toList]) | (refine wpList_store_mid rfl 133 (.tmp 2) (.tmp 7) rfl g2 0 A rfl rfl (by rw [HS.out]; exact K2'.there 12 (by rw [idA_size]; decide)) (by rw [HS.out]; exact a12_info) HA.out ?_))
  exact bodyPost_ret (results_cell_row rfl _ _ g2 133 A (0, 0) _ rfl (K2'.setAll (by rw [HS.out, idA_size]; rfl)) Tryd.underlying133 rfl (by rw [HS.out]; exact a12_info)) rfl ⟨rfl, Below.setCells HG.out.1 _ _ _ HW'.out⟩
end Go.Proofs.YtkpffjcdalclmaaDoor
namespace Go.Proofs.YtkpffjcdalclmaaDoor
open Go.RowKit
set_option linter.unusedVariables false
set_option linter.unusedSimpArgs false
set_option maxRecDepth 100000
theorem a4_info : (Tryd.prog.info? 135).map (·.size) = some 4 := by kernel_rfl
def sum4 (xs : List Nat) : List Nat := (sha (sha xs)).take 4
theorem sum4_length (xs : List Nat) : (sum4 xs).length = 4 := by unfold sum4; rw [List.length_take]; rfl
theorem sum4_lt (xs : List Nat) : ∀ x ∈ sum4 xs, x < 256 := fun x hx => sha_lt _ x (List.mem_of_mem_take hx)
set_option maxHeartbeats 4000000 in
theorem sumof_any (xs : List Nat) (s : Option Addr) (n c : Nat) (w : World) (hL : Laid w) (hb : BsV w w.heap.size (.slice s n c) xs) (hl : xs.length ≤ 1000000) :
    Calls Tryd.prog 65 #[.slice s n c] w fun e w' => e = .returned (.agg (idA (sum4 xs))) ∧ Below w.heap.size w w' := by
  have HT : Hid (∀ g W, Below w.heap.size w W → Bk W g 32 #[.slice s n c] → Calls Tryd.prog 84 #[.slice (some ⟨g, 0, none⟩) 1 1] W fun e w' => e = .returned (idv (sha (sha xs))) ∧ Below W.heap.size W w') := fun g W h hk =>
    twice1 xs (some ⟨g, 0, none⟩) 1 W (hL.below h hL.size) (by omega) (parts_bs (hb.keep h (Nat.le_refl _)) h.size hk)
  have hql : (sha (sha xs)).length = 32 := rfl
  have HS4 : Hid (sum4 xs = (sha (sha xs)).take 4) := rfl
  have HS5 := Lib.hid (sum4_length xs)
  obtain ⟨q, hq⟩ : ∃ q, q = sha (sha xs) := ⟨_, rfl⟩
  rw [← hq] at HT hql HS4
  obtain ⟨z, hz⟩ : ∃ z, z = sum4 xs := ⟨_, rfl⟩
  rw [← hz] at HS4 HS5 ⊢
  have HQL := Lib.hid hql
  clear hL hb hl hq hz hql
  go_enter Tryd.func65, Tryd.ntmps65
  go_upto_region 1 with fail
  refine wp_any (fun W => Below w.heap.size w W ∧ Bk W w.heap.size 135 (idA (zeros 4))) ⟨(Below.refl _ _).alloc (Nat.le_refl _) _, Bk.new _ _ _⟩ ?_
  obtain ⟨g2, hg2⟩ : ∃ g2, g2 = w.heap.size := ⟨_, rfl⟩
  have HG := Lib.hid hg2
  rw [← hg2]
  clear hg2
  rintro W ⟨hW, K2⟩
  have HW : Hid (Below w.heap.size w W) := by rw [← HG.out]; exact hW
  clear hW
  have hA : Below W.heap.size W (W.alloc (.cells #[.slice s n c] 32)) := (Below.refl _ _).alloc (Nat.le_refl _) _
  have HC := Lib.hid (HT.out W.heap.size (W.alloc (.cells #[.slice s n c] 32)) (below_step HW.out HW.out.size hA) (Bk.new _ _ _))
  have HW1 := Lib.hid (below_step HW.out HW.out.size hA)
  have K21 := K2.keep hA
  clear hA HW K2 HT
  go_wp2_with fail
  refine HC.out.mono ?_
  rintro e W2 ⟨rfl, hb2⟩
  have HW2 := Lib.hid (below_step HW1.out HW1.out.size hb2)
  have K22 := K21.keep hb2
  have hA2 : Below W2.heap.size W2 ((W2.alloc (.cells (idA (zeros 32)) 50)).setCells W2.heap.size 0 (idA q).toList) := Below.setCells (Nat.le_refl _) _ _ _ ((Below.refl _ _).alloc (Nat.le_refl _) _)
  have hK3 : Bk ((W2.alloc (.cells (idA (zeros 32)) 50)).setCells W2.heap.size 0 (idA q).toList) W2.heap.size 50 (idA q) := (Bk.new W2 50 (idA (zeros 32))).setAll (by rw [idA_size, idA_size, HQL.out]; rfl)
  clear hb2 HC K21 HW1
  go_upto_region 2 with (refine wpList_store_mid rfl 50 (.tmp 3) (.tmp 6) rfl W2.heap.size 0 (idA q) rfl rfl (by rw [idA_size, HQL.out]; exact (Bk.new W2 50 (idA (zeros 32))).there 32 (by rw [idA_size]; decide)) (by rw [idA_size, HQL.out]; exact id_info') (id_ones _) ?_)
  refine wp_any (fun W => Below w.heap.size w W ∧ Bk W g2 135 (idA (zeros 4)) ∧ Bk W W2.heap.size 50 (idA q)) ⟨below_step HW2.out HW2.out.size hA2, K22.keep hA2, hK3⟩ ?_
  clear hA2 hK3 HW2 K22
  generalize W2.heap.size = g3 at *
  rintro V ⟨hV, K2, K3⟩
  have HV := Lib.hid hV
  have z3 := K3.lt
  have hr3 : V.rangeAt g3 0 (z.map byteV) := fun j v hv => K3.range0 j v (by
    rw [HS4.out, List.getElem?_map] at hv
    obtain ⟨y, hy, rfl⟩ := Option.map_eq_some_iff.1 hv
    have hj : j < 4 := by
      have := (List.getElem?_eq_some_iff.1 hy).1
      rw [List.length_take] at this
      omega
    rw [List.getElem?_take_of_lt hj] at hy
    unfold idA
    rw [List.toList_toArray, List.getElem?_map, hy]
    rfl)
  have hps : (Tryd.prog.info? 135).map (·.size) = some (z.map byteV).length := by rw [List.length_map, HS5.out]; exact a4_info
  have hzA : (z.map byteV).toArray = idA z := rfl
  have HZS : Hid ((idA z).size = 4) := by show _ = _; rw [idA_size]; exact HS5.out
  have hat : ∀ w, (Instr.arrayAt 135 (.slice (some ⟨g3, 0, none⟩) 32 32)).run Tryd.prog w = .ok (.pointer (some ⟨g3, 0, none⟩)) w := fun w => run_arrayAt (P := Tryd.prog) (w := w) 135 5 4 (some ⟨g3, 0, none⟩) 32 32 Tryd.underlying135 (by omega)
  clear hV K3
  go_wp2_with (first | (refine wpList_load_mid rfl 135 (.tmp 8) rfl g3 0 rfl (z.map byteV) _ hr3 Tryd.underlying135 rfl hps ?_; rw [hzA]) | (refine wpList_store_mid rfl 135 (.tmp 2) (.tmp 9) rfl g2 0 (idA z) rfl rfl (by rw [HZS.out]; exact K2.there 4 (by rw [idA_size]; decide)) (by rw [HZS.out]; exact a4_info) (id_ones _) ?_))
  exact bodyPost_ret (results_cell_row rfl _ _ g2 135 (idA z) (0, 0) _ rfl (K2.setAll (by rw [HZS.out, idA_size]; rfl)) Tryd.underlying135 rfl (by rw [HZS.out]; exact a4_info)) rfl ⟨rfl, Below.setCells (by rw [HG.out]; exact Nat.le_refl _) _ _ _ HV.out⟩
end Go.Proofs.YtkpffjcdalclmaaDoor
