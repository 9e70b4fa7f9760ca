/- The contract of package frame's laid. -/
import Derived.Test.YtkpffjcdalclmaaDoorZFrC
import Derived.Lib.LazyBuf
namespace Go.Proofs.YtkpffjcdalclmaaDoor
open Go.RowKit
set_option linter.unusedVariables false
set_option linter.unusedSimpArgs false
set_option maxRecDepth 100000
theorem wpList_copyS {ops : Array Oper} {rest : List Oper} {o : Oper} {a : Act} {w W : World} {Q : Exit → Act → World → Prop} {v1 v2 v : Value} (hg : o.guard = none) (s x : Operand)
    (hop : o.op = Op.call { callee := Callee.builtin Builtin.copy, args := #[s, x], argTypes := #[32, 9] }) (hty : o.type = 3) (hs : a.eval s = v1) (hx : a.eval x = v2)
    (hrun : (Builtin.copy_ #[32, 9] 3 #[v1, v2]).run Tryd.prog w = .ok v W) (hK : wpList Tryd.prog ops Q rest (a.put o.dst v) W) : wpList Tryd.prog ops Q (o :: rest) a w := by
  refine wpList_plain hg fun K hK' => ?_
  unfold Oper.wp
  simp [execOp, hop, resolve, invoke, builtin, hs, hx, hty, hrun, Result.andThen]
  exact hK' _ _ hK
theorem strN_cells (l : List Nat) (hx : ∀ x ∈ l, x < 256) : ((strN l).data.toList.map fun x => Value.int .u8 (x.toNat : Int)) = l.map byteV := by
  rw [strN_list, List.map_map]
  apply List.map_congr_left
  intro b hb
  show Value.int .u8 ((UInt8.ofNat b).toNat : Int) = byteV b
  have h := hx b hb
  rw [UInt8.toNat_ofNat', Nat.mod_eq_of_lt h]
  rfl
theorem a12_info : (Tryd.prog.info? 133).map (·.size) = some 12 := by kernel_rfl
theorem u8_size1 (w : World) : (sizeOf 5).run Tryd.prog w = .ok 1 w := by kernel_rfl
set_option maxHeartbeats 4000000 in
theorem laid_any (l : List Nat) (w : World) (hl : l.length ≤ 12) (hx : ∀ x ∈ l, x < 256) :
    Calls Tryd.prog 64 #[.string (strN l)] w fun e w' => e = .returned (.agg (idA (l ++ zeros (12 - l.length)))) ∧ Below w.heap.size w w' := by
  have HC := Lib.hid (strN_cells l hx)
  have HZ := Lib.hid (strN_size l)
  have HO : Hid (ovr (idA (zeros 12)) 0 (l.map byteV) = idA (l ++ zeros (12 - l.length))) := by
    have h := ovr_bytes [] l 12 hl
    exact h
  have HS : Hid ((idA (l ++ zeros (12 - l.length))).size = 12) := by
    show _ = _
    rw [idA_size, List.length_append, zeros_length]
    omega
  have HL := Lib.hid hl
  obtain ⟨u, hu⟩ : ∃ u, u = strN l := ⟨_, rfl⟩
  obtain ⟨A, hA⟩ : ∃ A, A = idA (l ++ zeros (12 - l.length)) := ⟨_, rfl⟩
  have HA : Hid (A.all (·.oneCell') = true) := by
    show _ = _
    rw [hA]
    exact all_oneCell_toArray (by intro v hv; obtain ⟨b, _, rfl⟩ := List.mem_map.1 hv; rfl)
  rw [← hu] at HC HZ ⊢
  rw [← hA] at HO HS ⊢
  clear hu hA hl hx
  go_enter Tryd.func64, Tryd.ntmps64
  go_upto_region 2 with fail
  refine wp_any (fun W => Below w.heap.size w W ∧ Bk W w.heap.size 133 (idA (zeros 12)) ∧ Bk W (w.heap.size + 1) 133 (idA (zeros 12))) ⟨((Below.refl _ _).alloc (Nat.le_refl _) _).alloc (by simp) _, (Bk.new _ _ _).alloc _, Bk.new' _ _ _ (by simp)⟩ ?_
  obtain ⟨g2, hg2⟩ : ∃ g2, g2 = w.heap.size := ⟨_, rfl⟩
  obtain ⟨g3, hg3⟩ : ∃ g3, g3 = g2 + 1 := ⟨_, rfl⟩
  have HG := Lib.hid (show w.heap.size ≤ g2 ∧ w.heap.size ≤ g3 ∧ g2 ≠ g3 by omega)
  have HGW := Lib.hid hg2
  rw [← hg2, ← hg3]
  clear hg2 hg3
  rintro W ⟨hW, K2, K3⟩
  have HW : Hid (Below w.heap.size w W) := by rw [← HGW.out]; exact hW
  clear hW
  have hrun := run_copy_string (P := Tryd.prog) W 32 9 3 5 g3 0 12 12 u Tryd.underlying32 u8_size1 (by rw [HZ.out]; exact HL.out)
    (fun j hj => by
      have h1 := HZ.out
      have h2 := HL.out
      rw [Nat.zero_add, K3.cell, idA_get _ j (by rw [zeros_length]; omega)]
      rfl)
    (fun j hj => K3.frozen (0 + j))
  rw [HC.out] at hrun
  have K3' : Bk (W.setCells g3 0 (l.map byteV)) g3 133 A := by
    have h := Bk.ovr_ (g := g3) (t := 133) (w := W) (l.map byteV) 0 W _ K3
    rw [HO.out] at h
    exact h
  have K2' : Bk (W.setCells g3 0 (l.map byteV)) g2 133 (idA (zeros 12)) := Bk.farCells K2 HG.out.2.2 _ _
  have HW' : Hid (Below w.heap.size w (W.setCells g3 0 (l.map byteV))) := Below.setCells HG.out.2.1 _ _ _ HW.out
  have z3 := K3.lt
  clear K2 K3 HW
  generalize W.setCells g3 0 (l.map byteV) = W3 at *
  go_upto_region 3 with (at_builtin; refine wpList_copyS (v1 := .slice (some ⟨g3, 0, none⟩) 12 12) (v2 := .string u) rfl (.tmp 4) (.tmp 5) rfl rfl rfl rfl hrun ?_)
  clear hrun z3
  have hr3 := K3'.range0
  have z3 := K3'.lt
  have hps : (Tryd.prog.info? 133).map (·.size) = some A.toList.length := by rw [Array.length_toList, HS.out]; exact a12_info
  go_wp2_with (first | (refine wpList_load_mid rfl 133 (.tmp 3) rfl g3 0 rfl A.toList _ hr3 Tryd.underlying133 rfl hps ?_; rw [Array.toArray_toList]) | (refine wpList_store_mid rfl 133 (.tmp 2) (.tmp 7) rfl g2 0 A rfl rfl (by rw [HS.out]; exact K2'.there 12 (by rw [idA_size]; decide)) (by rw [HS.out]; exact a12_info) HA.out ?_))
  exact bodyPost_ret (results_cell_row rfl _ _ g2 133 A (0, 0) _ rfl (K2'.setAll (by rw [HS.out, idA_size]; rfl)) Tryd.underlying133 rfl (by rw [HS.out]; exact a12_info)) rfl ⟨rfl, Below.setCells HG.out.1 _ _ _ HW'.out⟩
end Go.Proofs.YtkpffjcdalclmaaDoor
