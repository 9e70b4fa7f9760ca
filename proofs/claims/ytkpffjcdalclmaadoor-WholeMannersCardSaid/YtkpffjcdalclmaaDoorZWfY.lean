/- Texts in one: WfF, WfG, WfJ. -/
import Derived.Test.YtkpffjcdalclmaaDoorZWfZ
import Derived.Laws.CopyOwn
namespace Go.Proofs.YtkpffjcdalclmaaDoor
open Go.RowKit
set_option linter.unusedVariables false
set_option linter.unusedSimpArgs false
end Go.Proofs.YtkpffjcdalclmaaDoor
namespace Go.Proofs.YtkpffjcdalclmaaDoor
open Go.RowKit
set_option linter.unusedVariables false
set_option linter.unusedSimpArgs false
theorem id_infoW : (Tryd.prog.info? 50).map (·.size) = some 32 := by kernel_rfl
theorem rd_far {w5 w6 : World} {p g3 : Nat} {v5 : Value} {s : St} (h : RdS w5 p v5 s) (hb : Below g3 w5 w6) (hp : p < g3) (hk : s.1 ≠ [] → ∀ k, slb v5 k → k < g3) : RdS w6 p v5 s := by
  obtain ⟨h1, ⟨a, cap, rfl, g1, g2, g3', g4⟩, h3⟩ := h
  refine ⟨Bk.below h1 hb hp, ⟨a, cap, rfl, g1, g2, g3', fun hne => ?_⟩, h3⟩
  obtain ⟨b, o, e, hlt, hn, hc⟩ := g4 hne
  subst e
  have hbg := hk hne b ⟨_, _, _, rfl, rfl⟩
  exact ⟨b, o, rfl, Nat.lt_of_lt_of_le hlt hb.size, hn, fun i hi => (hb.cell (p := ⟨b, o + i, none⟩) hbg).trans (hc i hi)⟩
theorem slb_lt {w : World} {p : Nat} {v : Value} {s : St} (h : RdS w p v s) (hne : s.1 ≠ []) : ∀ k, slb v k → k < w.heap.size := by
  obtain ⟨h1, ⟨a, cap, rfl, g1, g2, g3, g4⟩, h3⟩ := h
  obtain ⟨b, o, e, hlt, hn, hc⟩ := g4 hne
  subst e
  rintro k ⟨a', n', c', e', hk⟩
  cases e'
  rw [← hk]
  exact hlt
theorem rest_ne (s : St) (n : Int) (h : (rdTake s n).2.1 ≠ []) : s.1 ≠ [] := by
  intro e
  apply h
  unfold rdTake
  split
  · simp [e]
  · rfl
def idOf (ys : List Nat) : List Nat := ys ++ zeros (32 - ys.length)
theorem idOf_length (ys : List Nat) (h : ys.length ≤ 32) : (idOf ys).length = 32 := by unfold idOf; rw [List.length_append, zeros_length]; omega
theorem splice_id (ys : List Nat) (h : ys.length ≤ 32) : (splice (idA (zeros 32)).toList 0 (List.map byteV ys)).toArray = idA (idOf ys) := by
  unfold splice idA idOf zeros
  simp only [List.take_zero, List.nil_append, List.length_map, Nat.zero_add, List.map_append, List.map_replicate, List.drop_replicate]
set_option maxRecDepth 100000 in
set_option maxHeartbeats 4000000 in
theorem rid_any (p : Nat) (v : Value) (s : St) (w : World) (hR : RdS w p v s) (hok : StOk s) :
    Calls Tryd.prog 80 #[.pointer (some ⟨p, 0, none⟩)] w fun r w' => r = .returned (idv (idOf (rdTake s 32).1)) ∧ ∃ v', Took p v (rdTake s 32).2 w w' v' := by
  have hpw : p < w.heap.size := hR.1.lt
  have HSL := Lib.hid (fun h => slb_lt hR (rest_ne s 32 h))
  have HT : Hid (∀ W, Below w.heap.size w W → Calls Tryd.prog 86 #[.pointer (some ⟨p, 0, none⟩), .int .i64 32] W fun r w' => ∃ u, r = .returned u ∧ BsN w' (fun k => k = p) u (rdTake s 32).1 ∧ ∃ v', Took p v (rdTake s 32).2 W w' v') := fun W h => take_any p 32 v s W (hR.keep h) hok
  have HLN : Hid ((rdTake s 32).1.length ≤ 32) := take_len s 32
  have HB : Hid (∀ x ∈ (rdTake s 32).1, x < 256) := rdTake_lt hR 32
  generalize (rdTake s 32).1 = ys at *
  generalize (rdTake s 32).2 = t at *
  clear hR
  go_enter Tryd.func80, Tryd.ntmps80
  go_upto_region 2 with fail
  refine wp_any (fun W => Below w.heap.size w W ∧ Bk W w.heap.size 50 (idA (zeros 32)) ∧ Bk W (w.heap.size + 1) 50 (idA (zeros 32))) ⟨((Below.refl _ _).alloc (Nat.le_refl _) _).alloc (by simp) _, (Bk.new _ _ _).alloc _, Bk.new' _ _ _ (by simp)⟩ ?_
  rintro W ⟨hW, K2, K3⟩
  have HT1 := Lib.hid (HT.out W.drew hW.drew)
  have HW := Lib.hid hW
  have hn2 : ¬ w.heap.size = p := by omega
  have hn3 : ¬ w.heap.size + 1 = p := by omega
  have hgW := K3.lt
  have hi5 : (Tryd.prog.info? 5).map (·.size) = some 1 := by kernel_rfl
  have hzl : (idA (zeros 32)).toList.length = 32 := by rw [Array.length_toList, idA_size]; rfl
  obtain ⟨g2, hg2⟩ : ∃ g2, g2 = w.heap.size := ⟨_, rfl⟩
  obtain ⟨g3, hg3⟩ : ∃ g3, g3 = w.heap.size + 1 := ⟨_, rfl⟩
  have HGG := Lib.hid (show g2 = w.heap.size ∧ g3 = w.heap.size + 1 from ⟨hg2, hg3⟩)
  rw [← hg3] at K3 hn3 hgW ⊢
  rw [← hg2] at K2 hn2 ⊢
  clear hg2 hg3 hW HT
  go_region_law (first
    | (go_simp
       go_at_call 86
       with_reducible refine HT1.out.mono ?_
       rintro r w5 ⟨u, rfl, HU, v5, T5⟩
       obtain ⟨su, cu, rfl, hcu1, hcu2, hu3, hu4⟩ := HU
       have K2b := T5.2.1.keep K2.drew hn2
       have K3b := T5.2.1.keep K3.drew hn3)
    | (refine step_copy_splice rfl (.tmp 4) (.tmp 6) 32 32 rfl 5 Tryd.underlying32 hi5 (some ⟨g3, 0, none⟩) su 32 32 ys.length cu rfl rfl g3 0 (idA (zeros 32)).toList 50 K3b (ys.map byteV) (by rw [List.length_map]; exact (Nat.min_eq_left HLN.out).symm) (fun h => by
         obtain ⟨b, o, e, hlt, hnb, hc⟩ := hu4 (fun h0 => by rw [h0] at h; simp at h)
         refine ⟨rfl, ⟨b, o, none⟩, e, fun j v hj => ?_⟩
         obtain ⟨hjl, hjv⟩ := List.getElem?_eq_some_iff.1 hj
         rw [List.length_map] at hjl
         rw [Go.WideShapes.add_plain, hc j hjl, ← hjv, List.getElem_map]
         unfold nth byteV
         rw [List.getD, List.getElem?_eq_getElem hjl]
         rfl) (by rw [List.length_map, hzl, Nat.zero_add]; exact HLN.out) (fun v hv => by obtain ⟨x, _, rfl⟩ := List.mem_map.1 hv; rfl) g3 _ (Below.refl g3 _) (Nat.le_refl _) ?_
       intro w6 HG6 HB6))
  obtain ⟨hgg2, hgg3⟩ := HGG.out
  have hspl : (splice (idA (zeros 32)).toList 0 (List.map byteV ys)).toArray = idA (idOf ys) := splice_id ys HLN.out
  have R3 : Bk w6 g3 50 (idA (idOf ys)) := by show _ = _; rw [HG6.out, hspl]
  have R2 : Bk w6 g2 50 (idA (zeros 32)) := Bk.below K2b HB6 (by omega)
  have HIL := Lib.hid (idOf_length ys HLN.out)
  clear HG6 hspl
  generalize hQ : idOf ys = Q at *
  have HTK : Hid (∀ w7, Below g2 w5 w7 → ∃ v', Took p v t w w7 v') := fun w7 h7 => ⟨v5, rd_far T5.1 h7 (by omega) (fun hne k hk => by rw [hgg2]; exact HSL.out hne k (T5.2.2 k hk)), ((But.of HW.out.drew).trans T5.2.1 (fun _ _ h => h)).trans (S' := fun i => g2 ≤ i) ⟨h7.os, h7.tape, h7.output, h7.size, fun k hk hn => h7.block k (by omega)⟩ (fun i hi h => by omega), T5.2.2⟩
  have hgl : g2 ≤ g3 := by omega
  clear hgg2 hgg3
  go_wp2_with (first | (refine wpList_load_row rfl 50 (.tmp 3) rfl g3 rfl 50 (idA Q) (0, 0) _ R3 Tryd.underlying50 rfl (by rw [idA_size, HIL.out]; exact id_infoW) ?_) | (refine wpList_store_mid rfl 50 (.tmp 2) (.tmp 8) rfl g2 0 (idA Q) rfl rfl (by rw [idA_size, HIL.out]; exact R2.there 32 (by rw [idA_size]; decide)) (by rw [idA_size, HIL.out]; exact id_infoW) (all_oneCell_toArray (by intro v hv; simp only [List.mem_map] at hv; obtain ⟨x, _, rfl⟩ := hv; rfl)) ?_))
  refine bodyPost_ret (results_cell_row rfl _ _ g2 50 (idA Q) (0, 0) _ rfl (R2.setAll (by rw [idA_size, idA_size, HIL.out]; rfl)) Tryd.underlying50 rfl (by rw [idA_size, HIL.out]; exact id_infoW)) rfl ⟨rfl, HTK.out _ (Below.setCells (Nat.le_refl _) _ _ _ ⟨HB6.os, HB6.tape, HB6.output, HB6.size, fun k hk => HB6.block k (by omega)⟩)⟩
end Go.Proofs.YtkpffjcdalclmaaDoor
namespace Go.Proofs.YtkpffjcdalclmaaDoor
open Go.RowKit
set_option linter.unusedVariables false
set_option linter.unusedSimpArgs false
theorem StI.ok {s : St} (h : StI s) : StOk s := ⟨h.1, h.2.1⟩
theorem StI.fail {s : St} (h : StI s) {c : Nat} (hc : c < 1000) (h0 : c ≠ 0 ∨ s.2 ≠ 0) : StI (rdFail s c) := by
  refine ⟨Nat.zero_le _, ?_, by simp [rdFail], fun _ => rfl⟩
  have := h.2.1
  unfold rdFail
  show (if s.2 = 0 then c else s.2) < 1000
  split <;> omega
theorem num_inv (s : St) (n : Int) (h : StI s) : StI (rdNum s n).2 := (take_inv s n h).1
theorem cnt_inv (s : St) (h : StI s) : StI (rdCnt s).2 := by
  have h1 := num_inv s 1 h
  unfold rdCnt
  split
  · exact num_inv _ 2 h1
  · split
    · exact num_inv _ 4 h1
    · split
      · exact num_inv _ 8 h1
      · exact h1
theorem count_inv (s : St) (m : Nat) (h : StI s) : StI (rdCount s m).2 := by
  have h1 := cnt_inv s h
  unfold rdCount
  split
  · exact h1
  · split
    · exact h1.fail (by decide) (Or.inl (by decide))
    · split
      · exact h1.fail (by decide) (Or.inl (by decide))
      · exact h1
theorem rtext_inv (s : St) (m : Int) (h : StI s) : StI (rdText s m).2 := (take_inv _ _ (count_inv s _ h)).1
theorem idOf_lt (ys : List Nat) (h : ∀ x ∈ ys, x < 256) : ∀ x ∈ idOf ys, x < 256 := by
  unfold idOf
  intro x hx
  rcases List.mem_append.1 hx with hx | hx
  · exact h x hx
  · exact zeros_lt _ x hx
end Go.Proofs.YtkpffjcdalclmaaDoor
