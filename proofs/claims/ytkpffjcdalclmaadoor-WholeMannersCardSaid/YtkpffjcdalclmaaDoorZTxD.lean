/- The contracts of package tx's input and output. -/
import Derived.Test.YtkpffjcdalclmaaDoorZBanA
import Derived.Test.YtkpffjcdalclmaaDoorZWfY
namespace Go.Proofs.YtkpffjcdalclmaaDoor
open Go.RowKit
set_option linter.unusedVariables false
set_option linter.unusedSimpArgs false
set_option maxRecDepth 100000
theorem take_shr (s : St) (n : Int) : (rdTake s n).2.1.length ≤ s.1.length := by
  unfold rdTake
  split
  · simp only [List.length_drop]; omega
  · simp [rdFail]
theorem cnt_shr (s : St) : (rdCnt s).2.1.length ≤ s.1.length := by
  unfold rdCnt
  have h := take_shr s 1
  have e : (rdNum s 1).2 = (rdTake s 1).2 := rfl
  rw [← e] at h
  split
  · exact Nat.le_trans (take_shr _ 2) h
  · split
    · exact Nat.le_trans (take_shr _ 4) h
    · split
      · exact Nat.le_trans (take_shr _ 8) h
      · exact h
theorem count_shr (s : St) (m : Nat) : (rdCount s m).2.1.length ≤ s.1.length := by
  have h := cnt_shr s
  unfold rdCount
  split
  · exact h
  · split
    · exact Nat.zero_le _
    · split
      · exact Nat.zero_le _
      · exact h
theorem text_shr (s : St) (m : Int) : (rdText s m).2.1.length ≤ s.1.length := Nat.le_trans (take_shr _ _) (count_shr _ _)
theorem ne_of_le {s s0 : St} (h : s.1.length ≤ s0.1.length) : s.1 ≠ [] → s0.1 ≠ [] := fun hn e => hn (List.eq_nil_of_length_eq_zero (by rw [e] at h; exact Nat.le_zero.1 h))
theorem Took.far {p : Nat} {v v' : Value} {s s0 : St} {w W W' : World} (h : Took p v s w W v') (hR : RdS w p v s0) (hs : s.1.length ≤ s0.1.length) (hB : Below w.heap.size W W') : Took p v s w W' v' :=
  ⟨rd_far h.1 hB hR.1.lt (fun hne k hk => slb_lt hR (ne_of_le hs hne) k (h.2.2 k hk)), ⟨hB.os.trans h.2.1.os, hB.tape.trans h.2.1.tape, hB.output.trans h.2.1.output, Nat.le_trans h.2.1.size hB.size, fun k hk hn => (hB.block k hk).trans (h.2.1.block k hk hn)⟩, h.2.2⟩
theorem Took.refl {p : Nat} {v : Value} {s : St} {w : World} (hR : RdS w p v s) : Took p v s w w v := ⟨hR, But.refl _ _, fun _ h => h⟩
theorem Took.size {p : Nat} {v v' : Value} {s : St} {w W : World} (h : Took p v s w W v') : w.heap.size ≤ W.heap.size := h.2.1.size
theorem idOf_ok (s : St) (n : Int) (h : StI s) (hl : (rdTake s n).1.length ≤ 32) : (idOf (rdTake s n).1).length = 32 ∧ ∀ b ∈ idOf (rdTake s n).1, b < 256 := ⟨idOf_length _ hl, idOf_lt _ (take_inv s n h).2.1⟩
theorem take32 (s : St) : (rdTake s 32).1.length ≤ 32 := take_len s 32
def inSt1 (s : St) : St := (rdTake s 32).2
def inSt2 (s : St) : St := (rdNum (inSt1 s) 4).2
def inSt (s : St) : St := (rdText (inSt2 s) 100).2
def InSays (s : St) (x : InM) : Prop := x.tx.1 = idOf (rdTake s 32).1 ∧ x.ix = (rdNum (inSt1 s) 4).1 ∧ x.key = (rdText (inSt2 s) 100).1
def outSt1 (s : St) : St := (rdNum s 8).2
def outSt (s : St) : St := (rdTake (outSt1 s) 32).2
def i64of (n : Nat) : Int := IntKind.i64.wrap (n : Int)
def OutSays (s : St) (x : OutM) : Prop := x.am = i64of (rdNum s 8).1 ∧ x.lock.1 = idOf (rdTake (outSt1 s) 32).1
theorem inSt_shr (s : St) : (inSt s).1.length ≤ s.1.length := Nat.le_trans (text_shr _ _) (Nat.le_trans (take_shr _ _) (take_shr _ _))
theorem outSt_shr (s : St) : (outSt s).1.length ≤ s.1.length := Nat.le_trans (take_shr _ _) (take_shr _ _)
theorem inSt1_inv (s : St) (h : StI s) : StI (inSt1 s) := (take_inv s 32 h).1
theorem inSt2_inv (s : St) (h : StI s) : StI (inSt2 s) := num_inv _ 4 (inSt1_inv s h)
theorem inSt_inv (s : St) (h : StI s) : StI (inSt s) := rtext_inv _ 100 (inSt2_inv s h)
theorem outSt1_inv (s : St) (h : StI s) : StI (outSt1 s) := num_inv s 8 h
theorem outSt_inv (s : St) (h : StI s) : StI (outSt s) := (take_inv _ 32 (outSt1_inv s h)).1
theorem ovr_app (A B C : List Value) (h : A.length = C.length) : ovr (A ++ B).toArray 0 C = (C ++ B).toArray := by
  apply Array.ext_getElem?
  intro i
  rw [ovr_get, List.getElem?_toArray, List.getElem?_toArray]
  simp only [Nat.zero_le, true_and, Nat.zero_add, List.size_toArray, List.length_append, Nat.sub_zero]
  by_cases hi : i < C.length
  · rw [if_pos ⟨hi, by omega⟩, List.getElem?_append_left hi]
  · rw [if_neg (fun h => hi h.1), List.getElem?_append_right (by omega), List.getElem?_append_right (by omega), h]
theorem in_put_tx (q q' : I32) (n : Nat) (s : Option Addr) (c : Nat) (k : List Nat) : ovr (inL ⟨q, n, s, c, k⟩).toArray 0 (q'.1.map byteV) = (inL ⟨q', n, s, c, k⟩).toArray := ovr_app _ _ _ (by rw [List.length_map, List.length_map, q.2.1, q'.2.1])
theorem set_app (A : List Value) (B : List Value) (k i : Nat) (u : Value) (h : A.length = k) : (A ++ B).toArray.setIfInBounds (k + i) u = (A ++ B.set i u).toArray := by
  rw [List.setIfInBounds_toArray, List.set_append_right _ _ (by omega)]
  congr 3
  omega
theorem in_put_ix (q : I32) (n m : Nat) (s : Option Addr) (c : Nat) (k : List Nat) : (inL ⟨q, n, s, c, k⟩).toArray.setIfInBounds 32 (.int .u32 (m : Int)) = (inL ⟨q, m, s, c, k⟩).toArray := set_app _ _ 32 0 _ (by rw [List.length_map, q.2.1])
theorem in_put_kv (q : I32) (n : Nat) (s s' : Option Addr) (c c' : Nat) (k k' : List Nat) : (inL ⟨q, n, s, c, k⟩).toArray.setIfInBounds 33 (.slice s' k'.length c') = (inL ⟨q, n, s', c', k'⟩).toArray := set_app _ _ 32 1 _ (by rw [List.length_map, q.2.1])
theorem out_put_am (a b : Int) (q : I32) : (ouL ⟨a, q⟩).toArray.setIfInBounds 0 (.int .i64 b) = (ouL ⟨b, q⟩).toArray := by
  unfold ouL
  rw [List.setIfInBounds_toArray]
  rfl
theorem ovr_cons (a : Value) (A C : List Value) (h : A.length = C.length) : ovr (a :: A).toArray 1 C = (a :: C).toArray := by
  apply Array.ext_getElem?
  intro i
  rw [ovr_get, List.getElem?_toArray, List.getElem?_toArray]
  simp only [List.size_toArray, List.length_cons]
  cases i with
  | zero => rw [if_neg (by omega)]; rfl
  | succ i =>
    rw [List.getElem?_cons_succ, List.getElem?_cons_succ]
    by_cases hi : i < C.length
    · rw [if_pos ⟨by omega, by omega, by omega⟩]
      rfl
    · rw [if_neg (by omega), List.getElem?_eq_none (by omega), List.getElem?_eq_none (by omega)]
theorem out_put_lock (a : Int) (q q' : I32) : ovr (ouL ⟨a, q⟩).toArray 1 (q'.1.map byteV) = (ouL ⟨a, q'⟩).toArray := ovr_cons _ _ _ (by rw [List.length_map, List.length_map, q.2.1, q'.2.1])
theorem in_size (x : InM) : (inL x).toArray.size = 34 := by rw [List.size_toArray]; exact inL_len x
theorem out_size (x : OutM) : (ouL x).toArray.size = 33 := by rw [List.size_toArray]; exact ouL_len x
theorem in_infos : (Tryd.prog.info? 166).map (·.size) = some 34 := by kernel_rfl
theorem out_infos : (Tryd.prog.info? 169).map (·.size) = some 33 := by kernel_rfl
theorem in_ones (x : InM) : (inL x).toArray.all (·.oneCell') = true := Array.all_eq_true_iff_forall_mem.2 (fun v hv => inL_one x v (by simpa using hv))
theorem out_ones (x : OutM) : (ouL x).toArray.all (·.oneCell') = true := Array.all_eq_true_iff_forall_mem.2 (fun v hv => ouL_one x v (by simpa using hv))
theorem id_onesT (Y : List Nat) : (idA Y).all (·.oneCell') = true := all_oneCell_toArray (by intro v hv; obtain ⟨b, _, rfl⟩ := List.mem_map.1 hv; rfl)
theorem there_at {w : World} {g : Nat} {t : TypeId} {cs : Array Value} (h : Bk w g t cs) (o n : Nat) (hn : o + n ≤ cs.size) : w.there g o n := fun j hj => by
  have h1 := h.there (o + n) hn (o + j) (by omega)
  simpa using h1
theorem num4_lt (s : St) (h : StI s) : (rdNum s 4).1 < 4294967296 := num_lt s 4 (by omega) h
theorem num8_lt (s : St) (h : StI s) : (rdNum s 8).1 < 18446744073709551616 := num_lt s 8 (by omega) h
set_option maxHeartbeats 4000000 in
theorem tinput_any (p : Nat) (v : Value) (s : St) (w : World) (hR : RdS w p v s) (hI : StI s) :
    Calls Tryd.prog 102 #[.pointer (some ⟨p, 0, none⟩)] w fun r w' => ∃ x, r = .returned (.agg (inL x).toArray) ∧ InSays s x ∧ Mine w' w.heap.size x.kv x.key ∧ ∃ v', Took p v (inSt s) w w' v' := by
  have HR := Lib.hid hR
  have HI := Lib.hid hI
  have hpw := hR.1.lt
  obtain ⟨q, hq⟩ : ∃ q : I32, q.1 = idOf (rdTake s 32).1 := ⟨⟨_, idOf_ok s 32 hI (take32 s)⟩, rfl⟩
  have HQ := Lib.hid hq
  have HQL := Lib.hid q.2.1
  have HID : Hid (∀ W v1, RdS W p v1 s → Calls Tryd.prog 80 #[.pointer (some ⟨p, 0, none⟩)] W fun r w' => r = .returned (.agg (idA q.1)) ∧ ∃ v', Took p v1 (inSt1 s) W w' v') := fun W v1 h => by
    have := rid_any p v1 s W h hI.ok
    rw [← hq] at this
    exact this
  have HNM : Hid (∀ W v1, RdS W p v1 (inSt1 s) → Calls Tryd.prog 75 #[.pointer (some ⟨p, 0, none⟩), .int .i64 4] W fun r w' => r = .returned (.int .u64 ((rdNum (inSt1 s) 4).1 : Nat)) ∧ ∃ v', Took p v1 (inSt2 s) W w' v') := fun W v1 h => num_any p 4 v1 (inSt1 s) W h (inSt1_inv s hI).ok
  have HTX : Hid (∀ W v1, RdS W p v1 (inSt2 s) → Calls Tryd.prog 108 #[.pointer (some ⟨p, 0, none⟩), .int .i64 100] W fun r w' => ∃ u, r = .returned u ∧ Mine w' W.heap.size u (rdText (inSt2 s) 100).1 ∧ ∃ v', Took p v1 (inSt s) W w' v') := fun W v1 h => rtext_any p 100 v1 (inSt2 s) W h (inSt2_inv s hI).ok (by omega)
  have HN4 := Lib.hid (num4_lt (inSt1 s) (inSt1_inv s hI))
  have HS1 : Hid ((inSt1 s).1.length ≤ s.1.length) := take_shr _ _
  have HS2 : Hid ((inSt2 s).1.length ≤ s.1.length) := Nat.le_trans (take_shr _ _) (take_shr _ _)
  have HS3 := Lib.hid (inSt_shr s)
  obtain ⟨N, hN⟩ : ∃ N, N = (rdNum (inSt1 s) 4).1 := ⟨_, rfl⟩
  have HN := Lib.hid hN
  obtain ⟨key, hkey⟩ : ∃ key, key = (rdText (inSt2 s) 100).1 := ⟨_, rfl⟩
  have HKEY := Lib.hid hkey
  rw [← hN] at HNM HN4
  rw [← hkey] at HTX
  clear hR hI hN hkey hq
  go_enter Tryd.func102, Tryd.ntmps102
  go_upto_region 2 with fail
  refine wp_any (fun W => Took p v s w W v ∧ Bk W w.heap.size 166 (inL ⟨i0, 0, none, 0, []⟩).toArray ∧ Bk W (w.heap.size + 1) 166 (inL ⟨i0, 0, none, 0, []⟩).toArray) ⟨(Took.refl HR.out).far HR.out (Nat.le_refl _) (((Below.refl _ _).alloc (Nat.le_refl _) _).alloc (by simp) _), (Bk.new _ _ _).alloc _, Bk.new' _ _ _ (by simp)⟩ ?_
  have hn2 : ¬ w.heap.size = p := by omega
  have hn3 : ¬ w.heap.size + 1 = p := by omega
  obtain ⟨g2, hg2⟩ : ∃ g2, g2 = w.heap.size := ⟨_, rfl⟩
  obtain ⟨g3, hg3⟩ : ∃ g3, g3 = w.heap.size + 1 := ⟨_, rfl⟩
  have HG := Lib.hid (show g2 = w.heap.size ∧ g3 = w.heap.size + 1 from ⟨hg2, hg3⟩)
  rw [← hg3] at hn3 ⊢
  rw [← hg2] at hn2 ⊢
  clear hg2 hg3
  rintro W ⟨T, K2, K3⟩
  have HT := Lib.hid T
  clear T
  go_wp2_with fail
  refine (HID.out W v HT.out.1).mono ?_
  rintro e W1 ⟨rfl, v1, T1⟩
  have K2 := T1.2.1.keep K2 hn2
  have K3 := T1.2.1.keep K3 hn3
  have T1 := Lib.hid (HT.out.trans T1)
  clear HT HID
  go_upto_region 3 with (refine wpList_store_mid rfl 50 (.tmp 7) (.tmp 5) rfl g3 0 (idA q.1) rfl rfl (by rw [idA_size, HQL.out]; exact K3.there 32 (by rw [in_size]; decide)) (by rw [idA_size, HQL.out]; exact id_info') (id_onesT _) ?_)
  have hB : Below w.heap.size W1 (W1.setCells g3 0 (idA q.1).toList) := Below.setCells (by have := HG.out; omega) _ _ _ (Below.refl _ _)
  refine wp_any (fun W => Took p v (inSt1 s) w W v1 ∧ Bk W g2 166 (inL ⟨i0, 0, none, 0, []⟩).toArray ∧ Bk W g3 166 (inL ⟨q, 0, none, 0, []⟩).toArray) ⟨T1.out.far HR.out HS1.out hB, rowFar K2 (by have := HG.out; omega) _ _, by
    have := Bk.ovr_ (w := W1) (idA q.1).toList 0 W1 _ K3
    rw [show (idA q.1).toList = q.1.map byteV from rfl, in_put_tx] at this
    exact this⟩ ?_
  clear T1 K2 K3 hB
  rintro W ⟨T, K2, K3⟩
  have HT := Lib.hid T
  clear T
  go_wp2_with fail
  refine (HNM.out W v1 HT.out.1).mono ?_
  rintro e W2 ⟨rfl, v2, T2⟩
  have K2 := T2.2.1.keep K2 hn2
  have K3 := T2.2.1.keep K3 hn3
  have T2 := Lib.hid (HT.out.trans T2)
  have d32 := (K3.cell 32).trans ((List.getElem?_toArray).trans (in_32 _))
  have f32 := K3.frozen 32
  have z3 := K3.lt
  have hwr : IntKind.u32.wrap (N : Int) = (N : Int) := by have := HN4.out; simp [IntKind.wrap, IntKind.signed, IntKind.bits]; omega
  clear HT HNM
  go_upto_region 4 with fail
  have hB : Below w.heap.size W2 (W2.setCell ⟨g3, 32, none⟩ (.int .u32 (N : Int))) := (Below.refl _ _).setCell (by have := HG.out; show w.heap.size ≤ g3; omega) _
  refine wp_any (fun W => Took p v (inSt2 s) w W v2 ∧ Bk W g2 166 (inL ⟨i0, 0, none, 0, []⟩).toArray ∧ Bk W g3 166 (inL ⟨q, N, none, 0, []⟩).toArray) ⟨T2.out.far HR.out HS2.out hB, K2.far (by have := HG.out; show g2 ≠ g3; omega) _, by
    have := K3.set_ 32 (.int .u32 (N : Int))
    rw [in_put_ix] at this
    exact this⟩ ?_
  clear T2 K2 K3 hB d32 f32 z3 hwr
  rintro W ⟨T, K2, K3⟩
  have HT := Lib.hid T
  clear T
  go_wp2_with fail
  refine (HTX.out W v2 HT.out.1).mono ?_
  rintro e W3 ⟨u, rfl, M3, v3, T3⟩
  have K2 := T3.2.1.keep K2 hn2
  have K3 := T3.2.1.keep K3 hn3
  have M3 := M3.mono HT.out.size
  have T3 := Lib.hid (HT.out.trans T3)
  have d33 := (K3.cell 33).trans ((List.getElem?_toArray).trans (in_33 _))
  have f33 := K3.frozen 33
  have z3 := K3.lt
  have HAP := Lib.hid (show (∀ k, slb u k → ¬ k = g3) ∧ ∀ k, slb u k → ¬ k = g2 from ⟨fun k hk e => M3.apart K3 ht_in (e ▸ hk), fun k hk e => M3.apart K2 ht_in (e ▸ hk)⟩)
  obtain ⟨us, uc, hu⟩ := M3.slice
  have HM3 := Lib.hid M3
  obtain ⟨ul, hul⟩ : ∃ ul, ul = key.length := ⟨_, rfl⟩
  rw [← hul] at hu
  subst hu
  have HUL := Lib.hid hul
  clear HT HTX M3 hul
  go_upto_region 5 with fail
  have hB : Below w.heap.size W3 (W3.setCell ⟨g3, 33, none⟩ (.slice us ul uc)) := (Below.refl _ _).setCell (by have := HG.out; show w.heap.size ≤ g3; omega) _
  refine wp_any (fun W => Took p v (inSt s) w W v3 ∧ Bk W g2 166 (inL ⟨i0, 0, none, 0, []⟩).toArray ∧ Bk W g3 166 (inL ⟨q, N, us, uc, key⟩).toArray ∧ Mine W w.heap.size (.slice us ul uc) key) ⟨T3.out.far HR.out HS3.out hB, K2.far (by have := HG.out; show g2 ≠ g3; omega) _, by
    have := K3.set_ 33 (.slice us key.length uc)
    rw [in_put_kv, ← HUL.out] at this
    exact this, HM3.out.but (S := fun k => k = g3) (But.set_ (S := fun k => k = g3) (But.refl _ _) (.inl rfl) 33 none _) HAP.out.1⟩ ?_
  clear T3 K2 K3 hB d33 f33 z3 HM3
  rintro W ⟨T, K2, K3, M⟩
  have HT := Lib.hid T
  have HM := Lib.hid M
  clear T M
  obtain ⟨x, hx⟩ : ∃ x : InM, x = ⟨q, N, us, uc, key⟩ := ⟨_, rfl⟩
  have HX := Lib.hid (show InSays s x ∧ x.kv = .slice us ul uc ∧ x.key = key by rw [hx]; exact ⟨⟨HQ.out, HN.out, HKEY.out⟩, by rw [HUL.out]; rfl, rfl⟩)
  rw [← hx] at K3
  clear hx
  go_wp2_with (first | (refine wpList_load_row rfl 166 (.tmp 3) rfl g3 rfl 166 (inL x).toArray (0, 0) _ K3 Tryd.underlying166 rfl (by rw [in_size]; exact in_infos) ?_) | (refine wpList_store_mid rfl 166 (.tmp 2) (.tmp 16) rfl g2 0 (inL x).toArray rfl rfl (by rw [in_size]; exact K2.there 34 (by rw [in_size]; exact Nat.le_refl _)) (by rw [in_size]; exact in_infos) (in_ones x) ?_))
  refine bodyPost_ret (results_cell_row rfl _ _ g2 166 (inL x).toArray (0, 0) _ rfl (K2.setAll ((in_size x).trans (in_size _).symm)) Tryd.underlying166 rfl (by rw [in_size]; exact in_infos)) rfl ⟨x, rfl, HX.out.1, ?_, v3, HT.out.far HR.out HS3.out (Below.setCells (by have := HG.out; omega) _ _ _ (Below.refl _ _))⟩
  rw [HX.out.2.1, HX.out.2.2]
  exact HM.out.but (S := fun k => k = g2) (But.setCells (S := fun k => k = g2) rfl _ _ _ (But.refl _ _)) HAP.out.2
set_option maxHeartbeats 4000000 in
theorem toutput_any (p : Nat) (v : Value) (s : St) (w : World) (hR : RdS w p v s) (hI : StI s) :
    Calls Tryd.prog 103 #[.pointer (some ⟨p, 0, none⟩)] w fun r w' => ∃ x, r = .returned (.agg (ouL x).toArray) ∧ OutSays s x ∧ ∃ v', Took p v (outSt s) w w' v' := by
  have HR := Lib.hid hR
  have HI := Lib.hid hI
  have hpw := hR.1.lt
  obtain ⟨q, hq⟩ : ∃ q : I32, q.1 = idOf (rdTake (outSt1 s) 32).1 := ⟨⟨_, idOf_ok _ 32 (outSt1_inv s hI) (take32 _)⟩, rfl⟩
  have HQ := Lib.hid hq
  have HQL := Lib.hid q.2.1
  have HID : Hid (∀ W v1, RdS W p v1 (outSt1 s) → Calls Tryd.prog 80 #[.pointer (some ⟨p, 0, none⟩)] W fun r w' => r = .returned (.agg (idA q.1)) ∧ ∃ v', Took p v1 (outSt s) W w' v') := fun W v1 h => by
    have := rid_any p v1 (outSt1 s) W h (outSt1_inv s hI).ok
    rw [← hq] at this
    exact this
  have HNM : Hid (∀ W v1, RdS W p v1 s → Calls Tryd.prog 75 #[.pointer (some ⟨p, 0, none⟩), .int .i64 8] W fun r w' => r = .returned (.int .u64 ((rdNum s 8).1 : Nat)) ∧ ∃ v', Took p v1 (outSt1 s) W w' v') := fun W v1 h => num_any p 8 v1 s W h hI.ok
  have HS1 : Hid ((outSt1 s).1.length ≤ s.1.length) := take_shr _ _
  have HS2 := Lib.hid (outSt_shr s)
  obtain ⟨N, hN⟩ : ∃ N, N = (rdNum s 8).1 := ⟨_, rfl⟩
  have HN := Lib.hid hN
  rw [← hN] at HNM
  obtain ⟨am, ham⟩ : ∃ am, am = IntKind.i64.wrap (N : Int) := ⟨_, rfl⟩
  have HAM := Lib.hid ham
  clear hR hI hN hq
  go_enter Tryd.func103, Tryd.ntmps103
  go_upto_region 2 with fail
  refine wp_any (fun W => Took p v s w W v ∧ Bk W w.heap.size 169 (ouL ⟨0, i0⟩).toArray ∧ Bk W (w.heap.size + 1) 169 (ouL ⟨0, i0⟩).toArray) ⟨(Took.refl HR.out).far HR.out (Nat.le_refl _) (((Below.refl _ _).alloc (Nat.le_refl _) _).alloc (by simp) _), (Bk.new _ _ _).alloc _, Bk.new' _ _ _ (by simp)⟩ ?_
  have hn2 : ¬ w.heap.size = p := by omega
  have hn3 : ¬ w.heap.size + 1 = p := by omega
  obtain ⟨g2, hg2⟩ : ∃ g2, g2 = w.heap.size := ⟨_, rfl⟩
  obtain ⟨g3, hg3⟩ : ∃ g3, g3 = w.heap.size + 1 := ⟨_, rfl⟩
  have HG := Lib.hid (show g2 = w.heap.size ∧ g3 = w.heap.size + 1 from ⟨hg2, hg3⟩)
  rw [← hg3] at hn3 ⊢
  rw [← hg2] at hn2 ⊢
  clear hg2 hg3
  rintro W ⟨T, K2, K3⟩
  have HT := Lib.hid T
  clear T
  have hwr := ham.symm
  clear ham
  go_wp2_with fail
  refine (HNM.out W v HT.out.1).mono ?_
  rintro e W1 ⟨rfl, v1, T1⟩
  have K2 := T1.2.1.keep K2 hn2
  have K3 := T1.2.1.keep K3 hn3
  have T1 := Lib.hid (HT.out.trans T1)
  have d0 : W1.cell? ⟨g3, 0, none⟩ = some (.int .i64 0) := K3.cell 0
  have f0 := K3.frozen 0
  have z3 := K3.lt
  clear HT HNM
  go_upto_region 3 with fail
  have hB : Below w.heap.size W1 (W1.setCell ⟨g3, 0, none⟩ (.int .i64 am)) := (Below.refl _ _).setCell (by have := HG.out; show w.heap.size ≤ g3; omega) _
  refine wp_any (fun W => Took p v (outSt1 s) w W v1 ∧ Bk W g2 169 (ouL ⟨0, i0⟩).toArray ∧ Bk W g3 169 (ouL ⟨am, i0⟩).toArray) ⟨T1.out.far HR.out HS1.out hB, K2.far (by have := HG.out; show g2 ≠ g3; omega) _, by
    have := K3.set_ 0 (.int .i64 am)
    rw [out_put_am] at this
    exact this⟩ ?_
  clear T1 K2 K3 hB d0 f0 z3 hwr
  rintro W ⟨T, K2, K3⟩
  have HT := Lib.hid T
  clear T
  go_wp2_with fail
  refine (HID.out W v1 HT.out.1).mono ?_
  rintro e W2 ⟨rfl, v2, T2⟩
  have K2 := T2.2.1.keep K2 hn2
  have K3 := T2.2.1.keep K3 hn3
  have T2 := Lib.hid (HT.out.trans T2)
  clear HT HID
  go_upto_region 4 with (refine wpList_store_mid rfl 50 (.tmp 10) (.tmp 9) rfl g3 1 (idA q.1) rfl rfl (by rw [idA_size, HQL.out]; exact there_at K3 1 32 (by rw [out_size]; decide)) (by rw [idA_size, HQL.out]; exact id_info') (id_onesT _) ?_)
  have hB : Below w.heap.size W2 (W2.setCells g3 1 (idA q.1).toList) := Below.setCells (by have := HG.out; omega) _ _ _ (Below.refl _ _)
  obtain ⟨x, hx⟩ : ∃ x : OutM, x = ⟨am, q⟩ := ⟨_, rfl⟩
  have HX := Lib.hid (show OutSays s x by rw [hx]; exact ⟨by rw [HAM.out, HN.out]; rfl, HQ.out⟩)
  refine wp_any (fun W => Took p v (outSt s) w W v2 ∧ Bk W g2 169 (ouL ⟨0, i0⟩).toArray ∧ Bk W g3 169 (ouL x).toArray) ⟨T2.out.far HR.out HS2.out hB, rowFar K2 (by have := HG.out; omega) _ _, by
    have := Bk.ovr_ (w := W2) (idA q.1).toList 1 W2 _ K3
    rw [show (idA q.1).toList = q.1.map byteV from rfl, out_put_lock, ← hx] at this
    exact this⟩ ?_
  clear T2 K2 K3 hB hx
  rintro W ⟨T, K2, K3⟩
  have HT := Lib.hid T
  clear T
  go_wp2_with (first | (refine wpList_load_row rfl 169 (.tmp 3) rfl g3 rfl 169 (ouL x).toArray (0, 0) _ K3 Tryd.underlying169 rfl (by rw [out_size]; exact out_infos) ?_) | (refine wpList_store_mid rfl 169 (.tmp 2) (.tmp 11) rfl g2 0 (ouL x).toArray rfl rfl (by rw [out_size]; exact K2.there 33 (by rw [out_size]; exact Nat.le_refl _)) (by rw [out_size]; exact out_infos) (out_ones x) ?_))
  refine bodyPost_ret (results_cell_row rfl _ _ g2 169 (ouL x).toArray (0, 0) _ rfl (K2.setAll ((out_size x).trans (out_size _).symm)) Tryd.underlying169 rfl (by rw [out_size]; exact out_infos)) rfl ⟨x, rfl, HX.out, v2, HT.out.far HR.out HS2.out (Below.setCells (by have := HG.out; omega) _ _ _ (Below.refl _ _))⟩
end Go.Proofs.YtkpffjcdalclmaaDoor
