/-
  Texts in one: Fld, Grw, GrwW.
-/
import Derived.Test.YtljfhabhenaapaaDoorNewD
import Derived.Test.YtljfhabhenaapaaDoorHeaH
namespace Go.Proofs.YtljfhabhenaapaaDoor
open Go.RowKit
set_option linter.unusedVariables false
set_option linter.unusedSimpArgs false
set_option maxRecDepth 100000
theorem fld_one {A : Array Value} {t : TypeId} {o : Nat} {v : Value} (w : World) (ha : (isAgg t).run Tryd.prog w = .ok false w) (hc : A[o]? = some v) : (part t A o).run Tryd.prog w = .ok v w := by
  unfold part
  rw [Sem.run_bind, ha]
  simp [hc]
theorem fld_agg {A : Array Value} {t : TypeId} {o n : Nat} {B : Array Value} (w : World) (ha : (isAgg t).run Tryd.prog w = .ok true w) (hs : (sizeOf t).run Tryd.prog w = .ok n w) (hc : A.extract o (o + n) = B) : (part t A o).run Tryd.prog w = .ok (.agg B) w := by
  unfold part
  rw [Sem.run_bind, ha]
  simp [hs, hc]
theorem fld_node (A : Array Value) (w : World) : (Instr.field 45 (.agg A) 0).run Tryd.prog w = (part 32 A 0).run Tryd.prog w ∧ (Instr.field 45 (.agg A) 1).run Tryd.prog w = (part 30 A 68).run Tryd.prog w ∧
    (Instr.field 45 (.agg A) 2).run Tryd.prog w = (part 3 A 100).run Tryd.prog w ∧ (Instr.field 45 (.agg A) 4).run Tryd.prog w = (part 3 A 102).run Tryd.prog w ∧ (Instr.field 45 (.agg A) 5).run Tryd.prog w = (part 43 A 103).run Tryd.prog w ∧ (Instr.field 45 (.agg A) 6).run Tryd.prog w = (part 4 A 107).run Tryd.prog w := by
  refine ⟨?_, ?_, ?_, ?_, ?_, ?_⟩ <;> simp [Instr.field, go_sem, Tryd.underlying45, asAgg]
theorem fld_head (A : Array Value) (w : World) : (Instr.field 32 (.agg A) 3).run Tryd.prog w = (part 28 A 65).run Tryd.prog w := by
  simp [Instr.field, go_sem, Tryd.underlying32, asAgg]
theorem id_extract {x : Nd} (h : IsHd x.h) : (ndL x).toArray.extract 68 (68 + 32) = (idL (nameI x.h)).toArray := by
  unfold ndL
  rw [List.extract_toArray]
  congr 1
  rw [List.extract_eq_take_drop, show 68 + 32 - 68 = 32 by decide, List.drop_append_of_le_length (by rw [hdL_length h]; exact Nat.le_refl _), show (hdL x.h).drop 68 = [] by rw [List.drop_eq_nil_iff, hdL_length h]; exact Nat.le_refl _, List.nil_append, List.take_append_of_le_length (by rw [List.length_map, hID_length]; exact Nat.le_refl _)]
  unfold idL nameI
  rw [List.take_of_length_le (by rw [List.length_map, hID_length]; exact Nat.le_refl _)]
theorem hd_extract {x : Nd} (h : IsHd x.h) : (ndL x).toArray.extract 0 (0 + 68) = (hdL x.h).toArray := by
  unfold ndL
  rw [List.extract_toArray]
  congr 1
  rw [List.extract_eq_take_drop, List.drop_zero, List.take_append_of_le_length (by rw [hdL_length h]; exact Nat.le_refl _), List.take_of_length_le (by rw [hdL_length h]; exact Nat.le_refl _)]
theorem wk_extract {x : Nd} (h : IsHd x.h) : (ndL x).toArray.extract 103 (103 + 4) = (numR.c x.wk).toArray := by
  unfold ndL
  rw [List.extract_toArray, ← List.append_assoc]
  congr 1
  have hl : (hdL x.h ++ (hID x.h).map byteV).length = 100 := by rw [List.length_append, hdL_length h, List.length_map, hID_length]
  rw [List.extract_eq_take_drop, List.drop_append, hl, show (hdL x.h ++ (hID x.h).map byteV).drop 103 = [] by rw [List.drop_eq_nil_iff, hl]; decide]
  rfl
theorem nf_hd {x : Nd} (h : IsHd x.h) (w : World) : (Instr.field 45 (.agg (ndL x).toArray) 0).run Tryd.prog w = .ok (.agg (hdL x.h).toArray) w := by
  rw [(fld_node _ w).1]; exact fld_agg w (hd_agg w) (hd_size w) (hd_extract h)
theorem nf_id {x : Nd} (h : IsHd x.h) (w : World) : (Instr.field 45 (.agg (ndL x).toArray) 1).run Tryd.prog w = .ok (.agg (idL (nameI x.h)).toArray) w := by
  rw [(fld_node _ w).2.1]; exact fld_agg w (id_agg w) (id_sz w) (id_extract h)
theorem int_ag (w : World) : (isAgg 3).run Tryd.prog w = .ok false w := by kernel_rfl
theorem bool_ag (w : World) : (isAgg 4).run Tryd.prog w = .ok false w := by kernel_rfl
theorem num_ag (w : World) : (isAgg 43).run Tryd.prog w = .ok true w := by kernel_rfl
theorem num_sz (w : World) : (sizeOf 43).run Tryd.prog w = .ok 4 w := by kernel_rfl
theorem nf_pr {x : Nd} (h : IsHd x.h) (w : World) : (Instr.field 45 (.agg (ndL x).toArray) 2).run Tryd.prog w = .ok (.int .i64 x.pr) w := by
  rw [(fld_node _ w).2.2.1]; exact fld_one w (int_ag w) (by rw [List.getElem?_toArray]; exact ndL_tail h 0)
theorem nf_ht {x : Nd} (h : IsHd x.h) (w : World) : (Instr.field 45 (.agg (ndL x).toArray) 4).run Tryd.prog w = .ok (.int .i64 (x.ht : Int)) w := by
  rw [(fld_node _ w).2.2.2.1]; exact fld_one w (int_ag w) (by rw [List.getElem?_toArray]; exact ndL_tail h 2)
theorem nf_wk {x : Nd} (h : IsHd x.h) (w : World) : (Instr.field 45 (.agg (ndL x).toArray) 5).run Tryd.prog w = .ok (nv x.wk) w := by
  rw [(fld_node _ w).2.2.2.2.1]; exact fld_agg w (num_ag w) (num_sz w) (wk_extract h)
theorem nf_fl {x : Nd} (h : IsHd x.h) (w : World) : (Instr.field 45 (.agg (ndL x).toArray) 6).run Tryd.prog w = .ok (.bool x.fl) w := by
  rw [(fld_node _ w).2.2.2.2.2]; exact fld_one w (bool_ag w) (by rw [List.getElem?_toArray]; exact ndL_tail h 7)
theorem hf_t {h : Hd} (k : IsHd h) (w : World) : (Instr.field 32 (.agg (hdL h).toArray) 3).run Tryd.prog w = .ok (.int .u32 (h.t : Int)) w := by
  rw [fld_head]; exact fld_one w (u4_ag w) (hdA_t k)
/-- A header behind a name, as the laws build it. -/
def bH (ver : Nat) (y : I32) : Array Value := ([u32V ver] ++ idL y ++ ((zeros 32).map byteV ++ [u32V 0, u32V 0, u32V 0])).toArray
theorem bH_1 (ver : Nat) (y : I32) : (idL y).zipIdx.foldl (fun (cs : Array Value) (x : Value × Nat) => cs.setIfInBounds (1 + x.2) x.1) ((hdA hd0).setIfInBounds 0 (.int .u32 (ver : Int))) = bH ver y := by
  have e : (hdA hd0).setIfInBounds 0 (.int .u32 (ver : Int)) = ([u32V ver] ++ (zeros 32).map byteV ++ ((zeros 32).map byteV ++ [u32V 0, u32V 0, u32V 0])).toArray := by
    unfold hdA hdL
    rfl
  rw [e]
  exact fold_set 1 (idL y) [u32V ver] _ _ 0 rfl (by rw [idL_len]; rfl)
theorem bH_0 (y : I32) : (idL y).zipIdx.foldl (fun (cs : Array Value) (x : Value × Nat) => cs.setIfInBounds (1 + x.2) x.1) (hdA hd0) = bH 0 y := by
  have e : hdA hd0 = ([u32V 0] ++ (zeros 32).map byteV ++ ((zeros 32).map byteV ++ [u32V 0, u32V 0, u32V 0])).toArray := by
    unfold hdA hdL
    rfl
  rw [e]
  exact fold_set 1 (idL y) [u32V 0] _ _ 0 rfl (by rw [idL_len]; rfl)
theorem bH_size (ver : Nat) (y : I32) : (bH ver y).size = 68 := by unfold bH; simp [idL_len, zlen]
theorem set_tail65 {P T : List Value} (hP : P.length = 65) (i : Nat) (v : Value) : ((P ++ T).toArray).setIfInBounds (65 + i) v = (P ++ T.set i v).toArray := by
  rw [List.setIfInBounds_toArray, List.set_append_right _ _ (by omega), hP, Nat.add_sub_cancel_left]
theorem bH_2 (ver t : Nat) (y : I32) : ((bH ver y).setIfInBounds 65 (.int .u32 (t : Int))).setIfInBounds 66 (.int .u32 545259519) = (hdL ⟨ver, y.1, zeros 32, t, 545259519, 0⟩).toArray := by
  have hP : ([u32V ver] ++ idL y ++ (zeros 32).map byteV).length = 65 := by simp [idL_len, zlen]
  unfold bH
  rw [← List.append_assoc, set_tail65 hP 0, set_tail65 hP 1]
  unfold hdL idL
  simp
  exact ⟨rfl, rfl⟩
theorem bH_is {ver t : Nat} (hv : ver < 4294967296) (ht : t < 4294967296) (y : I32) : IsHd ⟨ver, y.1, zeros 32, t, 545259519, 0⟩ := ⟨hv, y.2.1, y.2.2, zlen, fun b hb => by have := List.eq_of_mem_replicate hb; omega, ht, (by show 545259519 < 4294967296; decide), (by show 0 < 4294967296; decide)⟩
end Go.Proofs.YtljfhabhenaapaaDoor
namespace Go.Proofs.YtljfhabhenaapaaDoor
open Go.RowKit
set_option linter.unusedVariables false
set_option linter.unusedSimpArgs false
set_option maxRecDepth 100000
def hq1 : Hd := ⟨0, hID H0, zeros 32, 5, 545259519, 0⟩
def h1 : Hd := ⟨0, hID H0, zeros 32, 5, 545259519, 2⟩
theorem hq1_is : IsHd hq1 := bH_is (ver := 0) (t := 5) (by decide) (by decide) (nameI H0)
theorem h1_is : IsHd h1 := ⟨by decide, hID_length _, hID_lt _, zlen, fun b hb => by have := List.eq_of_mem_replicate hb; omega, by decide, by decide, by decide⟩
theorem hq1_0 : provV hq1 545259519 ≠ 0 := by decide +kernel
theorem hq1_1 : provV ⟨0, hID H0, zeros 32, 5, 545259519, 1⟩ 545259519 ≠ 0 := by decide +kernel
theorem h1_prov : provV h1 545259519 = 0 := by decide +kernel
theorem h1_mined : mineV hq1 545259519 0 (mineN 100) = some h1 := by
  have e : mineN 100 = 97 + 1 + 1 + 1 := rfl
  rw [e]
  unfold mineV
  rw [if_neg (by exact hq1_0)]
  unfold mineV
  rw [if_neg (by exact hq1_1)]
  unfold mineV
  rw [if_pos (by exact h1_prov)]
  rfl
theorem h1_name : ¬ hID H0 = hID h1 := by decide +kernel
theorem g0_work : workN H0 = 2 := by decide +kernel
theorem h1_work : workN h1 = 2 := g0_work
def c1 : Nd := ⟨h1, 0, 0, 1, 4, false⟩
def L1 : List Nd := [g0, c1]
theorem g0_none : findI [g0] (hID h1) = none := by
  unfold findI
  rw [List.findIdx?_cons, if_neg (by simp; exact h1_name)]
  rfl
theorem med_g0 : medN [g0] 0 = 0 := by
  have e : timesN [g0] 11 0 = [0] := rfl
  unfold medN
  rw [e]
  have := sorted_mid (l := [0]) (s := [0]) (List.Perm.refl _) (by simp)
  rw [← this]
  rfl
theorem grow_1 : addF [g0] 545259519 h1 100 = (L1, 1, 0) := by
  have := addF_good (L := [g0]) (lim := 545259519) (p := 0) (h := h1) (now := 100) g0_none (findI_at g0_ok (by decide) rfl) (fitsV_good (by decide) h1_prov rfl rfl (by rw [med_g0]; decide) (by decide)) (by decide)
  rw [this]
  have hw : ((ndA [g0] 0).wk + workN h1) % M256 = 4 := by
    rw [h1_work]
    show (workN H0 + 2) % M256 = 4
    rw [g0_work]
    decide +kernel
  rw [hw]
  rfl
theorem L1_ok : TreeOk L1 := by
  have := addF_ok g0_ok (lim := 545259519) h1_is 100
  rw [grow_1] at this
  exact this
theorem grow_2 : addF L1 545259519 h1 100 = (L1, 1, 5) := by
  have : findI L1 (hID h1) = some 1 := findI_at L1_ok (by decide) rfl
  unfold addF
  rw [this]
  rfl
theorem med_L1 : medN L1 1 = 5 := by
  have e : timesN L1 11 1 = [5, 0] := rfl
  unfold medN
  rw [e]
  have := sorted_mid (l := [5, 0]) (s := [0, 5]) (List.Perm.swap _ _ _) (by simp)
  rw [← this]
  rfl
theorem on_L1 : onB L1 0 1 = true := on_zero (j := 1) L1_ok (by decide)
theorem get_g0 : getN [g0] 0 = g0 := rfl
theorem get_c1 : getN L1 1 = c1 := rfl
theorem hd_ret1 : mineR (some h1) = .tuple #[.agg (hdL h1).toArray, .bool true] := rfl
end Go.Proofs.YtljfhabhenaapaaDoor
namespace Go.Proofs.YtljfhabhenaapaaDoor
open Go.RowKit
set_option linter.unusedVariables false
set_option linter.unusedSimpArgs false
set_option maxRecDepth 100000
theorem n4_guard (op : BinOp) (a b : Operand) (w : World) : (eqGuard op 43 a b (nv 4) (nv 4)).run Tryd.prog w = .ok () w := run_eqGuard_agg (P := Tryd.prog) w op 43 a b (A4 (wd0 4) (wd1 4) (wd2 4) (wd3 4)) (A4 (wd0 4) (wd1 4) (wd2 4) (wd3 4)) (by kernel_rfl)
theorem n4_bin (w : World) : (binOp .eql 43 (nv 4) (nv 4)).run Tryd.prog w = .ok (.bool true) w := by kernel_rfl
set_option maxHeartbeats 16000000 in
theorem grows_any (w : World) (hLd : Laid w) : Calls Tryd.prog 6 #[] w fun e w' => e = .returned (.bool true) ∧ Below w.heap.size w w' := by
  have HE := Lib.hid easy_any
  have HN := Lib.hid (fun W (hW : Below w.heap.size w W) => new_any W (hLd.keep hW))
  have HLD := Lib.hid hLd
  have HTL : Hid (∀ (W : World) p lo F (h : Tre W p lo F r0 [g0]), Calls Tryd.prog 14 #[.pointer (some ⟨p, 0, none⟩)] W fun e w' => e = .returned (.int .i64 1) ∧ w' = W) := fun W p lo F h => tlen_any h
  obtain ⟨NA0, hNA0⟩ : ∃ NA0, NA0 = (ndL g0).toArray := ⟨_, rfl⟩
  obtain ⟨NA1, hNA1⟩ : ∃ NA1, NA1 = (ndL c1).toArray := ⟨_, rfl⟩
  obtain ⟨IDL, hIDL⟩ : ∃ IDL, IDL = idL (nameI H0) := ⟨_, rfl⟩
  obtain ⟨ZH, hZH⟩ : ∃ ZH, ZH = hdA hd0 := ⟨_, rfl⟩
  obtain ⟨B0, hB0⟩ : ∃ B0, B0 = bH 0 (nameI H0) := ⟨_, rfl⟩
  obtain ⟨HQ, hHQ⟩ : ∃ HQ, HQ = (hdL hq1).toArray := ⟨_, rfl⟩
  obtain ⟨HL, hHL⟩ : ∃ HL, HL = hdL h1 := ⟨_, rfl⟩
  have f0 : ∀ w, (Instr.field 45 (.agg NA0) 1).run Tryd.prog w = .ok (.agg IDL.toArray) w := fun w => by rw [hNA0, hIDL]; exact nf_id H0_is w
  have f1 : ∀ w, (Instr.field 45 (.agg NA1) 4).run Tryd.prog w = .ok (.int .i64 1) w := fun w => by rw [hNA1]; exact nf_ht h1_is w
  have f2 : ∀ w, (Instr.field 45 (.agg NA1) 5).run Tryd.prog w = .ok (nv 4) w := fun w => by rw [hNA1]; exact nf_wk h1_is w
  have z1 : ∀ w, (zeroValue 32).run Tryd.prog w = .ok (.agg ZH) w := fun w => by rw [hZH]; exact hd_zero w
  have z2 : (ZH = #[]) = False := by rw [hZH]; exact hd_zne
  have z3 : ZH.size = 68 := by rw [hZH]; exact hdA_size hd0_is
  have b1 : IDL.zipIdx.foldl (fun (cs : Array Value) (x : Value × Nat) => cs.setIfInBounds (1 + x.2) x.1) ZH = B0 := by rw [hIDL, hZH, hB0]; exact bH_0 _
  have b2 : B0.size = 68 := by rw [hB0]; exact bH_size _ _
  have b3 : (B0.setIfInBounds 65 (.int .u32 5)).setIfInBounds 66 (.int .u32 545259519) = HQ := by rw [hB0, hHQ]; exact bH_2 0 5 (nameI H0)
  have b4 : IDL.length = 32 := by rw [hIDL]; exact idL_len _
  have l1 : HL.length = 68 := by rw [hHL]; exact hdL_length h1_is
  have l2 : (Tryd.prog.info? 32).map (·.size) = some HL.toArray.size := by rw [List.size_toArray, l1]; exact hd_info
  have l3 : HL.toArray.all (·.oneCell') = true := by rw [hHL]; exact all_oneCell_toArray (hdL_one h1)
  have HG0 : Hid (∀ (W : World) p lo F (h : Tre W p lo F r0 [g0]), Calls Tryd.prog 10 #[.pointer (some ⟨p, 0, none⟩), .int .i64 0] W fun e w' => e = .returned (.agg NA0) ∧ Below W.heap.size W w') := fun W p lo F h => by
    have := get_any h 0
    rw [get_g0] at this
    rw [hNA0]
    exact this
  have HMN : Hid (∀ (W : World), Below w.heap.size w W → Calls Tryd.prog 9 #[.agg HQ, .int .u32 545259519, .int .i64 100] W fun e w' => e = .returned (.tuple #[.agg HL.toArray, .bool true]) ∧ Below W.heap.size W w') := fun W hW => by
    have := mine_any hq1 545259519 100 W hq1_is (by decide) (by decide) (hLd.keep hW)
    rw [h1_mined, hd_ret1] at this
    rw [hHQ, hHL]
    exact this
  have HA1 : Hid (∀ (W : World) p lo F (h : Tre W p lo F r0 [g0]), Below w.heap.size w W → Calls Tryd.prog 11 #[.pointer (some ⟨p, 0, none⟩), .agg HL.toArray, .int .i64 100] W fun e w' => e = .returned (.tuple #[.int .i64 1, .int .i64 0]) ∧ AddG W p lo F r0 L1 w') := fun W p lo F h hW => by
    have := tadd_any h rfl h1 h1_is 100 (by decide) (hLd.keep hW) (by decide)
    rw [show r0.lim = 545259519 from rfl, grow_1] at this
    rw [hHL]
    exact this
  have HA2 : Hid (∀ (W : World) p lo F (h : Tre W p lo F r0 L1), Below w.heap.size w W → Calls Tryd.prog 11 #[.pointer (some ⟨p, 0, none⟩), .agg HL.toArray, .int .i64 100] W fun e w' => e = .returned (.tuple #[.int .i64 1, .int .i64 5]) ∧ AddG W p lo F r0 L1 w') := fun W p lo F h hW => by
    have := tadd_any h rfl h1 h1_is 100 (by decide) (hLd.keep hW) (by decide)
    rw [show r0.lim = 545259519 from rfl, grow_2] at this
    rw [hHL]
    exact this
  have HG1 : Hid (∀ (W : World) p lo F (h : Tre W p lo F r0 L1), Calls Tryd.prog 10 #[.pointer (some ⟨p, 0, none⟩), .int .i64 1] W fun e w' => e = .returned (.agg NA1) ∧ Below W.heap.size W w') := fun W p lo F h => by
    have := get_any h 1
    rw [get_c1] at this
    rw [hNA1]
    exact this
  have HON : Hid (∀ (W : World) p lo F (h : Tre W p lo F r0 L1), Calls Tryd.prog 13 #[.pointer (some ⟨p, 0, none⟩), .int .i64 0, .int .i64 1] W fun e w' => e = .returned (.bool true) ∧ w' = W) := fun W p lo F h => by
    have := on_any h 0 1 (by decide)
    rw [on_L1] at this
    exact this
  have HMD : Hid (∀ (W : World) p lo F (h : Tre W p lo F r0 L1), Calls Tryd.prog 24 #[.pointer (some ⟨p, 0, none⟩), .int .i64 1] W fun e w' => e = .returned (.int .u32 5) ∧ Below W.heap.size W w') := fun W p lo F h => by
    have := med_any h 1 (by decide)
    rw [med_L1] at this
    exact this
  have HNX : Hid (∀ (W : World) p lo F (h : Tre W p lo F r0 L1), Calls Tryd.prog 25 #[.pointer (some ⟨p, 0, none⟩), .int .i64 1] W fun e w' => e = .returned (.int .u32 545259519) ∧ Below W.heap.size W w') := fun W p lo F h => next_any h rfl 1 (by decide)
  have HOF := Lib.hid (fun W => of_any 4 W (by decide))
  have q1 := n4_guard
  have q2 := n4_bin
  generalize ruA r0 = RA at *
  generalize nv 4 = V4 at *
  clear hNA0 hNA1 hIDL hZH hB0 hHQ hHL hLd
  go_enter Tryd.func6, Tryd.ntmps6
  go_wp2_with fail
  refine (HE.out w).mono ?_
  rintro e w1 ⟨rfl, hb1⟩
  go_wp2_with fail
  refine (HN.out w1 hb1).mono ?_
  rintro e w2 ⟨p, F, rfl, hT2, hb2⟩
  unfold pv
  have hB2 : Below w.heap.size w w2 := hb1.trans (hb2.mono hb1.size)
  have hlo : w.heap.size ≤ w1.heap.size := hb1.size
  generalize w1.heap.size = lo at *
  have HB2 := Lib.hid hB2
  clear hb1 hb2 hB2 HE HN w1
  go_wp2_with fail
  refine (HTL.out w2 p lo F hT2).mono ?_
  rintro e w9 ⟨rfl, rfl⟩
  go_wp2_with fail
  refine (HG0.out w9 p lo F hT2).mono ?_
  rintro e w3 ⟨rfl, hb3⟩
  have hB3 : Below w.heap.size w w3 := HB2.out.trans (hb3.mono HB2.out.size)
  have hT3 := hT2.keep hb3
  clear hb3 hT2 HB2
  go_wp2_with fail
  refine (HMN.out w3 hB3).mono ?_
  rintro e w4 ⟨rfl, hb4⟩
  have hB4 : Below w.heap.size w w4 := hB3.trans (hb4.mono hB3.size)
  have hT4 := hT3.keep hb4
  clear hb4 hT3 hB3
  have N5 := Bk.new w4 32 ZH
  have hth : (w4.alloc (.cells ZH 32)).there w4.heap.size 0 HL.toArray.size := N5.there _ (by rw [List.size_toArray, l1, z3]; exact Nat.le_refl _)
  have hB5 : Below w4.heap.size w4 ((w4.alloc (.cells ZH 32)).setCells w4.heap.size 0 HL) := Below.setCells (Nat.le_refl _) _ _ _ ((Below.refl _ _).alloc (Nat.le_refl _) _)
  have K5 : Bk ((w4.alloc (.cells ZH 32)).setCells w4.heap.size 0 HL) w4.heap.size 32 HL.toArray := Bk.setAll (xs := HL.toArray) N5 (by rw [List.size_toArray, l1, z3])
  go_upto_region 5 with (refine wpList_store_mid rfl 32 (.tmp 3) (.tmp 31) rfl w4.heap.size 0 HL.toArray rfl rfl hth l2 l3 ?_)
  refine wp_any (fun W => Below w.heap.size w W ∧ Bk W w4.heap.size 32 HL.toArray ∧ Tre W p lo F r0 [g0]) ⟨hB4.trans (hB5.mono hB4.size), K5, hT4.keep hB5⟩ ?_
  have hk : w.heap.size ≤ w4.heap.size := hB4.size
  have hFk : ∀ k, F k → k < w4.heap.size := fun k hk => (hT4.lt hk).2
  clear N5 hth hB5 K5 hT4 hB4
  generalize w4.heap.size = k3 at *
  clear w4
  rintro W5 ⟨hB5, K5, hT5⟩
  have HK5 := Lib.hid K5
  have HB5 := Lib.hid hB5
  have HT5 := Lib.hid hT5
  clear hB5 hT5
  go_wp2_with (first | (refine wpList_load_row rfl 32 (.tmp 3) rfl k3 rfl 32 HL.toArray (0, 0) _ K5 Tryd.underlying32 rfl l2 ?_) | fail)
  refine (HA1.out W5 p lo F HT5.out HB5.out).mono ?_
  rintro e w6 ⟨rfl, F6, hT6, hb6, hn6⟩
  have hB6 : Below w.heap.size w w6 := HB5.out.trans (hb6.below HB5.out.size (fun k hk => Nat.le_trans hlo (HT5.out.lt hk).1))
  have K6 := hb6.keep HK5.out (fun hc => by have := hFk _ hc; omega)
  have hF6 : ¬ F6 k3 := fun hc => by
    rcases hn6 _ hc with h | h
    · have := hFk _ h; omega
    · have := HK5.out.lt; omega
  have HB6 := Lib.hid hB6
  have HT6 := Lib.hid hT6
  clear K5 hb6 hn6 hB6 hT6
  go_wp2_with (first | (refine wpList_load_row rfl 32 (.tmp 3) rfl k3 rfl 32 HL.toArray (0, 0) _ K6 Tryd.underlying32 rfl l2 ?_) | fail)
  refine (HA2.out w6 p lo F6 HT6.out HB6.out).mono ?_
  rintro e w7 ⟨rfl, F7, hT7, hb7, hn7⟩
  have hB7 : Below w.heap.size w w7 := HB6.out.trans (hb7.below HB6.out.size (fun k hk => Nat.le_trans hlo (HT6.out.lt hk).1))
  have HB7 := Lib.hid hB7
  have HT7 := Lib.hid hT7
  clear K6 hb7 hn7 hB7 hT7
  go_wp2_with fail
  refine (HG1.out w7 p lo F7 HT7.out).mono ?_
  rintro e w8 ⟨rfl, hb8⟩
  have HB8 := Lib.hid (HB7.out.trans (hb8.mono HB7.out.size))
  have HT8 := Lib.hid (HT7.out.keep hb8)
  clear hb8
  go_wp2_with fail
  refine (HG1.out w8 p lo F7 HT8.out).mono ?_
  rintro e w9 ⟨rfl, hb9⟩
  have HB9 := Lib.hid (HB8.out.trans (hb9.mono HB8.out.size))
  have HT9 := Lib.hid (HT8.out.keep hb9)
  clear hb9
  go_wp2_with fail
  refine (HOF.out w9).mono ?_
  rintro e w10 ⟨rfl, hb10⟩
  have HB10 := Lib.hid (HB9.out.trans (hb10.mono HB9.out.size))
  have HT10 := Lib.hid (HT9.out.keep hb10)
  clear hb10
  go_wp2_with fail
  refine (HON.out w10 p lo F7 HT10.out).mono ?_
  rintro e w11 ⟨rfl, rfl⟩
  go_wp2_with fail
  refine (HMD.out w11 p lo F7 HT10.out).mono ?_
  rintro e w12 ⟨rfl, hb12⟩
  have HB12 := Lib.hid (HB10.out.trans (hb12.mono HB10.out.size))
  have HT12 := Lib.hid (HT10.out.keep hb12)
  clear hb12
  go_wp2_with fail
  refine (HNX.out w12 p lo F7 HT12.out).mono ?_
  rintro e w13 ⟨rfl, hb13⟩
  have HB13 := Lib.hid (HB12.out.trans (hb13.mono HB12.out.size))
  clear hb13
  go_wp2_with fail
  go_ret
  exact ⟨rfl, HB13.out⟩
end Go.Proofs.YtljfhabhenaapaaDoor
