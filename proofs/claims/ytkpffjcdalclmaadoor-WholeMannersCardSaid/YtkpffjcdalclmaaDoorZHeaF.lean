/- The contract of package head's Read. -/
import Derived.Test.YtkpffjcdalclmaaDoorZHeaZ
import Derived.Test.YtkpffjcdalclmaaDoorZHeaE
import Derived.Laws.ResultCell
namespace Go.Proofs.YtkpffjcdalclmaaDoor
open Go.RowKit
set_option linter.unusedVariables false
theorem zero_hd (w : World) : (zeroValue 53).run Tryd.prog w = .ok (.agg (hdA hd0)) w := by kernel_rfl
theorem hd_ret {P : Func} {a : Act} {W : World} {g nm k : Nat} {A : Array Value} {v : Value} (hp : P.results = #[ResultVar.cell nm 53, ResultVar.tmp k]) (hd : a.defers = []) (hv : a.tmps.getD nm undef = .pointer (some ⟨g, 0, none⟩)) (hk : a.tmps.getD k undef = v) (hs : A.size = 68) (hR : Bk W g 53 A) {K : Ending → World → Prop} (hK : K (.returned (.tuple #[.agg A, v])) W) :
    bodyPost Tryd.prog P K Exit.ret a W := by
  have h1 := run_loadVar_row (P := Tryd.prog) W g 53 53 A (0, 0) _ hR Tryd.underlying53 rfl (by rw [hs]; exact hd_info)
  refine bodyPost_ret (v := .tuple #[.agg A, v]) ?_ hd hK
  rw [results_cell_tmp hp, hv, hk]
  show ((asAddr (.pointer (some ⟨g, 0, none⟩))).run Tryd.prog W).andThen _ = _
  simp only [asAddr, Sem.run_pure, Result.andThen_ok, h1]
set_option maxRecDepth 100000 in
set_option maxHeartbeats 2000000 in
theorem read_bad (s : Option Addr) (n c : Nat) (w : World) (h : n ≠ 80) :
    Calls Tryd.prog 88 #[.slice s n c] w fun e w' => e = .returned (.tuple #[hdv hd0, .int .i64 6]) ∧ Below w.heap.size w w' := by
  have hd : ((n : Int) != 80) = true := by simp; omega
  have hzv := zero_hd
  have has := hdA_size hd0_is
  have hone := hdA_one hd0
  show Calls Tryd.prog _ _ w fun e w' => e = .returned (.tuple #[.agg (hdA hd0), .int .i64 6]) ∧ _
  generalize hdA hd0 = A at *
  go_enter Tryd.func88, Tryd.ntmps88
  have K0 : Bk (w.alloc (.cells A 53)) w.heap.size 53 A := Bk.new _ _ _
  have hB := (Below.refl w.heap.size w).alloc (Nat.le_refl _) (.cells A 53)
  go_wp2_with (refine wpList_store_mid rfl 53 (.tmp 2) (.tmp 8) rfl w.heap.size 0 A rfl rfl (by rw [has]; exact K0.there 68 (by rw [has]; exact Nat.le_refl _)) (by rw [has]; exact hd_info) hone ?_)
  exact hd_ret rfl rfl rfl rfl has (K0.setAll rfl) ⟨rfl, Below.setCells (Nat.le_refl _) _ _ _ hB⟩
theorem hd_store (g : Nat) (A : Array Value) (w : World) (h1 : A.all (·.oneCell') = true) (hs : A.size = 68) (h : w.there g 0 68) : (storeCells ⟨g, 0, none⟩ A.toList).run Tryd.prog w = .ok () (w.setCells g 0 A.toList) := by
  have hl : A.toList.length = 68 := by rw [Array.length_toList, hs]
  have e := run_storeCells_cells (P := Tryd.prog) g 0 A.toList 0 w (fun j hj => by simpa using (h j (by omega)).1) (fun j hj => by simpa using (h j (by omega)).2) (fun v hv => by
    have := Array.all_eq_true_iff_forall_mem.1 h1 v (by simpa using hv)
    simpa using this)
  simpa using e
theorem hd_built (m0 m1 m2 m3 : Nat) : ((((hdA hd0).setIfInBounds 0 (.int .u32 (m0 : Int))).setIfInBounds 65 (.int .u32 (m1 : Int))).setIfInBounds 66 (.int .u32 (m2 : Int))).setIfInBounds 67 (.int .u32 (m3 : Int)) = hdA ⟨m0, zeros 32, zeros 32, m1, m2, m3⟩ := by
  unfold hdA hdL hd0
  rfl
theorem hd_ne : ¬ (hdA hd0 = #[]) := by
  intro h
  have e := congrArg Array.size h
  rw [hdA_size hd0_is] at e
  simp at e
theorem splice_hd1 (m0 m1 m2 m3 : Nat) (z r p : List Nat) (hz : z.length = 32) (hp : p.length = 32) : (splice (hdA ⟨m0, z, r, m1, m2, m3⟩).toList 1 (p.map byteV)).toArray = hdA ⟨m0, p, r, m1, m2, m3⟩ := by
  have e := splice_mid [u32V m0] (z.map byteV) (r.map byteV ++ [u32V m1, u32V m2, u32V m3]) (p.map byteV) 0 (by simp [hz, hp])
  have e2 : splice (z.map byteV) 0 (p.map byteV) = p.map byteV := by unfold splice; rw [List.take_zero, List.drop_of_length_le (by simp [hz, hp])]; simp
  rw [e2] at e
  exact congrArg List.toArray e
theorem splice_hd2 (m0 m1 m2 m3 : Nat) (q z r : List Nat) (hq : q.length = 32) (hz : z.length = 32) (hr : r.length = 32) : (splice (hdA ⟨m0, q, z, m1, m2, m3⟩).toList 33 (r.map byteV)).toArray = hdA ⟨m0, q, r, m1, m2, m3⟩ := by
  have e := splice_mid (u32V m0 :: q.map byteV) (z.map byteV) [u32V m1, u32V m2, u32V m3] (r.map byteV) 0 (by simp [hz, hr])
  have e2 : splice (z.map byteV) 0 (r.map byteV) = r.map byteV := by unfold splice; rw [List.take_zero, List.drop_of_length_le (by simp [hz, hr])]; simp
  rw [e2] at e
  have el : (u32V m0 :: q.map byteV).length + 0 = 33 := by simp [hq]
  rw [el] at e
  have ea : (hdA ⟨m0, q, z, m1, m2, m3⟩).toList = (u32V m0 :: q.map byteV) ++ (z.map byteV ++ [u32V m1, u32V m2, u32V m3]) := by simp [hdA, hdL]
  have eb : hdA ⟨m0, q, r, m1, m2, m3⟩ = ((u32V m0 :: q.map byteV) ++ (r.map byteV ++ [u32V m1, u32V m2, u32V m3])).toArray := by simp [hdA, hdL]
  rw [ea, eb, e]
theorem by_one (xs : List Nat) : ∀ v ∈ xs.map byteV, v.oneCell' = true := by intro v hv; simp only [List.mem_map] at hv; obtain ⟨x, _, rfl⟩ := hv; rfl
theorem bs_drop {w : World} {B b o c : Nat} {xs : List Nat} (h : BsV w B (.slice (some ⟨b, o, none⟩) xs.length c) xs) (k : Nat) (hk : k ≤ xs.length) (hb : b < B) (hc : ∀ i, i < xs.length → w.cell? ⟨b, o + i, none⟩ = some (.int .u8 ((nth xs i : Nat) : Int))) (n d : Nat) (hn : n = xs.length - k) (hd : d = c - k) : BsV w B (.slice (some ⟨b, o + k, none⟩) n d) (xs.drop k) := by
  obtain ⟨s, cap, e, h1, h2, h3, h4⟩ := h
  cases e
  refine ⟨_, _, by rw [List.length_drop, hn], by rw [List.length_drop]; omega, by omega, fun x hx => h3 x (List.mem_of_mem_drop hx), fun _ => ⟨b, o + k, rfl, ?_, fun i hi => ?_⟩⟩
  · exact hb
  · rw [List.length_drop] at hi
    have e := hc (k + i) (by omega)
    have e2 : nth (xs.drop k) i = nth xs (k + i) := by unfold nth; rw [List.getD, List.getD, List.getElem?_drop]
    rw [e2, Nat.add_assoc]
    exact e
set_option maxRecDepth 100000 in
set_option maxHeartbeats 4000000 in
theorem read_good (v : Value) (xs : List Nat) (w : World) (hv : BsV w w.heap.size v xs) (h80 : xs.length = 80) :
    Calls Tryd.prog 88 #[v] w fun e w' => e = .returned (.tuple #[hdv (hOf xs), .int .i64 0]) ∧ Below w.heap.size w w' := by
  have hv0 := hv
  obtain ⟨s, c, rfl, h1, h2, hx, hat⟩ := hv
  obtain ⟨b, o, rfl, hb, hc⟩ := hat (by intro h; rw [h] at h80; simp at h80)
  have hkp := fun W (h : Below w.heap.size w W) k n d hk hn hd => bs_drop (xs := xs) (k := k) (n := n) (d := d) (hv0.keep h (Nat.le_refl _)) hk hb (fun i hi => (h.cell (p := ⟨b, o + i, none⟩) hb).trans (hc i hi)) hn hd
  rw [h80] at hkp h1
  have HN0 := Lib.hid (fun W (h : Below w.heap.size w W) => number_any _ xs w.heap.size W (hv0.keep h (Nat.le_refl _)) (by omega))
  have HN1 := Lib.hid (fun W (h : Below w.heap.size w W) => number_any _ (xs.drop 68) w.heap.size W (hkp W h 68 12 (c - 68) (by omega) (by omega) rfl) (by rw [List.length_drop]; omega))
  have HN2 := Lib.hid (fun W (h : Below w.heap.size w W) => number_any _ (xs.drop 72) w.heap.size W (hkp W h 72 8 (c - 72) (by omega) (by omega) rfl) (by rw [List.length_drop]; omega))
  have HN3 := Lib.hid (fun W (h : Below w.heap.size w W) => number_any _ (xs.drop 76) w.heap.size W (hkp W h 76 4 (c - 76) (by omega) (by omega) rfl) (by rw [List.length_drop]; omega))
  rw [h80] at HN0 ⊢
  have HO : Hid (hOf xs = ⟨n4 xs, (xs.drop 4).take 32, (xs.drop 36).take 32, n4 (xs.drop 68), n4 (xs.drop 72), n4 (xs.drop 76)⟩) := rfl
  have HOI := Lib.hid (hOf_is h80 hx)
  have hs3 : (hdA (hOf xs)).size = 68 := hdA_size HOI.out
  have hone3 := hdA_one (hOf xs)
  show Calls Tryd.prog _ _ w fun e w' => e = .returned (.tuple #[.agg (hdA (hOf xs)), .int .i64 0]) ∧ _
  obtain ⟨A3, hA3⟩ : ∃ A3, A3 = hdA (hOf xs) := ⟨_, rfl⟩
  rw [← hA3] at hs3 hone3 ⊢
  have HA3 := Lib.hid hA3
  clear hA3
  generalize n4 xs = m0 at *
  generalize n4 (xs.drop 68) = m1 at *
  generalize n4 (xs.drop 72) = m2 at *
  generalize n4 (xs.drop 76) = m3 at *
  have HC := Lib.hid hc
  have HX := Lib.hid hx
  have H80 := Lib.hid h80
  have g68 : ¬ c = 68 := by omega
  have g72 : ¬ c = 72 := by omega
  have g76 : ¬ c = 76 := by omega
  have g4 : ¬ c = 4 := by omega
  have g36 : ¬ c = 36 := by omega
  have hzv := zero_hd
  have has0 := hdA_size hd0_is
  obtain ⟨A, hA⟩ : ∃ A, A = hdA hd0 := ⟨_, rfl⟩
  have hne := hd_ne
  have hset := hd_built m0 m1 m2 m3
  obtain ⟨A1, hA1⟩ : ∃ A1, A1 = hdA ⟨m0, zeros 32, zeros 32, m1, m2, m3⟩ := ⟨_, rfl⟩
  rw [← hA1, ← hA] at hset
  rw [← hA] at hzv has0 hne
  have hA1s : A1.size = 68 := by rw [hA1]; rfl
  have hone1 : A1.all (·.oneCell') = true := by rw [hA1]; exact hdA_one _
  have HA1 := Lib.hid hA1
  clear hA1
  have HA := Lib.hid hA
  clear hc hx h80 hat hv0 hkp hA
  go_enter Tryd.func88, Tryd.ntmps88
  go_upto_region 3 with fail
  refine wp_any (fun W => Below w.heap.size w W ∧ Bk W w.heap.size 53 A) ⟨(Below.refl w.heap.size w).alloc (Nat.le_refl _) (.cells A 53), Bk.new _ _ _⟩ ?_
  rintro W ⟨hW, K⟩
  have hW0 := Lib.hid hW
  have hWA : Below w.heap.size w (W.alloc (.cells A 53)).drew.drew.drew.drew.drew := (hW.alloc hW.size _).drew.drew.drew.drew.drew
  have hKA : Bk (W.alloc (.cells A 53)).drew.drew.drew.drew.drew w.heap.size 53 A := K.alloc _
  have hRA : Bk (W.alloc (.cells A 53)).drew.drew.drew.drew.drew W.heap.size 53 A := Bk.new _ _ _
  have hst := hd_store W.heap.size A1 _ hone1 hA1s (hRA.there 68 (by rw [has0]; exact Nat.le_refl _))
  have hWA := Lib.hid hWA
  clear hW
  go_region_law (first
    | (go_simp
       go_at_call 100
       (first | with_reducible refine (HN0.out _ ?_).mono ?_ | with_reducible refine (HN1.out _ ?_).mono ?_ | with_reducible refine (HN2.out _ ?_).mono ?_ | with_reducible refine (HN3.out _ ?_).mono ?_)
       · repeat' (first | with_reducible exact Below.refl _ _ | with_reducible exact hW0.out | with_reducible assumption | with_reducible refine Below.drew ?_ | with_reducible refine Below.alloc ?_ ?_ _ | with_reducible exact Nat.le_refl _ | exact hW0.out.size | omega | (simp; done) | (simp; omega) | (simp [World.drew]; done) | (simp [World.drew]; omega))
       rintro e w6 ⟨rfl, rfl⟩))
  all_goals
    clear hst
    go_upto_region 4 with fail
    refine wp_any (fun V => Below w.heap.size w V ∧ Bk V w.heap.size 53 A ∧ Bk V W.heap.size 53 A1) ⟨Below.setCells hW0.out.size _ _ _ hWA.out, rowFar hKA (by have := K.lt; omega) _ _, hRA.setAll (by rw [hA1s, has0])⟩ ?_
    have hgle := hW0.out.size
    have hglt : w.heap.size < W.heap.size := K.lt
    clear hWA hKA hRA hW0 K
    generalize W.heap.size = g at *
    rintro V ⟨hV, KV, RV⟩
    have hi5 : (Tryd.prog.info? 5).map (·.size) = some 1 := by kernel_rfl
    have HL4 : Hid (((xs.drop 4).take 32).length = 32) := by show _ = _; have := H80.out; rw [List.length_take, List.length_drop]; omega
    have HL36 : Hid (((xs.drop 36).take 32).length = 32) := by show _ = _; have := H80.out; rw [List.length_take, List.length_drop]; omega
    have HS4 := Lib.hid (copy_src (wr := V) (j := 4) (r := 32) (q := 32) (o := o + 4) (xs := xs) hV hb (fun i hi => by have := HC.out (4 + i) (by have := H80.out; omega); rw [Nat.add_assoc]; exact this) (Nat.le_refl _))
    have HV := Lib.hid hV
    clear hV
    go_still_tail 4, (by kernel_rfl)
    change wpList _ _ _ _ _ V.drew
    refine wpList_copy_splice rfl (.tmp 22) (.tmp 24) 32 32 rfl 5 Tryd.underlying32 hi5 (some ⟨g, 1, none⟩) (some ⟨b, o + 4, none⟩) 32 32 76 (c - 4) rfl rfl g 1 A1.toList 53 RV.drew (((xs.drop 4).take 32).map byteV) (by rw [List.length_map, HL4.out]; rfl) (fun _ => ⟨rfl, _, rfl, HS4.out⟩) (by rw [List.length_map, HL4.out, Array.length_toList, hA1s]; omega) (by_one _) g V (Below.refl g V).drew (Nat.le_refl _) ?_
    intro W2 HG2 HB2
    have hV2 := HV.out.trans (HB2.mono hgle)
    have K2 := KV.below HB2 hglt
    have R2 : Bk W2 g 53 (hdA ⟨m0, (xs.drop 4).take 32, zeros 32, m1, m2, m3⟩) := by
      have e := HG2.out
      rw [HA1.out] at e
      have e2 := splice_hd1 m0 m1 m2 m3 (zeros 32) (zeros 32) ((xs.drop 4).take 32) rfl HL4.out
      show _ = some (Obj.cells (hdA _) _ _)
      rw [← e2]
      exact e
    have HS36 := Lib.hid (copy_src (wr := W2) (j := 36) (r := 32) (q := 32) (o := o + 36) (xs := xs) hV2 hb (fun i hi => by have := HC.out (36 + i) (by have := H80.out; omega); rw [Nat.add_assoc]; exact this) (Nat.le_refl _))
    have HV2 := Lib.hid hV2
    have HI1 : Hid (IsHd ⟨m0, (xs.drop 4).take 32, zeros 32, m1, m2, m3⟩) := by
      have k := HOI.out
      rw [HO.out] at k
      exact ⟨k.v, k.pl, k.px, rfl, zeros_lt 32, k.t, k.b, k.n⟩
    have hs2 := hdA_size HI1.out
    have HE2 : Hid ((splice (hdA ⟨m0, (xs.drop 4).take 32, zeros 32, m1, m2, m3⟩).toList 33 (((xs.drop 36).take 32).map byteV)).toArray = A3) := by
      show _ = _
      rw [HA3.out, HO.out]
      exact splice_hd2 m0 m1 m2 m3 _ (zeros 32) _ HL4.out rfl HL36.out
    generalize hdA ⟨m0, (xs.drop 4).take 32, zeros 32, m1, m2, m3⟩ = A2 at *
    clear HG2 HB2 hV2 HS4 RV KV HV
    go_upto_region 5 with fail
    go_still_tail 4, (by kernel_rfl)
    change wpList _ _ _ _ _ W2.drew
    refine wpList_copy_splice rfl (.tmp 27) (.tmp 29) 32 32 rfl 5 Tryd.underlying32 hi5 (some ⟨g, 33, none⟩) (some ⟨b, o + 36, none⟩) 32 32 44 (c - 36) rfl rfl g 33 A2.toList 53 R2.drew (((xs.drop 36).take 32).map byteV) (by rw [List.length_map, HL36.out]; rfl) (fun _ => ⟨rfl, _, rfl, HS36.out⟩) (by rw [List.length_map, HL36.out, Array.length_toList, hs2]; omega) (by_one _) g W2 (Below.refl g W2).drew (Nat.le_refl _) ?_
    intro W3 HG3 HB3
    have hV3 := HV2.out.trans (HB3.mono hgle)
    have K3 := K2.below HB3 hglt
    have R3 : Bk W3 g 53 A3 := by
      have e := HG3.out
      rw [HE2.out] at e
      exact e
    clear HG3 HB3 HS36 R2 K2 HV2 HE2
    go_wp2_with (first
      | (refine wpList_load_row rfl 53 (.tmp 4) rfl g rfl 53 A3 (0, 0) _ R3 Tryd.underlying53 rfl (by rw [hs3]; exact hd_info) ?_)
      | (refine wpList_store_mid rfl 53 (.tmp 2) (.tmp 31) rfl w.heap.size 0 A3 rfl rfl (by rw [hs3]; exact K3.there 68 (by rw [has0]; exact Nat.le_refl _)) (by rw [hs3]; exact hd_info) hone3 ?_))
    exact hd_ret rfl rfl rfl rfl hs3 (K3.setAll (by rw [hs3, has0])) ⟨rfl, Below.setCells (Nat.le_refl _) _ _ _ hV3⟩
end Go.Proofs.YtkpffjcdalclmaaDoor
