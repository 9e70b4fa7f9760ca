/-
  What is proved: TracePlays holds for every input. No condition.
-/
import Derived.Test.YtcedljfdnbenoaaTrR
namespace Go.Proofs.Ytcedljfdnbenoaa.tracePlays
open Go.ChangeShapes Go.WideShapes Go.ChangeAt Go.RowKit
set_option linter.unusedVariables false

theorem own : ownKnob Try.prog.godebug = none := by kernel_rfl
theorem laidOut : laidOutB Try.prog = true := by kernel_rfl
set_option linter.unusedSimpArgs false

theorem pl_at {L : List OneM} {i : Nat} {q : OneM} (hi : L[i]? = some q) : (L.map (·.p))[i]? = some q.p := by rw [List.getElem?_map, hi]; rfl
theorem op_range {w : World} {q : Nat} {t : TypeId} {o : OpM} (K : Bk w q t (opL o).toArray) : w.rangeAt q 0 (opL o) := fun j v hv => by
  rw [Nat.zero_add, K.cell, List.getElem?_toArray]
  exact hv
theorem op_size : (Try.prog.info? 58).map (·.size) = some 4 := by kernel_rfl
theorem op_sz (o : OpM) : (Try.prog.info? 58).map (·.size) = some (opL o).length := op_size
theorem op_szA (o : OpM) : (Try.prog.info? 58).map (·.size) = some (opL o).toArray.size := op_size
theorem op_ones (o : OpM) : (opL o).toArray.all (·.oneCell') = true := all_oneCell_toArray (opL_one o)
theorem ms2_list (k : Int) (v : Value) : (ms2 k v).toList = (msz.toList.set 0 (.int .i64 k)).set 3 v := by unfold ms2 ms1; simp
theorem msz_ones : ∀ v ∈ msz.toList, v.oneCell' = true := by
  have : msz.toList.all (·.oneCell') = true := by kernel_rfl
  exact fun v hv => List.all_eq_true.1 this v hv
theorem ms2_ones (k : Int) (s : Option Addr) (n c : Nat) : ∀ v ∈ (msz.toList.set 0 (.int .i64 k)).set 3 (.slice s n c), v.oneCell' = true := by
  intro v hv
  rcases List.mem_or_eq_of_mem_set hv with h | rfl
  · rcases List.mem_or_eq_of_mem_set h with h | rfl
    · exact msz_ones v h
    · rfl
  · rfl
theorem ms2_len (k : Int) (v : Value) : ((msz.toList.set 0 (.int .i64 k)).set 3 v).length = 106 := by rw [List.length_set, List.length_set]; rfl
theorem ms2_made (k : Int) (s : Option Addr) (n c : Nat) (w : World) : (storeCells ⟨w.heap.size, 0, none⟩ ((msz.toList.set 0 (.int .i64 k)).set 3 (.slice s n c))).run Try.prog (w.alloc (.cells msz 44)) = .ok () ((w.alloc (.cells msz 44)).setCells w.heap.size 0 ((msz.toList.set 0 (.int .i64 k)).set 3 (.slice s n c))) ∧ Bk ((w.alloc (.cells msz 44)).setCells w.heap.size 0 ((msz.toList.set 0 (.int .i64 k)).set 3 (.slice s n c))) w.heap.size 44 (ms2 k (.slice s n c)) ∧ Below w.heap.size w ((w.alloc (.cells msz 44)).setCells w.heap.size 0 ((msz.toList.set 0 (.int .i64 k)).set 3 (.slice s n c))) := by
  refine ⟨cells_store w.heap.size _ 106 _ (ms2_ones k s n c) (ms2_len _ _) (Bk.there (Bk.new w _ msz) 106 (by show 106 ≤ msz.size; exact Nat.le_refl _)), ?_, Below.setCells (Nat.le_refl _) _ _ _ ((Below.refl _ _).alloc (Nat.le_refl _) _)⟩
  have := Bk.setAll (xs := ms2 k (.slice s n c)) (Bk.new w 44 msz) (by unfold ms2 ms1; simp)
  rw [ms2_list] at this
  exact this
theorem ms2_szL (k : Int) (s : Option Addr) (n c : Nat) : (Try.prog.info? 44).map (·.size) = some (ms2 k (.slice s n c)).toList.length := by
  rw [ms2_list, ms2_len]
  kernel_rfl
theorem Bk.there_at {W : World} {b : Nat} {t : TypeId} {T : Array Value} (K : Bk W b t T) {o n : Nat} (h : o + n ≤ T.size) : W.there b o n := fun j hj => ⟨by
  rw [K.cell]
  have : o + j < T.size := by omega
  simp [this], K.frozen _⟩
theorem idz_ones : idz.all (·.oneCell') = true := by kernel_rfl
theorem id_szA : (Try.prog.info? 36).map (·.size) = some idz.size := by kernel_rfl
theorem id_szL (z : I32) : (idL z).toArray.size = 32 := by rw [List.size_toArray]; exact idR_ok.len z
theorem id_szB (z : I32) : (Try.prog.info? 36).map (·.size) = some (idL z).toArray.size := by rw [List.size_toArray]; exact id_size z
theorem id_onesB (z : I32) : (idL z).toArray.all (·.oneCell') = true := all_oneCell_toArray (idR_ok.one z)
def op0 : OpM := ⟨0, 0, 0, none, 0, []⟩
theorem op_there {W : World} {q : Nat} {t : TypeId} {a o : OpM} (K : Bk W q t (opL a).toArray) : W.there q 0 (opL o).toArray.size := K.there 4 (Nat.le_refl _)
set_option maxRecDepth 100000 in
set_option maxHeartbeats 16000000 in
theorem walk (X : List OpM) (v : Value) (w : World) (h : RowV opR w w.heap.size v X) (hok : ∀ x ∈ X, InI x.kd ∧ InI x.pr ∧ InI x.mg ∧ BsV w w.heap.size x.nv x.nm) :
    Calls Try.prog 6 #[v] w fun e w' => e = .returned (.bool true) ∧ Below w.heap.size w w' := by
  have h63 : X.length < 9223372036854775808 := by obtain ⟨_, _, _, h1, h2, _⟩ := h; omega
  obtain ⟨s0, c, rfl⟩ : ∃ s c, v = .slice s X.length c := h.slice
  have hrow := row_at h
  obtain ⟨n, hn⟩ : ∃ n, n = X.length := ⟨_, rfl⟩
  rw [← hn] at hrow h63 ⊢
  have HR : Hid (∀ k, k < n → ∃ (x : OpM) (b o : Nat), X[k]? = some x ∧ s0 = some ⟨b, o, none⟩ ∧ b < w.heap.size ∧ w.rangeAt b (o + k * 4) (opL x)) := hrow
  have HOK := Lib.hid hok
  clear hrow hn h hok
  have hlk := looks_any w
  have hz := msz_zero
  have hne := msz_ne
  have hzi := idz_zero
  have hnei := idz_ne
  by_cases h100 : 100 < n
  · have d0 : decide ((100 : Int) < (n : Int)) = true := decide_eq_true (by omega)
    go_enter Try.func6, Try.ntmps6
    go_wp2_with fail
    refine hlk.mono ?_
    rintro e w1 ⟨rfl, hb1⟩
    go_wp2_with fail
    go_ret
    exact ⟨rfl, hb1⟩
  have d0 : decide ((100 : Int) < (n : Int)) = false := decide_eq_false (by omega)
  go_enter Try.func6, Try.ntmps6
  go_wp2_with fail
  refine hlk.mono ?_
  rintro e w1 ⟨rfl, hb1⟩
  have HB1 := Lib.hid hb1
  clear hlk hb1
  go_upto_region 6 with fail
  obtain ⟨g, hg⟩ : ∃ g, g = w1.heap.size := ⟨_, rfl⟩
  rw [← hg]
  refine wp_any (fun W => Pl w W g 0 (fun _ => False) (.slice none 0 0) [] bk0) ⟨invP_0, by rw [hg]; exact (((HasF.new w1 0).before (F' := fun q => FL (.slice none 0 0) [] q ∨ False) (fun q hq => hq.elim (fun hq => hq.elim (fun e => absurd e (slb_none _ _ _)) (fun ⟨_, h, _⟩ => (by cases h))) (fun e => e.elim))).rebase HB1.out), .inl ⟨rfl, rfl⟩, fun q hq => (by cases hq), fun q hq => (by cases hq)⟩ ?_
  clear HB1 hg
  clear w1
  intro W0 h0
  have H0 := Lib.hid h0
  clear h0
  go_wp2_with fail
  go_loopw [4, 28] (fun v i wr => ∃ (k : Nat) (va : Value) (L : List OneM) (M : BkM), k ≤ n ∧ v = va ∧ i = .int .i64 k ∧ L.length ≤ k ∧ Hid (Pl w wr g (16 * k) (fun _ => False) va L M)) (fun _ i _ => n - (intOf i).toNat)
  case atStart => exact ⟨0, _, [], _, Nat.zero_le _, rfl, rfl, Nat.le_refl _, H0⟩
  case round =>
    obtain ⟨k, va, L, M, hk, rfl, rfl, hLk, HP⟩ := hrel
    clear H0
    by_cases hlt : k < n
    · obtain ⟨x, b, o, hkx, rfl, hbw, hrg⟩ := HR.out k hlt
      have j1 : decide ((k : Int) < (n : Int)) = true := decide_eq_true (by omega)
      have hrg := rr_below hrg HP.out.F.below hbw
      have hbr : b < wr.heap.size := Nat.lt_of_lt_of_le hbw HP.out.F.below.size
      obtain ⟨hkI, hpI, hmI, hnm⟩ := HOK.out x (List.mem_of_getElem? hkx)
      obtain ⟨Wn, hWn⟩ : ∃ Wn, Wn = wr.alloc (.cells #[.int .i64 0, .int .i64 0, .int .i64 0, .slice none 0 0] 58) := ⟨_, rfl⟩
      have hKn : Bk Wn wr.heap.size 58 (opL op0).toArray := by rw [hWn]; exact Bk.new _ _ _
      have hth := op_there (o := x) hKn
      have hK6 : Bk (Wn.setCells wr.heap.size 0 (opL x)) wr.heap.size 58 (opL x).toArray := Bk.setAll (xs := (opL x).toArray) hKn rfl
      have hB6 : Below wr.heap.size wr (Wn.setCells wr.heap.size 0 (opL x)) := Below.setCells (Nat.le_refl _) _ _ _ (by rw [hWn]; exact (Below.refl _ _).alloc (Nat.le_refl _) _)
      have hP6 := HP.out.more (E' := fun q => q = wr.heap.size) hB6 (fun q e => .inr ⟨by rw [e]; exact Nat.le_refl _, by rw [e]; exact hK6.lt⟩)
      rw [hWn] at hth
      clear hkx hKn
      go_upto_region 10 with (first | (refine wpList_load_mid rfl 58 (.tmp 30) rfl b (o + k * 4) rfl (opL x) _ hrg Try.underlying58 rfl (op_sz _) ?_) | (refine wpList_store_mid rfl 58 (.tmp 6) (.tmp 31) rfl wr.heap.size 0 (opL x).toArray rfl rfl hth (op_szA _) (op_ones _) ?_))
      rw [← hWn]
      refine wp_any (fun W => Bk W wr.heap.size 58 (opL x).toArray ∧ Pl w W g (16 * k) (fun q => q = wr.heap.size) u4 L M) ⟨hK6, hP6⟩ ?_
      clear hWn hK6 hB6 hP6 hth hrg hbr HP
      generalize wr.heap.size = b6 at *
      clear Wn
      clear wr
      rintro W1 ⟨K6, hP⟩
      have HP := Lib.hid hP
      have c60 : W1.cell? ⟨b6, 0, none⟩ = some (.int .i64 x.kd) := K6.cell 0
      have c61 : W1.cell? ⟨b6, 1, none⟩ = some (.int .i64 x.pr) := K6.cell 1
      have c62 : W1.cell? ⟨b6, 2, none⟩ = some (.int .i64 x.mg) := K6.cell 2
      have c63 : W1.cell? ⟨b6, 3, none⟩ = some (.slice x.s x.nm.length x.c) := K6.cell 3
      have z6 := K6.lt
      have HK6 := Lib.hid K6
      have HNM : Hid (BsV w w.heap.size (.slice x.s x.nm.length x.c) x.nm) := hnm
      obtain ⟨ln, hln⟩ : ∃ ln, ln = x.nm.length := ⟨_, rfl⟩
      have HLN := Lib.hid hln
      rw [← hln] at c63 HNM
      obtain ⟨xs, hxs⟩ : ∃ xs, xs = x.s := ⟨_, rfl⟩
      have HXS := Lib.hid hxs
      rw [← hxs] at c63 HNM
      clear hP K6 hnm hln hxs
      by_cases h40 : 40 < ln
      · have q40 : decide ((40 : Int) < (ln : Int)) = true := decide_eq_true (by omega)
        have HB := Lib.hid HP.out.F.below
        go_wp2_with fail
        go_ret
        exact ⟨rfl, HB.out⟩
      have q40 : decide ((40 : Int) < (ln : Int)) = false := decide_eq_false (by omega)
      obtain ⟨s4, c4, hu4⟩ : ∃ s c, u4 = .slice s L.length c := HP.out.V.slice
      subst hu4
      obtain ⟨m, hm⟩ : ∃ m, m = L.length := ⟨_, rfl⟩
      have HM := Lib.hid hm
      rw [← hm] at HP hLk ⊢
      have HRL : Hid (∀ j, j < m → ∃ (q : OneM) (b f : Nat), L[j]? = some q ∧ s4 = some ⟨b, f, none⟩ ∧ b < W1.heap.size ∧ W1.rangeAt b (f + j * 6) (onL q)) := by
        have := row_at (HP.out.V.rows onR_ok)
        rw [← hm] at this
        exact this
      clear hm
      go_upto_region 13 with fail
      go_wp2_with fail
      go_loopw [7, 38] (fun a i wr => ∃ (j : Nat) (at_ : Int), j ≤ m ∧ a = .int .i64 at_ ∧ i = .int .i64 j ∧ Hid ((at_ = -1 ∧ ∀ q ∈ L.take j, q.p.id ≠ x.pr) ∨ ∃ (i : Nat) (q : OneM), at_ = (i : Int) ∧ i < m ∧ L[i]? = some q ∧ q.p.id = x.pr) ∧ Hid (Below W1.heap.size W1 wr)) (fun _ i _ => m - (intOf i).toNat)
      case atStart => exact ⟨0, -1, Nat.zero_le _, rfl, rfl, .inl ⟨rfl, fun q h => (by cases h)⟩, Below.refl _ _⟩
      case round =>
        obtain ⟨j, at_, hj, rfl, rfl, HQ, HB⟩ := hrel
        rename World => wq
        by_cases hlj : j < m
        · as_aux_lemma =>
            obtain ⟨q, ba, fa, hjq, rfl, hba, hrg⟩ := HRL.out j hlj
            have j2 : decide ((j : Int) < (m : Int)) = true := decide_eq_true (by omega)
            have hrg := rr_below hrg HB.out hba
            have hbr : ba < wq.heap.size := Nat.lt_of_lt_of_le hba HB.out.size
            obtain ⟨Wn, hWn⟩ : ∃ Wn, Wn = wq.alloc (.cells #[.int .i64 0, .bool false, .bool false, .bool false, .bool false, .slice none 0 0] 60) := ⟨_, rfl⟩
            have hKn : Bk Wn wq.heap.size 60 (onL on0).toArray := by rw [hWn]; exact Bk.new _ _ _
            have hth := on_there (o := q) hKn
            have hKq : Bk (Wn.setCells wq.heap.size 0 (onL q)) wq.heap.size 60 (onL q).toArray := Bk.setAll (xs := (onL q).toArray) hKn rfl
            have hBn : Below wq.heap.size wq (Wn.setCells wq.heap.size 0 (onL q)) := Below.setCells (Nat.le_refl _) _ _ _ (by rw [hWn]; exact (Below.refl _ _).alloc (Nat.le_refl _) _)
            have HB3 : Hid (Below W1.heap.size W1 (Wn.setCells wq.heap.size 0 (onL q))) := HB.out.trans (hBn.mono HB.out.size)
            have hTJ : L.take (j + 1) = L.take j ++ [q] := by
              rw [List.take_add_one, hjq]
              rfl
            have HTJ := Lib.hid hTJ
            have HJQ := Lib.hid hjq
            rw [hWn] at hth
            clear hjq hTJ hKn
            go_upto_region 16 with (first | (refine wpList_load_mid rfl 60 (.tmp 41) rfl ba (fa + j * 6) rfl (onL q) _ hrg Try.underlying60 rfl (on_sz _) ?_) | (refine wpList_store_mid rfl 60 (.tmp 9) (.tmp 42) rfl wq.heap.size 0 (onL q).toArray rfl rfl hth (on_szA _) (on_ones _) ?_))
            rw [← hWn]
            refine wp_any (fun W => Bk W wq.heap.size 60 (onL q).toArray ∧ Below W1.heap.size W1 W) ⟨hKq, HB3.out⟩ ?_
            clear hWn hKq hBn HB3 hth hrg hbr HB
            generalize wq.heap.size = q9 at *
            clear Wn
            clear wq
            rintro Wq ⟨Kq, hBq⟩
            have cq0 : Wq.cell? ⟨q9, 0, none⟩ = some (.int .i64 q.p.id) := Kq.cell 0
            have zq := Kq.lt
            have cq1 : Wq.cell? ⟨b6, 1, none⟩ = some (.int .i64 x.pr) := (HK6.out.keep hBq).cell 1
            have zq6 := (HK6.out.keep hBq).lt
            have HBq := Lib.hid hBq
            clear Kq hBq
            by_cases e : q.p.id = x.pr
            · have e1 : (q.p.id == x.pr) = true := by simp [e]
              have HQ' : Hid (((j : Int) = -1 ∧ ∀ q ∈ L.take (j + 1), q.p.id ≠ x.pr) ∨ ∃ (i : Nat) (q : OneM), (j : Int) = (i : Int) ∧ i < m ∧ L[i]? = some q ∧ q.p.id = x.pr) := .inr ⟨j, q, rfl, hlj, HJQ.out, e⟩
              clear HQ HTJ HJQ e
              go_wp2_with fail
              go_roundw
              case rel => exact ⟨j + 1, _, by omega, rfl, by go_num, HQ', HBq⟩
              case measure => simp [intOf]; omega
            · have e1 : (q.p.id == x.pr) = false := by simp [e]
              have HQ' : Hid ((at_ = -1 ∧ ∀ q ∈ L.take (j + 1), q.p.id ≠ x.pr) ∨ ∃ (i : Nat) (q : OneM), at_ = (i : Int) ∧ i < m ∧ L[i]? = some q ∧ q.p.id = x.pr) := by
                rcases HQ.out with ⟨h1, h2⟩ | h
                · refine .inl ⟨h1, fun z hz => ?_⟩
                  rw [HTJ.out] at hz
                  rcases List.mem_append.1 hz with h | h
                  · exact h2 z h
                  · rw [List.mem_singleton.1 h]; exact e
                · exact .inr h
              clear HQ HTJ HJQ e
              go_wp2_with fail
              go_roundw
              case rel => exact ⟨j + 1, _, by omega, rfl, by go_num, HQ', HBq⟩
              case measure => simp [intOf]; omega
        · obtain rfl : j = m := by omega
          have j2 : decide ((j : Int) < (j : Int)) = false := decide_eq_false (by omega)
          have HQ' : Hid ((at_ = -1 ∧ ∀ q ∈ L, q.p.id ≠ x.pr) ∨ ∃ (i : Nat) (q : OneM), at_ = (i : Int) ∧ i < j ∧ L[i]? = some q ∧ q.p.id = x.pr) := by
            have := HQ.out
            rw [HM.out, List.take_length] at this
            rw [HM.out]
            exact this
          have HP2 := Lib.hid (HP.out.keep HB.out)
          have HK2 := Lib.hid (HK6.out.keep HB.out)
          have c60 : wq.cell? ⟨b6, 0, none⟩ = some (.int .i64 x.kd) := HK2.out.cell 0
          have c61 : wq.cell? ⟨b6, 1, none⟩ = some (.int .i64 x.pr) := HK2.out.cell 1
          have c62 : wq.cell? ⟨b6, 2, none⟩ = some (.int .i64 x.mg) := HK2.out.cell 2
          have c63 : wq.cell? ⟨b6, 3, none⟩ = some (.slice xs ln x.c) := by rw [HLN.out, HXS.out]; exact HK2.out.cell 3
          have z6 := HK2.out.lt
          clear hlj HQ HP HK6 HB HRL
          have hrn := byR_cell (byR_of HNM.out)
          have hlnn : x.nm.length = ln := HLN.out.symm
          rw [hlnn] at hrn
          have HRN := Lib.hid hrn
          have HN256 : Hid (∀ y ∈ x.nm, y < 256) := by obtain ⟨_, _, _, _, _, h, _⟩ := HNM.out; exact h
          clear hrn hlnn
          go_upto_region 20 with fail
          go_wp2_with fail
          go_loopw [10, 53] (fun v i wr => ∃ (f : Nat) (vi : Value), f ≤ ln ∧ v = vi ∧ i = .int .i64 f ∧ Hid (MineR idR wr wq.heap.size vi ((x.nm.take f).map idN)) ∧ Hid (Below wq.heap.size wq wr)) (fun _ i _ => ln - (intOf i).toNat)
          case atStart => exact ⟨0, _, Nat.zero_le _, rfl, rfl, .inl ⟨rfl, rfl⟩, Below.refl _ _⟩
          case round =>
            obtain ⟨f, vi, hf, rfl, rfl, HMI, HBI⟩ := hrel
            rename World => wz
            have hBz : Below w.heap.size w wz := HP2.out.F.below.trans (HBI.out.mono HP2.out.F.below.size)
            by_cases hlf : f < ln
            · obtain ⟨y, bn, fn, hfy, rfl, hbn, hcy⟩ := HRN.out f hlf
              have j3 : decide ((f : Int) < (ln : Int)) = true := decide_eq_true (by omega)
              have hcy : wz.cell? ⟨bn, fn + f, none⟩ = some (.int .u8 (y : Int)) := (hBz.cell (p := ⟨bn, fn + f, none⟩) hbn).trans hcy
              have hbz : bn < wz.heap.size := Nat.lt_of_lt_of_le hbn hBz.size
              have hyl : y < 256 := HN256.out y (List.mem_of_getElem? hfy)
              have hTK : x.nm.take (f + 1) = x.nm.take f ++ [y] := by
                rw [List.take_add_one, hfy]
                rfl
              have hev : Value.agg (idz.setIfInBounds 0 (.int .u8 (y : Int))) = .agg (idR.c (idN y)).toArray := by
                rw [idN_lt hyl]
                exact congrArg Value.agg (idB_set y hyl)
              obtain ⟨v', W', hrun, hM', hb', _⟩ := appR idR_ok ((x.nm.take f).map idN) [idN y] u10 (.slice (some ⟨wz.heap.size, 0, none⟩) 1 1) wq.heap.size (wz.alloc (.cells (idR.c (idN y)).toArray idR.e)) (HMI.out.keep ((Below.refl _ _).alloc (Nat.le_refl _) _)) (Nat.le_trans HBI.out.size (by simp)) (one_rowR idR_ok (Bk.new _ _ _)) (by simp; omega)
              rw [show (x.nm.take f).map idN ++ [idN y] = (x.nm.take (f + 1)).map idN by rw [hTK]; simp] at hM'
              have HM' := Lib.hid hM'
              have HB' : Hid (Below wq.heap.size wq W') := (HBI.out.alloc HBI.out.size _).trans (hb'.below (Nat.le_trans HBI.out.size (by simp)) (fun q hq => (HMI.out.slb_lo hq).1))
              clear HMI hTK hfy hM' hb' HBI hBz
              go_wp2_with (first | (refine wpList_bsR1 idR_ok (by decide) rfl (.tmp 59) rfl (idN y) rfl ?_) | (at_builtin; refine wpList_ap 34 rfl (.tmp 57) (.tmp 60) rfl rfl rfl rfl hrun ?_))
              go_roundw
              case rel => exact ⟨f + 1, v', by omega, rfl, by go_num, HM', HB'⟩
              case measure => simp [intOf]; omega
            · obtain rfl : f = ln := by omega
              have j3 : decide ((f : Int) < (f : Int)) = false := decide_eq_false (by omega)
              have hmi := HMI.out
              rw [HLN.out, List.take_length] at hmi
              obtain ⟨s10, c10, hu⟩ : ∃ s c, u10 = .slice s (x.nm.map idN).length c := hmi.slice
              rw [List.length_map, ← HLN.out] at hu
              subst hu
              have HIDS := Lib.hid hmi
              have HP2o := HP2
              have HBIo := HBI
              have HK3 := Lib.hid (HK2.out.keep HBI.out)
              have c60 : wz.cell? ⟨b6, 0, none⟩ = some (.int .i64 x.kd) := HK3.out.cell 0
              have c61 : wz.cell? ⟨b6, 1, none⟩ = some (.int .i64 x.pr) := HK3.out.cell 1
              have c62 : wz.cell? ⟨b6, 2, none⟩ = some (.int .i64 x.mg) := HK3.out.cell 2
              have c63 : wz.cell? ⟨b6, 3, none⟩ = some (.slice xs f x.c) := by rw [HLN.out, HXS.out]; exact HK3.out.cell 3
              have z6 := HK3.out.lt
              have HLO : Hid (wq.heap.size ≤ wz.heap.size) := HBI.out.size
              clear hlf HMI HBI hmi HP2 HK2 HRN hBz
              obtain ⟨hst, K13, B13⟩ := ms2_made x.mg s10 f c10 wz
              obtain ⟨ML, hml⟩ : ∃ ML, (msz.toList.set 0 (.int .i64 x.mg)).set 3 (.slice s10 f c10) = ML := ⟨_, rfl⟩
              rw [hml] at hst K13 B13
              have hP4 := HP2o.out.more (E' := fun q => q = b6 ∨ q = wz.heap.size ∨ slb (.slice s10 f c10) q) (HBIo.out.trans (B13.mono HBIo.out.size)) (fun q e => by
                rcases e with e | e | e
                · exact .inl e
                · exact .inr ⟨by rw [e]; exact HLO.out, by rw [e]; exact K13.lt⟩
                · have := HIDS.out.slb_lo e
                  exact .inr ⟨this.1, Nat.lt_of_lt_of_le this.2.1 B13.size⟩)
              have hK4 := HK3.out.keep B13
              have hI4 := HIDS.out.keep B13
              go_upto_region 26 with fail
              refine wp_any (fun W => Bk W wz.heap.size 44 (ms2 x.mg (.slice s10 f c10)) ∧ Pl w W g (16 * k) (fun q => q = b6 ∨ q = wz.heap.size ∨ slb (.slice s10 f c10) q) (.slice s4 j c4) L M ∧ Bk W b6 58 (opL x).toArray ∧ MineR idR W wq.heap.size (.slice s10 f c10) (x.nm.map idN) ∧ wq.heap.size ≤ W.heap.size) ⟨K13, hP4, hK4, hI4, Nat.le_trans HLO.out B13.size⟩ ?_
              clear K13 hP4 hK4 hI4 B13 hst hml HP2o HBIo HK3 HIDS c60 c61 c62 c63 z6 HLO
              generalize wz.heap.size = b13 at *
              clear wz
              rintro W4 ⟨K13, hP, K6, hI, hlo⟩
              have HP := Lib.hid hP
              have HK6 := Lib.hid K6
              have HK13 := Lib.hid K13
              have HIDS := Lib.hid hI
              have HLO := Lib.hid hlo
              have c60 : W4.cell? ⟨b6, 0, none⟩ = some (.int .i64 x.kd) := K6.cell 0
              have z6 := K6.lt
              clear hP K6 K13 hI hlo
              go_upto_block 6 with fail
              go_cut [4] from 69 to 198 (fun s4 wx => ∃ (L' : List OneM) (M' : BkM), L'.length ≤ k + 1 ∧ Hid (Pl w wx g (16 * (k + 1)) (fun _ => False) s4 L' M'))
              case first =>
                have hkI := hkI
                by_cases e0 : x.kd = 0
                · as_aux_lemma =>
                    have q0 : (x.kd == 0) = true := by simp [e0]
                    have c61 : W4.cell? ⟨b6, 1, none⟩ = some (.int .i64 x.pr) := HK6.out.cell 1
                    have hN : M.n < 1000000 := by rw [HP.out.I.n, List.length_map, ← HM.out]; omega
                    have hcame := HP.out.F.came x.pr hpI hN
                    unfold bkP at hcame
                    rcases HQ'.out with ⟨rfl, hn⟩ | ⟨i, q, rfl, hij, hiq, hqe⟩
                    · have hC := HP.out.I.came_new hpI (fun o ho => by obtain ⟨q, hq, rfl⟩ := List.mem_map.1 ho; exact hn q hq)
                      rw [hC.1] at hcame
                      have HIN := Lib.hid hC.2
                      clear hC hn e0
                      go_wp2_with fail
                      refine hcame.mono ?_
                      rintro e w5 ⟨rfl, hF5, hS5⟩
                      have hQ5 := HP.out.q hF5 hS5
                      have K65 := hS5.keep (k := b6) (.inr (.inl rfl)) HK6.out
                      have c65 : w5.cell? ⟨b6, 1, none⟩ = some (.int .i64 x.pr) := K65.cell 1
                      have z65 := K65.lt
                      have hal : Below w5.heap.size w5 (w5.alloc (.cells (onL (⟨newP x.pr, none, 0⟩ : OneM)).toArray 60)) := (Below.refl _ _).alloc (Nat.le_refl _) _
                      have hQ6 := hQ5.more (E' := fun _ => False) hal (fun q e => e.elim)
                      obtain ⟨v', W6, hrun, hM6, hb6, hs6⟩ := appR onR_ok L [⟨newP x.pr, none, 0⟩] (.slice s4 j c4) (.slice (some ⟨w5.heap.size, 0, none⟩) 1 1) w.heap.size _ hQ6.V hQ6.F.below.size (one_rowR onR_ok (Bk.new _ _ _)) (by have := HM.out; simp; omega)
                      change (Builtin.append_ #[56, 56] 56 _).run Try.prog _ = _ at hrun
                      have HQ7 := Lib.hid (((hQ6.app1 hb6 hM6 hs6).less (N' := 16 * (k + 1)) (by omega)).pl (by rw [List.map_append]; exact HIN.out))
                      have hlen' : (L ++ [(⟨newP x.pr, none, 0⟩ : OneM)]).length ≤ k + 1 := by have := HM.out; rw [List.length_append]; simp; omega
                      clear hQ5 K65 hal hQ6 hM6 hb6 hs6 hF5 hS5 hcame
                      go_wp2_with (first | (refine wpList_bsR1 onR_ok (by decide) rfl (.tmp 83) rfl (⟨newP x.pr, none, 0⟩ : OneM) rfl ?_) | (at_builtin; refine wpList_ap 56 rfl (.tmp 80) (.tmp 84) rfl rfl rfl rfl hrun ?_))
                      go_meet
                      case rel => exact ⟨_, _, hlen', HQ7⟩
                    · have hC := HP.out.I.came_old (List.mem_of_getElem? (pl_at hiq))
                      rw [hqe] at hC
                      rw [hC.1, hC.2] at hcame
                      have j5 : decide ((i : Int) < 0) = false := decide_eq_false (by omega)
                      clear hC e0
                      go_wp2_with fail
                      refine hcame.mono ?_
                      rintro e w5 ⟨rfl, hF5, hS5⟩
                      have HQ7 := Lib.hid (((HP.out.q hF5 hS5).less (N' := 16 * (k + 1)) (by omega)).pl HP.out.I)
                      have hLk' : L.length ≤ k + 1 := by have := HM.out; omega
                      clear hcame hF5 hS5
                      go_wp2_with fail
                      go_meet
                      case rel => exact ⟨L, M, hLk', HQ7⟩
                have q0 : (x.kd == 0) = false := by simp [e0]
                by_cases e1 : x.kd = 1
                · as_aux_lemma =>
                    have q1 : (x.kd == 1) = true := by simp [e1]
                    have c61 : W4.cell? ⟨b6, 1, none⟩ = some (.int .i64 x.pr) := HK6.out.cell 1
                    have hgone := HP.out.F.gone x.pr hpI
                    unfold bkP at hgone
                    rcases HQ'.out with ⟨rfl, hn⟩ | ⟨i, q, rfl, hij, hiq, hqe⟩
                    · have hI := HP.out.I.gone_new (i := x.pr) (fun o ho => by obtain ⟨q, hq, rfl⟩ := List.mem_map.1 ho; exact hn q hq)
                      have HIN := Lib.hid hI
                      clear hI hn e1
                      go_wp2_with fail
                      refine hgone.mono ?_
                      rintro e w5 ⟨rfl, hF5, hS5⟩
                      have HQ7 := Lib.hid (((HP.out.q hF5 hS5).less (N' := 16 * (k + 1)) (by omega)).pl HIN.out)
                      have hLk' : L.length ≤ k + 1 := by have := HM.out; omega
                      clear hgone hF5 hS5
                      go_wp2_with fail
                      go_meet
                      case rel => exact ⟨L, _, hLk', HQ7⟩
                    · have hI := HP.out.I.gone_old (pl_at hiq)
                      have HIN := Lib.hid hI
                      have HIQ := Lib.hid hiq
                      have HQE := Lib.hid hqe
                      have j5 : decide ((0 : Int) ≤ (i : Int)) = true := decide_eq_true (by omega)
                      clear hI e1 hiq hqe
                      go_wp2_with fail
                      refine hgone.mono ?_
                      rintro e w5 ⟨rfl, hF5, hS5⟩
                      have hQ5 := HP.out.q hF5 hS5
                      obtain ⟨bb, cc, T, he, hlb, hbl, _, _, _⟩ := hQ5.V.at1 HIQ.out
                      injection he with he1 he2 he3
                      subst he1
                      clear he2 he3 cc
                      have hjc : j ≤ c4 := by
                        rcases hQ5.V with ⟨e, _⟩ | ⟨T', cap, z, e, h1, _⟩
                        · cases e
                        · injection e with _ e2 e3
                          omega
                      have hs1 := fun W => slice_to (b := bb) (m := j) (c := c4) (f := i) (by omega) W
                      have hwr1 : IntKind.i64.wrap ((i : Int) + 1) = (i : Int) + 1 := IntWalk.i64_in _ (by omega)
                      have hB4 : Below w5.heap.size w5 (w5.alloc (.cells #[] 60)).drew := ((Below.refl _ _).alloc (Nat.le_refl _) _).drew
                      have hlo5 : w.heap.size ≤ w5.heap.size := hQ5.F.below.size
                      have HM0 : Hid (MineR onR (w5.alloc (.cells #[] 60)).drew w.heap.size (.slice (some ⟨w5.heap.size, 0, none⟩) 0 0) []) := .inr ⟨w5.heap.size, 0, 0, rfl, rfl, by decide, hlo5, Bk.new _ _ _⟩
                      have HRW : Hid (∀ W, Below w5.heap.size w5 W → MineR onR W w.heap.size (.slice (some ⟨bb, 0, none⟩) j c4) L) := by
                        show ∀ _, _
                        exact fun W hb => hQ5.V.keep hb
                      have hLj : L.length = j := HM.out.symm
                      have HLJ := Lib.hid hLj
                      obtain ⟨a2, n2, c2, hs2, hr2⟩ : ∃ a2 n2 c2, (∀ W, (Instr.slice 56 (.slice (some ⟨bb, 0, none⟩) j c4) (some (.int .i64 ((i : Int) + 1))) none none).run Try.prog W = .ok (.slice a2 n2 c2) W) ∧ ∀ W, Below w5.heap.size w5 W → RowV onR W W.heap.size (.slice a2 n2 c2) (L.drop (i + 1)) := by
                        have hs2 := fun W => slice_from (b := bb) (m := j) (c := c4) (f := i + 1) (by omega) hjc W
                        have hs3 : ((i + 1 : Nat) : Int) = (i : Int) + 1 := by simp
                        rw [hs3] at hs2
                        exact ⟨_, _, _, hs2, fun W hb => row_from (HRW.out _ hb) (f := i + 1) (by rw [HLJ.out]; omega)⟩
                      have HRr2 : Hid (∀ W, Below w5.heap.size w5 W → RowV onR W W.heap.size (.slice a2 n2 c2) (L.drop (i + 1))) := hr2
                      clear hr2
                      have HR1 := Lib.hid (row_to (HRW.out _ hB4) (f := i) (by rw [HLJ.out]; omega))
                      have HB4' := Lib.hid hB4
                      have hlt4 : (L.take i).length = i := by rw [List.length_take, HLJ.out]; omega
                      have hlt5 : (L.drop (i + 1)).length = j - (i + 1) := by rw [List.length_drop, HLJ.out]
                      have HL4 := Lib.hid hlt4
                      have HL5 := Lib.hid hlt5
                      have HTW := Lib.hid hlo5
                      have HQ5 := Lib.hid hQ5
                      clear hB4 hlt4 hlt5 hlo5 hQ5 hF5 hS5 hgone hLj
                      go_upto_region 35 with fail
                      go_region_law (first
                        | (refine step_app onR_ok [] (L.take i) w.heap.size rfl (.tmp 93) (.tmp 96) rfl rfl rfl rfl HM0.out (Nat.le_trans HTW.out HB4'.out.size) HR1.out (by rw [HL4.out]; simp; omega) ?_
                           rintro v5 W5 hM5 hB5 hS5
                           rw [List.nil_append] at hM5
                           have hb5 : Below w5.heap.size w5 W5 := HB4'.out.trans (hB5.below HB4'.out.size (fun q hq => by rw [slb_some hq]; exact Nat.le_refl _))
                           have HS5 : Hid (∀ q, slb v5 q → w5.heap.size ≤ q) := by
                             show ∀ _, _
                             intro q hq
                             rcases hS5 q hq with h | h
                             · rw [slb_some h]; exact Nat.le_refl _
                             · exact Nat.le_trans HB4'.out.size h
                           have HR2 := Lib.hid (HRr2.out _ hb5)
                           have HB5' := Lib.hid hb5
                           have HM5 := Lib.hid hM5
                           clear hM5 hB5 hS5 hb5)
                        | (refine step_app onR_ok (L.take i) (L.drop (i + 1)) w.heap.size rfl (.tmp 97) (.tmp 101) rfl rfl rfl rfl HM5.out (Nat.le_trans HTW.out HB5'.out.size) HR2.out (by rw [HL4.out, HL5.out]; omega) ?_
                           rintro v6 W6 hM6 hB6 hS6
                           have hb6 : Below w5.heap.size w5 W6 := HB5'.out.trans (hB6.below HB5'.out.size HS5.out)
                           have HS6 : Hid (∀ q, slb v6 q → w5.heap.size ≤ q) := by
                             show ∀ _, _
                             intro q hq
                             rcases hS6 q hq with h | h
                             · exact HS5.out q h
                             · exact Nat.le_trans HB5'.out.size h
                           have HM6 := Lib.hid hM6
                           have HB6' := Lib.hid hb6
                           clear hM6 hB6 hS6 hb6))
                      have hI2 : InvP ((L.take i ++ L.drop (i + 1)).map (·.p)) (goneM M x.pr) := by
                        have := HIN.out
                        rw [HQE.out] at this
                        rw [List.map_append, List.map_take, List.map_drop]
                        exact this
                      have HQ7 := Lib.hid (((HQ5.out.part HB6'.out HM6.out HS6.out (fun z hz => (List.mem_append.1 hz).elim List.mem_of_mem_take List.mem_of_mem_drop)).less (N' := 16 * (k + 1)) (by omega)).pl hI2)
                      have hlen' : (L.take i ++ L.drop (i + 1)).length ≤ k + 1 := by rw [List.length_append, HL4.out, HL5.out]; omega
                      clear hI2
                      go_wp2_with fail
                      go_meet
                      case rel => exact ⟨_, _, hlen', HQ7⟩
                have q1 : (x.kd == 1) = false := by simp [e1]
                by_cases e2 : x.kd = 2
                · as_aux_lemma =>
                    have q2 : (x.kd == 2) = true := by simp [e2]
                    have hNx : f = x.nm.length := HLN.out
                    have HNX := Lib.hid hNx
                    obtain ⟨b14, hb14⟩ : ∃ b14, b14 = W4.heap.size := ⟨_, rfl⟩
                    have hk14 : Bk (W4.alloc (.cells idz 36)) W4.heap.size 36 idz := Bk.new _ _ _
                    have hth14 := Bk.there_at hk14 (o := 0) (n := idz.size) (by omega)
                    have hk14' : Bk ((W4.alloc (.cells idz 36)).setCells W4.heap.size 0 idz.toList) W4.heap.size 36 idz := Bk.setAll (xs := idz) hk14 rfl
                    have hB14 : Below W4.heap.size W4 ((W4.alloc (.cells idz 36)).setCells W4.heap.size 0 idz.toList) := Below.setCells (Nat.le_refl _) _ _ _ ((Below.refl _ _).alloc (Nat.le_refl _) _)
                    clear hNx e2 hk14
                    go_upto_region 38 with (refine wpList_store_mid rfl 36 (.tmp 14) (.tmp 105) rfl W4.heap.size 0 idz rfl rfl hth14 id_szA idz_ones ?_)
                    rw [← hb14]
                    refine wp_any (fun W => Bk W b14 36 idz ∧ Below W4.heap.size W4 W) ⟨by rw [hb14]; exact hk14', by rw [hb14]; exact hB14⟩ ?_
                    have HB14 : Hid (W4.heap.size ≤ b14) := by rw [hb14]; exact Nat.le_refl _
                    clear hk14' hB14 hth14 hb14
                    rintro V1 ⟨kV, hV⟩
                    have HV1 := Lib.hid hV
                    have HKV := Lib.hid kV
                    have zV := kV.lt
                    clear hV kV
                    go_upto_if 108 with fail
                    go_cut [14] from 106 to 111 (fun p wx => p = .pointer (some ⟨b14, 0, none⟩) ∧ Hid (Bk wx b14 36 (idL (idN (x.nm.headD 0))).toArray) ∧ Hid (Below W4.heap.size W4 wx))
                    case first =>
                      rcases Nat.eq_zero_or_pos f with hf0 | hf0
                      · have d38 : decide ((0 : Int) < (f : Int)) = false := decide_eq_false (by omega)
                        have d39 : decide (0 < f) = false := decide_eq_false (by omega)
                        have HKW : Hid (Bk V1 b14 36 (idL (idN (x.nm.headD 0))).toArray) := by
                          have e : x.nm = [] := List.eq_nil_of_length_eq_zero (HNX.out.symm.trans hf0)
                          rw [e]
                          exact HKV.out
                        clear hf0
                        rw [d39]
                        go_wp2_with fail
                        go_meet
                        case rel => exact ⟨rfl, HKW, HV1⟩
                      · have d38 : decide ((0 : Int) < (f : Int)) = true := decide_eq_true (by omega)
                        have d39 : decide (0 < f) = true := decide_eq_true (by omega)
                        have hf1 : (0 : Int) < (f : Int) := by omega
                        obtain ⟨y, bI, oI, hy0, rfl, hbI, hrI⟩ := row_at ((HIDS.out.keep HV1.out).rows idR_ok) 0 (by rw [List.length_map, ← HNX.out]; exact hf0)
                        have hye : y = idN (x.nm.headD 0) := by
                          have hne : x.nm ≠ [] := fun e => by have := HNX.out; rw [e] at this; simp at this; omega
                          obtain ⟨a, l, e⟩ := List.exists_cons_of_ne_nil hne
                          rw [e] at hy0 ⊢
                          simpa using hy0.symm
                        subst hye
                        have hrI : V1.rangeAt bI oI (idL (idN (x.nm.headD 0))) := by
                          have := hrI
                          rw [Nat.zero_mul, Nat.add_zero] at this
                          exact this
                        have hth := Bk.there_at HKV.out (o := 0) (n := (idL (idN (x.nm.headD 0))).toArray.size) (by rw [id_szL]; exact Nat.le_refl _)
                        have HKW : Hid (Bk (V1.setCells b14 0 (idL (idN (x.nm.headD 0)))) b14 36 (idL (idN (x.nm.headD 0))).toArray) := Bk.setAll (xs := (idL (idN (x.nm.headD 0))).toArray) HKV.out (by rw [id_szL]; rfl)
                        have HBW : Hid (Below W4.heap.size W4 (V1.setCells b14 0 (idL (idN (x.nm.headD 0))))) := Below.setCells HB14.out _ _ _ HV1.out
                        generalize idN (x.nm.headD 0) = nid at *
                        rw [d39]
                        go_wp2_with (first | (refine wpList_load_mid rfl 36 (.tmp 110) rfl bI oI rfl (idL nid) _ hrI Try.underlying36 rfl (id_size nid) ?_) | (refine wpList_store_mid rfl 36 (.tmp 14) (.tmp 111) rfl b14 0 (idL nid).toArray rfl rfl hth (id_szB nid) (id_onesB nid) ?_))
                        go_meet
                        case rel => exact ⟨rfl, HKW, HBW⟩
                    case rest =>
                      obtain ⟨rfl, HKN, HBN⟩ := hcut
                      have hP5 := HP.out.more (E' := (fun q => (q = b6 ∨ q = b13 ∨ slb (.slice s10 f c10) q) ∨ q = b14)) HBN.out (fun q e => by
                        rcases e with e | e
                        · exact .inl e
                        · exact .inr ⟨by rw [e]; exact HB14.out, by rw [e]; exact HKN.out.lt⟩)
                      have K6c := HK6.out.keep HBN.out
                      have c61 : wc.cell? ⟨b6, 1, none⟩ = some (.int .i64 x.pr) := K6c.cell 1
                      have z6c := K6c.lt
                      have HIDC := Lib.hid (HIDS.out.keep HBN.out)
                      obtain ⟨ML, hML⟩ : ∃ ML : List Value, (ms2 x.mg (.slice s10 f c10)).toList = ML := ⟨_, rfl⟩
                      have hM0 : ML.toArray[0]? = some (.int .i64 x.mg) := by rw [← hML, Array.toArray_toList]; exact ms2_0 _ _
                      have hM3 : ML.toArray[3]? = some (.slice s10 f c10) := by rw [← hML, Array.toArray_toList]; exact ms2_3 _ _
                      have hrg13 : wc.rangeAt b13 0 ML := fun a v hv => by
                        rw [Nat.zero_add, (HK13.out.keep HBN.out).cell, ← Array.getElem?_toList, hML]
                        exact hv
                      have hsz13 : (Try.prog.info? 44).map (·.size) = some ML.length := by rw [← hML]; exact ms2_szL _ _ _ _
                      clear hML
                      have hrgN : wc.rangeAt b14 0 (idL (idN (x.nm.headD 0))) := fun a v hv => by
                        rw [Nat.zero_add, HKN.out.cell, List.getElem?_toArray]
                        exact hv
                      have hheard := hP5.F.heard x.pr hpI ML.toArray x.mg (.slice s10 f c10) (idN (x.nm.headD 0)) (x.nm.map idN) hM0 hM3 (fun _ => ⟨HIDC.out.rows idR_ok, fun k hk => .inr (.inl (.inr (.inr hk))), by rw [List.length_map]; have := HNX.out; omega⟩)
                      unfold bkP idV at hheard
                      have HP5 := Lib.hid hP5
                      have HKN0 : Hid (wc.cell? ⟨b14, 0, none⟩ = some (.int .u8 ((x.nm.headD 0 : Nat) : Int)) ∧ Bk wc b14 36 (idL (idN (x.nm.headD 0))).toArray) := ⟨by
                        have hlt : x.nm.headD 0 < 256 := by
                          have h256 := HN256.out
                          cases hnm : x.nm with
                          | nil => decide
                          | cons a l => rw [hnm] at h256; exact h256 a List.mem_cons_self
                        rw [HKN.out.cell, idN_lt hlt]
                        rfl, HKN.out⟩
                      clear hM0 hM3 hP5 K6c HKV HV1 zV
                      rcases HQ'.out with ⟨rfl, hn⟩ | ⟨i, q, rfl, hij, hiq, hqe⟩
                      · rw [HP.out.I.heard_new (i := x.pr) (fun o ho => by obtain ⟨q, hq, rfl⟩ := List.mem_map.1 ho; exact hn q hq)] at hheard
                        clear hn
                        generalize idN (x.nm.headD 0) = nid at *
                        go_wp2_with (first | (refine wpList_load_mid rfl 44 (.tmp 13) rfl b13 0 rfl ML _ hrg13 Try.underlying44 rfl hsz13 ?_) | (refine wpList_load_mid rfl 36 (.tmp 14) rfl b14 0 rfl (idL nid) _ hrgN Try.underlying36 rfl (id_size nid) ?_))
                        refine hheard.mono ?_
                        rintro e w6 ⟨rfl, hF6, hS6⟩
                        have HQ7 := Lib.hid (((HP5.out.q hF6 hS6).less (N' := 16 * (k + 1)) (by omega)).pl HP.out.I)
                        have hLk' : L.length ≤ k + 1 := by have := HM.out; omega
                        clear hheard hF6 hS6
                        go_wp2_with fail
                        go_roundw
                        case rel => exact ⟨k + 1, _, L, M, by omega, rfl, by go_num, hLk', HQ7⟩
                        case measure => simp [intOf]; omega
                      · have hI := HP.out.I.heard HP.out.F.ask (pl_at hiq) x.mg HN256.out
                        rw [hqe] at hI
                        have HIN := Lib.hid hI
                        have HIQ := Lib.hid hiq
                        have j5 : decide ((i : Int) < 0) = false := decide_eq_false (by omega)
                        have hq16 := (HP.out.I.b q.p (List.mem_map.2 ⟨q, List.mem_of_getElem? hiq, rfl⟩)).2.1
                        clear hI hqe hiq
                        obtain ⟨nid, hnid⟩ : ∃ nid, nid = idN (x.nm.headD 0) := ⟨_, rfl⟩
                        rw [← hnid] at hrgN hheard HIN HKN0
                        clear hnid HKN
                        go_wp2_with (first | (refine wpList_load_mid rfl 44 (.tmp 13) rfl b13 0 rfl ML _ hrg13 Try.underlying44 rfl hsz13 ?_) | (refine wpList_load_mid rfl 36 (.tmp 14) rfl b14 0 rfl (idL nid) _ hrgN Try.underlying36 rfl (id_size nid) ?_))
                        refine hheard.mono ?_
                        rintro e w6 ⟨rfl, hF6, hS6⟩
                        have hQ6 := HP5.out.q hF6 hS6
                        have K66 := hS6.keep (k := b6) (.inr (.inl (.inl rfl))) (HK6.out.keep HBN.out)
                        have K146 := hS6.keep (k := b14) (.inr (.inr rfl)) HKN0.out.2
                        have HY : Hid (w6.cell? ⟨b14, 0, none⟩ = some (.int .u8 ((x.nm.headD 0 : Nat) : Int))) := by
                          show w6.cell? _ = _
                          rw [K146.cell, ← HKN0.out.2.cell]
                          exact HKN0.out.1
                        have c62 : w6.cell? ⟨b6, 2, none⟩ = some (.int .i64 x.mg) := K66.cell 2
                        have HC6 : Hid (w6.cell? ⟨b6, 3, none⟩ = some (.slice xs f x.c)) := by
                          show w6.cell? _ = _
                          rw [HLN.out, HXS.out]
                          exact K66.cell 3
                        have z66 := K66.lt
                        have z146 := K146.lt
                        have hqm := List.mem_of_getElem? HIQ.out
                        obtain ⟨bb, cc, T, he, hlb, hbl, hrg, hKT, hTs⟩ := hQ6.V.at1 HIQ.out
                        injection he with he1 he2 he3
                        subst he1
                        clear he2 he3 cc
                        rw [Nat.zero_add] at hrg
                        have hb6n : ¬ b6 = bb := fun e => by rw [e] at K66; exact absurd (K66.type_eq hKT) (by decide)
                        have hb14n : ¬ b14 = bb := fun e => by rw [e] at K146; exact absurd (K146.type_eq hKT) (by decide)
                        have c3 : w6.cell? ⟨bb, i * 6 + 3, none⟩ = some (.bool q.p.t) := hrg 3 _ rfl
                        have c4' : w6.cell? ⟨bb, i * 6 + 4, none⟩ = some (.bool q.p.r) := hrg 4 _ rfl
                        have HC5 : Hid (w6.cell? ⟨bb, i * 6 + 5, none⟩ = some q.sv) := hrg 5 _ rfl
                        have f3 := hKT.frozen (i * 6 + 3)
                        have f4 := hKT.frozen (i * 6 + 4)
                        have HF5 : Hid (w6.frozen? ⟨bb, i * 6 + 5, none⟩ = false) := hKT.frozen (i * 6 + 5)
                        have HQ6 := Lib.hid hQ6
                        have HQM := Lib.hid hqm
                        have HR := Lib.hid (hQ6.A q hqm)
                        have HNR := Lib.hid (((byR_of HNM.out).keep hQ6.F.below (Nat.le_refl _)).mono hQ6.F.below.size)
                        have hLk' : ∀ o1 : OneM, (L.set i o1).length ≤ k + 1 := fun o1 => by have := HM.out; rw [List.length_set]; omega
                        have HFIN : Hid (∀ (o1 : OneM) (W' : World), o1.sv = q.sv → o1.p.ak = q.p.ak → o1.p = heardP q.p x.mg x.nm → But (slb (.slice (some ⟨bb, 0, none⟩) j c4)) w6 W' → MineR onR W' w.heap.size (.slice (some ⟨bb, 0, none⟩) j c4) (L.set i o1) → Pl w W' g (16 * (k + 1)) (fun _ => False) (.slice (some ⟨bb, 0, none⟩) j c4) (L.set i o1) (heardM M x.pr x.mg nid (x.nm.map idN))) := by
                          show ∀ _, _
                          intro o1 W' h1 h2 h3 h4 h5
                          refine ((HQ6.out.set h4 h5 (by rw [h1, h2]; exact HR.out) (fun b hb => by rw [h1] at hb; exact ⟨.inl ⟨q, HQM.out, hb⟩, HQ6.out.X q HQM.out b hb⟩)).less (N' := 16 * (k + 1)) (by omega)).pl ?_
                          rw [List.map_set, h3]
                          exact HIN.out
                        have HFIN5 : Hid (∀ (v5 : Value) (ww : World) (G : List Nat), q.p.ak.filter (fun z => !decide (z ∈ G)) = (heardP q.p x.mg x.nm).ak → (heardP q.p x.mg x.nm) = { q.p with ak := (heardP q.p x.mg x.nm).ak } → Below w6.heap.size w6 ww → MineR byR ww w6.heap.size v5 (q.p.ak.filter fun z => !decide (z ∈ G)) →
                            ∃ L', L'.length ≤ k + 1 ∧ Pl w (ww.setCell ⟨bb, i * 6 + 5, none⟩ v5) g (16 * (k + 1)) (fun _ => False) (.slice (some ⟨bb, 0, none⟩) j c4) L' (heardM M x.pr x.mg nid (x.nm.map idN))) := by
                          show ∀ _, _
                          intro v5 ww G h1 h2 hb hm
                          rw [h1] at hm
                          obtain ⟨s5, c5, rfl⟩ := hm.slice
                          have hm6 := (HQ6.out.V.keep hb).cell1 (k := i) (x := q) (x' := ⟨heardP q.p x.mg x.nm, s5, c5⟩) (j := 5) (v := .slice s5 (heardP q.p x.mg x.nm).ak.length c5) HIQ.out (by decide) (by rw [h2]; rfl)
                          have hq7 := HQ6.out.more (E' := fun z => w6.heap.size ≤ z ∧ z < ww.heap.size) hb (fun z hz => .inr hz)
                          refine ⟨_, hLk' _, ((hq7.set (i := i) ((But.refl _ _).set_ (.inl (slb_mk bb 0 j c4)) _ none _) hm6 (hm.rows byR_ok) (fun b hb' => ?_)).less (N' := 16 * (k + 1)) (by omega)).pl ?_⟩
                          · have h3 := hm.slb_lo hb'
                            exact ⟨.inr ⟨h3.1, h3.2.1⟩, fun hv => by have := (HQ6.out.V.slb_lo hv).2.1; omega⟩
                          · rw [List.map_set]
                            exact HIN.out
                        clear hheard hF6 hS6 hQ6 K66 K146 hqm hrgN hsz13 hrg13 c61 z6c
                        by_cases m1 : x.mg = 1
                        · have d1 : (x.mg == 1) = true := by simp [m1]
                          have HQ8 := Lib.hid (HFIN.out (⟨{ q.p with t := true }, q.s, q.c⟩ : OneM) (w6.setCell ⟨bb, i * 6 + 3, none⟩ (.bool true)) rfl rfl (by unfold heardP; rw [if_pos m1]) ((But.refl _ _).set_ (.inl (slb_mk bb 0 j c4)) _ none _) (HQ6.out.V.cell1 (k := i) (x := q) (j := 3) HIQ.out (by decide) rfl))
                          clear hrg hKT m1
                          go_wp2_with fail
                          go_meet
                          case rel => exact ⟨_, _, hLk' _, HQ8⟩
                        have d1 : (x.mg == 1) = false := by simp [m1]
                        by_cases m2 : x.mg = 2
                        · have d2 : (x.mg == 2) = true := by simp [m2]
                          have HQ8 : Hid (∀ v, v = (q.p.r || q.p.t) → Pl w (w6.setCell ⟨bb, i * 6 + 4, none⟩ (.bool v)) g (16 * (k + 1)) (fun _ => False) (.slice (some ⟨bb, 0, none⟩) j c4) (L.set i (⟨{ q.p with r := q.p.r || q.p.t }, q.s, q.c⟩ : OneM)) (heardM M x.pr x.mg nid (x.nm.map idN))) := by
                            show ∀ v, _
                            rintro v rfl
                            exact HFIN.out (⟨{ q.p with r := q.p.r || q.p.t }, q.s, q.c⟩ : OneM) _ rfl rfl (by unfold heardP; rw [if_neg m1, if_pos m2]) ((But.refl _ _).set_ (.inl (slb_mk bb 0 j c4)) _ none _) (HQ6.out.V.cell1 (k := i) (x := q) (j := 4) HIQ.out (by decide) rfl)
                          clear hrg hKT m1 m2
                          cases hr : q.p.r with
                          | true =>
                            rw [hr] at c4'
                            have HQ9 := Lib.hid (HQ8.out true (by rw [hr]; rfl))
                            clear hr
                            go_wp2_with fail
                            go_meet
                            case rel => exact ⟨_, _, hLk' _, HQ9⟩
                          | false =>
                            rw [hr] at c4'
                            have HQ9 := Lib.hid (HQ8.out q.p.t (by rw [hr]; rfl))
                            clear hr
                            go_wp2_with fail
                            go_meet
                            case rel => exact ⟨_, _, hLk' _, HQ9⟩
                        have d2 : (x.mg == 2) = false := by simp [m2]
                        by_cases m7 : x.mg = 7
                        · have d7 : (x.mg == 7) = true := by simp [m7]
                          have hh : heardP q.p x.mg x.nm = { q.p with ak := q.p.ak.filter fun z => !decide (z ∈ [x.nm.headD 0]) } := by unfold heardP; rw [if_neg m1, if_neg m2, if_pos m7]
                          have HH := Lib.hid hh
                          clear hrg hKT m1 m2 m7 hh
                          go_upto_region 49 with fail
                          refine pyR49 bb b14 (i * 6) (x.nm.headD 0) q w6 _ _ _ _ _ _ _ _ _ _ _ _ _ _ _ _ _ _ _ _ _ _ _ _ _ _ _ _ _ _ _ _ _ _ _ _ _ _ _ _ _ _ _ _ _ _ _ _ _ _ _ _ _ _ _ _ _ _ _ _ _ _ _ _ _ _ _ _ _ _ _ _ _ _ _ _ _ _ _ _ _ _ _ _ _ _ _ _ _ _ _ _ _ _ _ _ _ _ _ _ _ _ _ _ _ _ _ _ _ _ _ _ _ _ _ _ _ _ _ _ _ _ _ _ _ _ _ _ _ _ _ _ _ _ _ _ _ _ _ _ _ _ _ _ _ _ _ _ _ _ _ _ _ _ _ _ _ _ _ _ _ _ _ _ _ _ _ _ _ _ _ _ _ _ _ _ _ _ _ _ _ _ _ _ _ _ _ _ _ _ _ _ _ _ _ _ _ _ _ _ _ _ _ _ _ _ _ _ _ _ _ _ _ _ _ _ _ hbl z146 hb14n HY HC5 HF5 HR (by omega) (Lib.hid (fun x146 x147 x148 x149 x150 x151 x152 x153 x154 x155 x156 v5 w7 h7 => ?_))
                          obtain ⟨ww, rfl, hb7, hm7⟩ := h7
                          obtain ⟨L', hl', hp'⟩ := HFIN5.out v5 ww [x.nm.headD 0] (by rw [HH.out]) (by rw [HH.out]) hb7 hm7
                          have HQ9 := Lib.hid hp'
                          clear hp' hb7 hm7
                          go_wp2_with fail
                          go_meet
                          case rel => exact ⟨_, _, hl', HQ9⟩
                        have d7 : (x.mg == 7) = false := by simp [m7]
                        by_cases m8 : x.mg = 8
                        · have d8 : (x.mg == 8) = true := by simp [m8]
                          have hh : heardP q.p x.mg x.nm = { q.p with ak := q.p.ak.filter fun z => !decide (z ∈ x.nm) } := by unfold heardP; rw [if_neg m1, if_neg m2, if_neg m7, if_pos m8]
                          have HH := Lib.hid hh
                          clear hrg hKT m1 m2 m7 m8 hh
                          go_upto_region 51 with fail
                          refine pyR51 bb b6 (i * 6) f x.c xs x.nm q w6 _ _ _ _ _ _ _ _ _ _ _ _ _ _ _ _ _ _ _ _ _ _ _ _ _ _ _ _ _ _ _ _ _ _ _ _ _ _ _ _ _ _ _ _ _ _ _ _ _ _ _ _ _ _ _ _ _ _ _ _ _ _ _ _ _ _ _ _ _ _ _ _ _ _ _ _ _ _ _ _ _ _ _ _ _ _ _ _ _ _ _ _ _ _ _ _ _ _ _ _ _ _ _ _ _ _ _ _ _ _ _ _ _ _ _ _ _ _ _ _ _ _ _ _ _ _ _ _ _ _ _ _ _ _ _ _ _ _ _ _ _ _ _ _ _ _ _ _ _ _ _ _ _ _ _ _ _ _ _ _ _ _ _ _ _ _ _ _ _ _ _ _ _ _ _ _ _ _ _ _ _ _ _ _ _ _ _ _ _ _ _ _ _ _ _ _ _ _ _ _ _ _ _ _ _ _ _ _ _ _ _ _ _ _ _ _ _ hbl z66 hb6n HC6 HNR HC5 HF5 HR (by omega) (Lib.hid (fun x159 x160 x161 x162 x163 x164 x165 x166 x167 x168 v5 w7 h7 => ?_))
                          obtain ⟨ww, rfl, hb7, hm7⟩ := h7
                          obtain ⟨L', hl', hp'⟩ := HFIN5.out v5 ww x.nm (by rw [HH.out]) (by rw [HH.out]) hb7 hm7
                          have HQ9 := Lib.hid hp'
                          clear hp' hb7 hm7
                          go_wp2_with fail
                          go_meet
                          case rel => exact ⟨_, _, hl', HQ9⟩
                        have d8 : (x.mg == 8) = false := by simp [m8]
                        have HQ9 := Lib.hid ((HQ6.out.less (N' := 16 * (k + 1)) (by omega)).pl (by
                          have := HIN.out
                          unfold heardP at this
                          rw [if_neg m1, if_neg m2, if_neg m7, if_neg m8, set_same (pl_at HIQ.out)] at this
                          exact this))
                        have hl' : L.length ≤ k + 1 := by have := HM.out; omega
                        clear hrg hKT m1 m2 m7 m8
                        go_wp2_with fail
                        go_meet
                        case rel => exact ⟨L, _, hl', HQ9⟩
                have q2 : (x.kd == 2) = false := by simp [e2]
                by_cases e3 : x.kd = 3
                · as_aux_lemma =>
                    have q3 : (x.kd == 3) = true := by simp [e3]
                    have c61 : W4.cell? ⟨b6, 1, none⟩ = some (.int .i64 x.pr) := HK6.out.cell 1
                    obtain ⟨ML, hML⟩ : ∃ ML : List Value, (ms2 x.mg (.slice s10 f c10)).toList = ML := ⟨_, rfl⟩
                    have hM0 : ML.toArray[0]? = some (.int .i64 x.mg) := by rw [← hML, Array.toArray_toList]; exact ms2_0 _ _
                    have hM3 : ML.toArray[3]? = some (.slice s10 f c10) := by rw [← hML, Array.toArray_toList]; exact ms2_3 _ _
                    have hrg13 : W4.rangeAt b13 0 ML := fun a v hv => by
                      rw [Nat.zero_add, HK13.out.cell, ← Array.getElem?_toList, hML]
                      exact hv
                    have hsz13 : (Try.prog.info? 44).map (·.size) = some ML.length := by rw [← hML]; exact ms2_szL _ _ _ _
                    clear hML
                    have hA : (M.L x.pr).length ≤ 1000000 := by
                      rcases HQ'.out with ⟨_, hn⟩ | ⟨i, q, _, _, hiq, hqe⟩
                      · rw [HP.out.I.L0 x.pr (fun o ho => by obtain ⟨q, hq, rfl⟩ := List.mem_map.1 ho; exact hn q hq)]
                        exact Nat.zero_le _
                      · have hql := List.mem_of_getElem? (pl_at hiq)
                        have h2 := (HP.out.I.b q.p hql).2.1
                        rw [← hqe, HP.out.I.K q.p hql, List.length_map]
                        omega
                    have hsaid := HP.out.F.said x.pr hpI ML.toArray x.mg (.slice s10 f c10) (x.nm.map idN) hM0 hM3 (fun _ => ⟨HIDS.out.rows idR_ok, by rw [List.length_map]; have := HLN.out; omega⟩) (by omega) hA
                    unfold bkP at hsaid
                    clear hM0 hM3 hA e3
                    rcases HQ'.out with ⟨rfl, hn⟩ | ⟨i, q, rfl, hij, hiq, hqe⟩
                    · have hC := HP.out.I.said_new (i := x.pr) (fun o ho => by obtain ⟨q, hq, rfl⟩ := List.mem_map.1 ho; exact hn q hq) x.mg (x.nm.map idN)
                      rw [hC.1, hC.2] at hsaid
                      clear hC hn
                      go_wp2_with (refine wpList_load_mid rfl 44 (.tmp 13) rfl b13 0 rfl ML _ hrg13 Try.underlying44 rfl hsz13 ?_)
                      refine hsaid.mono ?_
                      rintro e w5 ⟨rfl, hF5, hS5⟩
                      have HQ7 := Lib.hid (((HP.out.q hF5 hS5).less (N' := 16 * (k + 1)) (by omega)).pl HP.out.I)
                      have hLk' : L.length ≤ k + 1 := by have := HM.out; omega
                      clear hsaid hF5 hS5
                      go_wp2_with fail
                      go_roundw
                      case rel => exact ⟨k + 1, _, L, M, by omega, rfl, by go_num, hLk', HQ7⟩
                      case measure => simp [intOf]; omega
                    · obtain ⟨E, hE⟩ : ∃ E, mayE (L.map (·.p)) q.p x.mg x.nm = E := ⟨_, rfl⟩
                      obtain ⟨OP, hOP⟩ : ∃ OP, mayP (L.map (·.p)) q.p x.mg x.nm = OP := ⟨_, rfl⟩
                      have hI := HP.out.I.said HP.out.F.ask (pl_at hiq) x.mg HN256.out
                      rw [hqe, hE, hOP] at hI
                      rw [hI.1] at hsaid
                      have HIN := Lib.hid hI.2
                      have HIQ := Lib.hid hiq
                      have j5 : decide ((i : Int) < 0) = false := decide_eq_false (by omega)
                      clear hI hqe hiq
                      go_wp2_with (refine wpList_load_mid rfl 44 (.tmp 13) rfl b13 0 rfl ML _ hrg13 Try.underlying44 rfl hsz13 ?_)
                      refine hsaid.mono ?_
                      rintro e w5 ⟨rfl, hF5, hS5⟩
                      have hQ5 := HP.out.q hF5 hS5
                      have K65 := hS5.keep (k := b6) (.inr (.inl rfl)) HK6.out
                      have z65 := K65.lt
                      have hqm := List.mem_of_getElem? HIQ.out
                      obtain ⟨bb, cc, T, he, hlb, hbl, hrg, hKT, hTs⟩ := hQ5.V.at1 HIQ.out
                      injection he with he1 he2 he3
                      subst he1
                      clear he2 he3 cc
                      have HC2 : Hid (∀ W, Below w5.heap.size w5 W → W.cell? ⟨b6, 2, none⟩ = some (.int .i64 x.mg)) := fun W hb => (K65.keep hb).cell 2
                      have HC3 : Hid (∀ W, Below w5.heap.size w5 W → W.cell? ⟨b6, 3, none⟩ = some (.slice xs f x.c)) := fun W hb => by
                        rw [HLN.out, HXS.out]
                        exact (K65.keep hb).cell 3
                      have hq16 := (HP.out.I.b q.p (List.mem_map.2 ⟨q, hqm, rfl⟩)).2.1
                      have HC : Hid (∀ W, Below w5.heap.size w5 W → Calls Try.prog 16 #[.slice (some ⟨bb, 0, none⟩) j c4, .agg (onL q).toArray, .int .i64 x.mg, .slice xs f x.c] W fun e w' => ∃ o1 : OneM, e = .returned (.tuple #[.agg (onL o1).toArray, .int .i64 E]) ∧ (o1.p = OP ∧ RowV byR w' w'.heap.size o1.sv o1.p.ak ∧ (∀ k, slb o1.sv k → slb q.sv k ∨ (W.heap.size ≤ k ∧ k < w'.heap.size))) ∧ Below W.heap.size W w') := by
                        show ∀ W, _
                        intro W hb
                        have hm := may_any L q x.mg x.nm (.slice (some ⟨bb, 0, none⟩) j c4) (.slice xs f x.c) W ((hQ5.V.keep hb).rows onR_ok) (fun z hz => ((hQ5.A z hz).keep hb (Nat.le_refl _)).mono hb.size) (((hQ5.A q hqm).keep hb (Nat.le_refl _)).mono hb.size)
                          (((byR_of HNM.out).keep (hQ5.F.below.trans (hb.mono hQ5.F.below.size)) (Nat.le_refl _)).mono (Nat.le_trans hQ5.F.below.size hb.size)) (by have := HM.out; omega) (by have := HLN.out; omega) (by omega)
                        rw [hE, hOP] at hm
                        exact hm.mono (fun e w' h => by
                          obtain ⟨o', h1, h2, h3, h4, h5⟩ := h
                          exact ⟨o', h1, ⟨h2, h3, h4⟩, h5⟩)
                      have HQL : Hid (∀ k, slb q.sv k → k < w5.heap.size) := fun k hk => hQ5.F.lt (.inl (.inr ⟨q, hqm, hk⟩))
                      have hi0 : (0 : Int) ≤ (i : Int) := by omega
                      have HQ5 := Lib.hid hQ5
                      have HKT := Lib.hid hKT
                      have HTS := Lib.hid hTs
                      have HQM := Lib.hid hqm
                      have HOP := Lib.hid hOP
                      clear hsaid hF5 hS5 hQ5 hKT hTs hqm hE hOP K65 hq16
                      go_upto_region 57 with fail
                      refine pyR57 b6 bb 0 i j c4 f x.c x.mg E xs q OP w5 _ _ _ _ _ _ _ _ _ _ _ _ _ _ _ _ _ _ _ _ _ _ _ _ _ _ _ _ _ _ _ _ _ _ _ _ _ _ _ _ _ _ _ _ _ _ _ _ _ _ _ _ _ _ _ _ _ _ _ _ _ _ _ _ _ _ _ _ _ _ _ _ _ _ _ _ _ _ _ _ _ _ _ _ _ _ _ _ _ _ _ _ _ _ _ _ _ _ _ _ _ _ _ _ _ _ _ _ _ _ _ _ _ _ _ _ _ _ _ _ _ _ _ _ _ _ _ _ _ _ _ _ _ _ _ _ _ _ _ _ _ _ _ _ _ _ _ _ _ _ _ _ _ _ _ _ _ _ _ _ _ _ _ _ _ _ _ _ _ _ _ _ _ _ _ _ _ _ _ _ _ _ _ _ _ _ _ _ _ _ _ _ _ _ _ _ _ _ _ _ _ _ _ _ _ _ _ _ _ _ _ _ _ _ _ _ z65 hbl hi0 hij hrg HQL HC2 HC3 HC (Lib.hid (fun x179 x180 x181 x182 x183 x184 x185 x186 x187 x188 x189 x190 x191 b17 o1 w7 h17 K17 hop hro hsl hB7 => ?_))
                      have hrg17 := on_range K17
                      have hth := Bk.there_at (HKT.out.keep hB7) (o := i * 6) (n := (onL o1).toArray.size) (by show i * 6 + 6 ≤ _; have := HTS.out; omega)
                      have q9 : ((E : Int) != (E : Int)) = false := by simp
                      have hQ7 := HQ5.out.more (E' := fun k => w5.heap.size ≤ k ∧ k < w7.heap.size) hB7 (fun z hz => .inr hz)
                      have hm7 := hQ7.V.row1 (k := i) (x' := o1) (List.getElem?_eq_some_iff.1 HIQ.out).1
                      have hx7 : ∀ b, slb o1.sv b → ((∃ o ∈ L, slb o.sv b) ∨ (w5.heap.size ≤ b ∧ b < w7.heap.size)) ∧ ¬ slb (.slice (some ⟨bb, 0, none⟩) j c4) b := fun b hb => by
                        rcases hsl b hb with h | h
                        · exact ⟨.inl ⟨q, HQM.out, h⟩, HQ5.out.X q HQM.out b h⟩
                        · exact ⟨.inr h, fun hv => by have := (HQ5.out.V.slb_lo hv).2.1; omega⟩
                      have HQ8 := Lib.hid (((hQ7.set (i := i) (o' := o1) (But.setCells (S := slb (.slice (some ⟨bb, 0, none⟩) j c4)) (g := bb) (slb_mk bb 0 j c4) (onL o1) (i * 6) w7 (But.refl _ w7)) hm7 hro hx7).less (N' := 16 * (k + 1)) (by omega)).pl (by
                        rw [List.map_set, hop]
                        exact HIN.out))
                      have hLk' : (L.set i o1).length ≤ k + 1 := by have := HM.out; rw [List.length_set]; omega
                      clear hQ7 hm7 hx7 hop hro hsl
                      go_wp2_with (first | (refine wpList_load_mid rfl 60 (.tmp 17) rfl b17 0 rfl (onL o1) _ hrg17 Try.underlying60 rfl (on_sz _) ?_) | (refine wpList_store_mid rfl 60 (.tmp 198) (.tmp 197) rfl bb (i * 6) (onL o1).toArray rfl rfl hth (on_szA _) (on_ones _) ?_))
                      go_meet
                      case rel => exact ⟨_, _, hLk', HQ8⟩
                have q3 : (x.kd == 3) = false := by simp [e3]
                clear e0 e1 e2 e3
                have HQ9 := Lib.hid (HP.out.less (N' := 16 * (k + 1)) (by omega))
                have hLk' : L.length ≤ k + 1 := by have := HM.out; omega
                go_wp2_with fail
                go_meet
                case rel => exact ⟨L, M, hLk', HQ9⟩
              case rest =>
                obtain ⟨L', M', hL', HQ⟩ := hcut
                have hlen := HQ.out.F.len
                rw [HQ.out.I.n, List.length_map] at hlen
                unfold bkP at hlen
                obtain ⟨s5, c5, hu⟩ : ∃ s c, u4 = .slice s L'.length c := HQ.out.V.slice
                subst hu
                have hrw := row_at (HQ.out.V.rows onR_ok)
                obtain ⟨m', hm'⟩ : ∃ m', m' = L'.length := ⟨_, rfl⟩
                have HM' := Lib.hid hm'
                rw [← hm'] at hlen hrw hL' HQ ⊢
                have HRL' : Hid (∀ i, i < m' → ∃ (q : OneM) (b f : Nat), L'[i]? = some q ∧ s5 = some ⟨b, f, none⟩ ∧ b < wc.heap.size ∧ wc.rangeAt b (f + i * 6) (onL q)) := hrw
                have q0 : ((m' : Int) != (m' : Int)) = false := by simp
                clear hrw hm' HP HK6 HK13 HIDS HLO c60 z6 HQ'
                go_wp2_with fail
                refine hlen.mono ?_
                rintro e w5 ⟨rfl, hw5⟩
                subst hw5
                clear hlen
                go_wp2_with fail
                go_loopw [205] (fun i wr => ∃ a : Nat, a ≤ m' ∧ i = .int .i64 a ∧ Hid (Below w5.heap.size w5 wr)) (fun i _ => m' - (intOf i).toNat)
                case atStart => exact ⟨0, Nat.zero_le _, rfl, Below.refl _ _⟩
                case round =>
                  obtain ⟨a, ha, rfl, HB⟩ := hrel
                  rename World => wq5
                  by_cases hla : a < m'
                  · obtain ⟨q, ba, fa, hjq, rfl, hba, hrg⟩ := HRL'.out a hla
                    have j4 : decide ((a : Int) < (m' : Int)) = true := decide_eq_true (by omega)
                    have hrg := rr_below hrg HB.out hba
                    have hbr5 : ba < wq5.heap.size := Nat.lt_of_lt_of_le hba HB.out.size
                    obtain ⟨Wn, hWn⟩ : ∃ Wn, Wn = wq5.alloc (.cells #[.int .i64 0, .bool false, .bool false, .bool false, .bool false, .slice none 0 0] 60) := ⟨_, rfl⟩
                    have hKn : Bk Wn wq5.heap.size 60 (onL on0).toArray := by rw [hWn]; exact Bk.new _ _ _
                    have hth := on_there (o := q) hKn
                    have hKq : Bk (Wn.setCells wq5.heap.size 0 (onL q)) wq5.heap.size 60 (onL q).toArray := Bk.setAll (xs := (onL q).toArray) hKn rfl
                    have hBn : Below wq5.heap.size wq5 (Wn.setCells wq5.heap.size 0 (onL q)) := Below.setCells (Nat.le_refl _) _ _ _ (by rw [hWn]; exact (Below.refl _ _).alloc (Nat.le_refl _) _)
                    have HB3 : Hid (Below w5.heap.size w5 (Wn.setCells wq5.heap.size 0 (onL q))) := HB.out.trans (hBn.mono HB.out.size)
                    have hql := List.mem_of_getElem? hjq
                    have hK := HQ.out.I.K q.p (List.mem_map.2 ⟨q, hql, rfl⟩)
                    have h16 := (HQ.out.I.b q.p (List.mem_map.2 ⟨q, hql, rfl⟩)).2.1
                    have hlq : (M'.L q.p.id).length = q.p.ak.length := by rw [hK, List.length_map]
                    rw [hWn] at hth
                    clear hjq hKn hK hql
                    go_upto_region 66 with (first | (refine wpList_load_mid rfl 60 (.tmp 207) rfl ba (fa + a * 6) rfl (onL q) _ hrg Try.underlying60 rfl (on_sz _) ?_) | (refine wpList_store_mid rfl 60 (.tmp 20) (.tmp 208) rfl wq5.heap.size 0 (onL q).toArray rfl rfl hth (on_szA _) (on_ones _) ?_))
                    rw [← hWn]
                    refine wp_any (fun W => Bk W wq5.heap.size 60 (onL q).toArray ∧ Below w5.heap.size w5 W) ⟨hKq, HB3.out⟩ ?_
                    clear hWn hKq hBn HB3 hth hrg hbr5 HB
                    generalize wq5.heap.size = q20 at *
                    clear Wn
                    clear wq5
                    rintro Wq ⟨Kq, hBq⟩
                    have hc0 : ∀ W', Below Wq.heap.size Wq W' → W'.cell? ⟨q20, 0, none⟩ = some (.int .i64 q.p.id) := fun W' hb => (Kq.keep hb).cell 0
                    have hc5 : ∀ W', Below Wq.heap.size Wq W' → W'.cell? ⟨q20, 5, none⟩ = some (.slice q.s q.p.ak.length q.c) := fun W' hb => (Kq.keep hb).cell 5
                    have HAS : Hid (∀ W', Below Wq.heap.size Wq W' → Calls Try.prog 14 #[.pointer (some ⟨g, 0, none⟩), .int .i64 q.p.id] W' fun e W'' => e = .returned (.int .i64 (q.p.ak.length : Nat)) ∧ Below W'.heap.size W' W'') := by
                      show ∀ W', _
                      intro W' hb
                      have := (HQ.out.F.keep (hBq.trans (hb.mono hBq.size))).asked q.p.id (by rw [hlq]; omega)
                      rw [hlq] at this
                      exact this.mono (fun e W'' ⟨h1, h2, h3⟩ => ⟨h1, h3⟩)
                    have zq := Kq.lt
                    have HBq := Lib.hid hBq
                    clear Kq hBq hlq h16
                    obtain ⟨la, hla'⟩ : ∃ la, la = q.p.ak.length := ⟨_, rfl⟩
                    rw [← hla'] at hc5 HAS
                    clear hla'
                    go_region_held (fun W' => Below Wq.heap.size Wq W') (first | with_reducible assumption | exact (Below.refl _ _).drew | exact Below.refl _ _)
                      (first
                        | (go_at_call 14
                           refine (HAS.out _ (by first | with_reducible assumption | exact (Below.refl _ _).drew | exact Below.refl _ _)).mono ?_
                           rintro e w7 ⟨rfl, hb7⟩
                           have hE7 : Below Wq.heap.size Wq w7 := by first | exact ((Below.refl _ _).drew).trans hb7 | exact hb7))
                    have HE7 : Hid (Below w5.heap.size w5 w7) := HBq.out.trans (hE7.mono HBq.out.size)
                    have q1 : ((la : Int) != (la : Int)) = false := by simp
                    clear hc0 hc5 hb7 hE7 HAS HBq
                    go_wp2_with fail
                    go_roundw
                    case rel => exact ⟨a + 1, by omega, by go_num, HE7⟩
                    case measure => simp [intOf]; omega
                  · obtain rfl : a = m' := by omega
                    have j4 : decide ((a : Int) < (a : Int)) = false := decide_eq_false (by omega)
                    have HQ9 := Lib.hid (HQ.out.keep HB.out)
                    clear hla HB HQ
                    go_wp2_with fail
                    go_roundw
                    case rel => exact ⟨k + 1, _, L', M', by omega, rfl, by go_num, by rw [← HM'.out]; exact hL', HQ9⟩
                    case measure => simp [intOf]; omega
    · obtain rfl : k = n := by omega
      have j1 : decide ((k : Int) < (k : Int)) = false := decide_eq_false (by omega)
      have HB := Lib.hid HP.out.F.below
      clear hlt HP
      go_wp2_with fail
      go_ret
      exact ⟨rfl, HB.out⟩
end Go.Proofs.Ytcedljfdnbenoaa.tracePlays
