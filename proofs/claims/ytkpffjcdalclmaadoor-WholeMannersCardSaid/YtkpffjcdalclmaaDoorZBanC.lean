/- Package ban: slices.DeleteFunc over its bans. -/
import Derived.Test.YtkpffjcdalclmaaDoorZBanB
import Derived.Test.YtkpffjcdalclmaaDoorZTxE
namespace Go.Proofs.YtkpffjcdalclmaaDoor
open Go.RowKit
set_option linter.unusedVariables false
set_option linter.unusedSimpArgs false
set_option maxRecDepth 100000
theorem ovr_mid (A Y B X : List Value) (hl : X.length = Y.length) : ovr (A ++ (Y ++ B)).toArray A.length X = (A ++ (X ++ B)).toArray := by
  apply Array.ext_getElem?
  intro q
  rw [ovr_get, List.getElem?_toArray, List.getElem?_toArray, List.size_toArray, List.length_append, List.length_append]
  by_cases q1 : q < A.length
  · rw [if_neg (by omega), List.getElem?_append_left q1, List.getElem?_append_left q1]
  · by_cases q2 : q < A.length + X.length
    · rw [if_pos (by omega), List.getElem?_append_right (by omega), List.getElem?_append_left (by omega)]
    · rw [if_neg (by omega), List.getElem?_append_right (by omega), List.getElem?_append_right (by omega), List.getElem?_append_right (by omega), List.getElem?_append_right (by omega), hl]
section
variable {α : Type} {R : RowT α}
theorem flat_put (h : R.Ok) (A Y B X : List α) (hl : X.length = Y.length) : ovr (R.flat (A ++ (Y ++ B))).toArray (A.length * R.k) (R.flat X) = (R.flat (A ++ (X ++ B))).toArray := by
  rw [flat_app, flat_app, flat_app, flat_app, ← h.flat_len A]
  exact ovr_mid _ _ _ _ (by rw [h.flat_len, h.flat_len, hl])
theorem split_at' (D : List α) (i : Nat) (hi : i < D.length) : ∃ y, D = D.take i ++ ([y] ++ D.drop (i + 1)) ∧ D[i]? = some y := by
  refine ⟨D[i], ?_, List.getElem?_eq_getElem hi⟩
  have : [D[i]] ++ D.drop (i + 1) = D.drop i := by rw [List.drop_eq_getElem_cons hi]; rfl
  rw [this, List.take_append_drop]
theorem set_split (D : List α) (i : Nat) (x : α) (hi : i < D.length) : D.set i x = D.take i ++ ([x] ++ D.drop (i + 1)) := by
  rw [List.set_eq_take_append_cons_drop, if_pos hi]; rfl
theorem flat_set (h : R.Ok) (D : List α) (i : Nat) (x : α) (hi : i < D.length) : ovr (R.flat D).toArray (i * R.k) (R.c x) = (R.flat (D.set i x)).toArray := by
  obtain ⟨y, e, _⟩ := split_at' D i hi
  have hl : (D.take i).length = i := by rw [List.length_take]; omega
  have := flat_put h (D.take i) [y] (D.drop (i + 1)) [x] rfl
  rw [← e, hl, ← set_split D i x hi, flat_sing] at this
  exact this
end
structure DelI (q : BanM → Bool) (L Z : List BanM) (i j : Nat) (D : List BanM) : Prop where
  len : D.length = (L ++ Z).length
  lt : i < j
  low : D.take i = (L.take j).filter q
  cnt : ((L.take j).filter q).length = i
  high : D.drop j = (L ++ Z).drop j
theorem DelI.start {q : BanM → Bool} {L Z : List BanM} {k : Nat} {x : BanM} (hx : L[k]? = some x) (hq : q x = false) (hb : ∀ j y, j < k → L[j]? = some y → q y = true) : DelI q L Z k (k + 1) (L ++ Z) := by
  obtain ⟨hk, hxe⟩ := List.getElem?_eq_some_iff.1 hx
  have h1 : (L.take k).filter q = L.take k := List.filter_eq_self.2 (fun y hy => by
    obtain ⟨j, hj, e⟩ := List.getElem_of_mem hy
    have hj' : j < k := by rw [List.length_take] at hj; omega
    refine hb j y hj' ?_
    rw [← e, List.getElem?_eq_getElem (by omega), List.getElem_take])
  have h2 : (L.take (k + 1)).filter q = L.take k := by
    rw [List.take_add_one, hx, List.filter_append, h1]
    simp [hq]
  refine ⟨rfl, by omega, ?_, ?_, rfl⟩
  · rw [h2, List.take_append_of_le_length (by omega)]
  · rw [h2, List.length_take]; omega
theorem DelI.get {q : BanM → Bool} {L Z D : List BanM} {i j : Nat} (h : DelI q L Z i j D) (hj : j < L.length) {x : BanM} (hx : L[j]? = some x) : D[j]? = some x := by
  have e : (D.drop j)[0]? = ((L ++ Z).drop j)[0]? := by rw [h.high]
  rw [List.getElem?_drop, List.getElem?_drop, Nat.add_zero, List.getElem?_append_left hj, hx] at e
  exact e
theorem DelI.skip {q : BanM → Bool} {L Z D : List BanM} {i j : Nat} (h : DelI q L Z i j D) {x : BanM} (hx : L[j]? = some x) (hq : q x = false) : DelI q L Z i (j + 1) D := by
  have h2 : (L.take (j + 1)).filter q = (L.take j).filter q := by
    rw [List.take_add_one, hx, List.filter_append]
    simp [hq]
  refine ⟨h.len, by have := h.lt; omega, by rw [h2]; exact h.low, by rw [h2]; exact h.cnt, ?_⟩
  have e := congrArg (List.drop 1) h.high
  rwa [List.drop_drop, List.drop_drop] at e
theorem DelI.keep {q : BanM → Bool} {L Z D : List BanM} {i j : Nat} (h : DelI q L Z i j D) (hj : j < L.length) {x : BanM} (hx : L[j]? = some x) (hq : q x = true) : DelI q L Z (i + 1) (j + 1) (D.set i x) := by
  have h2 : (L.take (j + 1)).filter q = (L.take j).filter q ++ [x] := by
    rw [List.take_add_one, hx, List.filter_append]
    simp [hq]
  have hlt := h.lt
  have hl := h.len
  rw [List.length_append] at hl
  have hi : i < D.length := by omega
  refine ⟨by rw [List.length_set]; exact h.len, by omega, ?_, by rw [h2, List.length_append, h.cnt]; rfl, ?_⟩
  · rw [h2, ← h.low, set_split D i x hi]
    have e : (D.take i).length = i := by rw [List.length_take]; omega
    rw [List.take_append, e, Nat.add_sub_cancel_left]
    rw [List.take_of_length_le (by rw [e]; omega)]
    rfl
  · rw [List.drop_set_of_lt (by omega)]
    have e := congrArg (List.drop 1) h.high
    rwa [List.drop_drop, List.drop_drop] at e
theorem DelI.done {q : BanM → Bool} {L Z D : List BanM} {i : Nat} (h : DelI q L Z i L.length D) : D = L.filter q ++ (((D.drop i).take (L.length - i)) ++ Z) ∧ (L.filter q).length = i := by
  have e1 := h.low
  have e2 := h.cnt
  rw [List.take_length] at e1 e2
  refine ⟨?_, e2⟩
  have e3 := h.high
  rw [List.drop_left] at e3
  rw [← e1]
  have hi := h.lt
  have e4 : (D.drop i).take (L.length - i) ++ Z = D.drop i := by
    rw [← e3]
    have := List.take_append_drop (L.length - i) (D.drop i)
    rw [List.drop_drop, show i + (L.length - i) = L.length by omega] at this
    exact this
  rw [e4, List.take_append_drop]
def RowB (w : World) (T : Nat) (D : List BanM) : Prop := Bk w T 114 (banR.flat D).toArray
theorem RowB.get {w : World} {T : Nat} {D : List BanM} (h : RowB w T D) {i : Nat} {x : BanM} (hx : D[i]? = some x) : w.cell? ⟨T, i * 2, none⟩ = some (.int .i64 x.addr) ∧ w.cell? ⟨T, i * 2 + 1, none⟩ = some (.int .i64 x.til) := by
  have h0 := banR_ok.flat_get D i 0 x hx (by decide)
  have h1 := banR_ok.flat_get D i 1 x hx (by decide)
  refine ⟨?_, ?_⟩
  · rw [Bk.cell h, List.getElem?_toArray]
    exact h0
  · rw [Bk.cell h, List.getElem?_toArray]
    exact h1
theorem RowB.set {w : World} {T : Nat} {D : List BanM} (h : RowB w T D) {i : Nat} (x : BanM) (hi : i < D.length) : RowB ((w.setCell ⟨T, i * 2, none⟩ (.int .i64 x.addr)).setCell ⟨T, i * 2 + 1, none⟩ (.int .i64 x.til)) T (D.set i x) := by
  have e := Bk.ovr_ (w := w) (banR.c x) (i * banR.k) w _ h
  rw [flat_set banR_ok D i x hi] at e
  exact e
theorem RowB.clear {w : World} {T : Nat} {A Y B : List BanM} (h : RowB w T (A ++ (Y ++ B))) : RowB (w.setCells T (A.length * 2) (banR.flat (List.replicate Y.length banR.z))) T (A ++ (List.replicate Y.length banR.z ++ B)) := by
  have e := Bk.ovr_ (w := w) (banR.flat (List.replicate Y.length banR.z)) (A.length * banR.k) w _ h
  rw [flat_put banR_ok A Y B _ (by rw [List.length_replicate])] at e
  exact e
theorem clear_run (w : World) (T n i m c : Nat) (D : List BanM) (h : RowB w T D) (hi : i + m ≤ D.length) (hm : 0 < m) (ty : TypeId) :
    (Builtin.clear_ #[76] ty #[.slice (some ⟨T, i * 2, none⟩) m c]).run Tryd.prog w = .ok (.tuple #[]) (w.setCells T (i * 2) (banR.flat (List.replicate m banR.z))) := by
  obtain ⟨inf, zv, hin, hz, hs, hby, hzc⟩ := banR_ok.info
  have hzr := zero_rows banR_ok zv hzc m
  have hfl := banR_ok.flat_len D
  have hfm := banR_ok.flat_len (List.replicate m banR.z)
  rw [List.length_replicate] at hfm
  change _ = m * 2 at hfm
  change _ = D.length * 2 at hfl
  have hst := run_storeCells_cells (P := Tryd.prog) T (i * 2) (banR.flat (List.replicate m banR.z)) 0 w (by
      intro j hj
      rw [hfm] at hj
      rw [Bk.cell h, List.getElem?_toArray, List.getElem?_eq_getElem (by omega)]
      rfl) (fun j hj => Bk.frozen h _) (banR_ok.flat_one _)
  simp only [Nat.add_zero] at hst
  have hv : (zeroValue 114).run Tryd.prog w = .ok zv w := by
    change Tryd.prog.info? 114 = _ at hin
    simp [zeroValue, typeInfo, hin, hz]
  obtain ⟨m', rfl⟩ : ∃ m', m = m' + 1 := ⟨m - 1, by omega⟩
  have hzr2 : (Builtin.zeroCells zv.cells (m' + 1)).toList = banR.flat (List.replicate (m' + 1) banR.z) := by rw [hzr]
  simp only [Builtin.clear_, List.getElem?_toArray]
  simp [run_underlying Tryd.underlying76, hv, hzr2, hst]
set_option maxHeartbeats 4000000 in
theorem del_any (fn : Nat) (lb : Array Value) (p : BanM → Bool) (eg : ∀ args w, (callFunc fn args).run Tryd.prog w = .ok (.enter fn args) w) (L : List BanM) (v : Value) (lo : Nat) (w : World)
    (h : MineR banR w lo v L) (hp : PredB (slb v) fn lb p w) :
    Calls Tryd.prog 72 #[v, .func (.func fn) #[] lb] w fun e w' => ∃ v', e = .returned v' ∧ MineR banR w' lo v' (L.filter (fun x => !p x)) ∧ But (slb v) w w' ∧ ∀ k, slb v' k → slb v k := by
  have hI := index_any (slb v) fn lb p eg L v w (h.rows banR_ok) hp
  obtain ⟨s0, c, rfl⟩ : ∃ s c, v = .slice s L.length c := h.slice
  have HP := Lib.hid hp
  have HM := Lib.hid h
  obtain ⟨q, hq⟩ : ∃ q : BanM → Bool, q = fun x => !p x := ⟨_, rfl⟩
  have HQ : Hid (∀ x, q x = !p x) := by show ∀ _, _; rw [hq]; exact fun _ => rfl
  rw [← hq]
  obtain ⟨R, hR⟩ : ∃ R, R = L.filter q := ⟨_, rfl⟩
  have HR := Lib.hid hR
  rw [← hR]
  clear hp h hq hR
  go_enter Tryd.func72, Tryd.ntmps72
  go_wp2_with fail
  refine hI.mono ?_
  rintro e w1 ⟨⟨i, rfl, hix⟩, hb1⟩
  have HB1 := Lib.hid hb1
  clear hI hb1
  rcases hix with ⟨rfl, hall⟩ | ⟨k0, x0, rfl, hk0, hp0, hbf⟩
  · have hf : R = L := HR.out.trans (List.filter_eq_self.2 (fun y hy => by rw [HQ.out, hall y hy]; rfl))
    have HF := Lib.hid hf
    clear hall hf
    go_wp2_with fail
    go_ret
    exact ⟨_, rfl, by rw [HF.out]; exact HM.out.keep HB1.out, But.of HB1.out, fun k h => h⟩
  · have hlt0 : k0 < L.length := (List.getElem?_eq_some_iff.1 hk0).1
    obtain ⟨T, z, hT, hc2, rfl, hcz, K⟩ : ∃ T z, lo ≤ T ∧ c < 9223372036854775808 ∧ s0 = some ⟨T, 0, none⟩ ∧ c = L.length + z ∧ RowB w T (L ++ List.replicate z banR.z) := by
      rcases HM.out with ⟨e, e2⟩ | ⟨T, cap, z, e, hc, hc2, hT, K⟩
      · rw [e2] at hlt0
        simp at hlt0
      · cases e
        exact ⟨T, z, hT, hc2, rfl, hc, K⟩
    obtain ⟨Z, hZ⟩ : ∃ Z, Z = List.replicate z banR.z := ⟨_, rfl⟩
    have HZ := Lib.hid hZ
    rw [← hZ] at K
    have HD0 : Hid (DelI q L Z k0 (k0 + 1) (L ++ Z)) := DelI.start hk0 (by rw [HQ.out, hp0]; rfl) (fun j y hj hy => by rw [HQ.out, hbf j y hj hy]; rfl)
    have HK : Hid (RowB w1 T (L ++ Z)) := Bk.keep K HB1.out
    have HC := Lib.hid hcz
    have HTw : Hid (T < w.heap.size) := Bk.lt K
    have hn63 : L.length < 9223372036854775808 := by omega
    have hcl : L.length ≤ c := by omega
    have d0 : ((k0 : Int) == -1) = false := beq_eq_false_iff_ne.2 (by omega)
    have q0 : (k0 : Int) + 1 ≤ 9223372036854775807 := by omega
    obtain ⟨n, hn⟩ : ∃ n, n = L.length := ⟨_, rfl⟩
    have HN := Lib.hid hn
    rw [← hn] at hn63 hlt0 hcl ⊢
    clear hcz hZ hk0 hp0 hbf K HM hn
    go_wp2_with fail
    go_loopw [5, 6, 7] (fun s5 s6 _ wr => ∃ (i j : Nat) (D : List BanM), s5 = .int .i64 i ∧ s6 = .int .i64 j ∧ j ≤ n ∧ Hid (DelI q L Z i j D) ∧ Hid (RowB wr T D) ∧ Hid (But (fun k => k = T) w wr)) (fun _ j _ _ => n - (intOf j).toNat)
    case atStart => exact ⟨k0, k0 + 1, L ++ Z, rfl, by simp, by omega, HD0.out, HK.out, But.of HB1.out⟩
    case round =>
      clear HD0 HK HB1 d0 q0
      obtain ⟨i, j, D, rfl, rfl, hjn, HD, HK, HB⟩ := hrel
      have hij := HD.out.lt
      by_cases hlt : j < n
      · have j1 : decide ((j : Int) < (n : Int)) = true := decide_eq_true (by omega)
        have q1 : (j : Int) + 1 ≤ 9223372036854775807 := by omega
        have q2 : (i : Int) + 1 ≤ 9223372036854775807 := by omega
        have hjL : j < L.length := by rw [← HN.out]; exact hlt
        obtain ⟨x, hx⟩ : ∃ x, L[j]? = some x := ⟨_, List.getElem?_eq_getElem hjL⟩
        have HX := Lib.hid hx
        have HJL := Lib.hid hjL
        obtain ⟨cj0, cj1⟩ := HK.out.get (HD.out.get hjL hx)
        have hDl : i < D.length := by rw [HD.out.len, List.length_append]; omega
        have HDL := Lib.hid hDl
        obtain ⟨y, hy⟩ : ∃ y, D[i]? = some y := ⟨_, List.getElem?_eq_getElem hDl⟩
        have HY := Lib.hid hy
        have hcall := HP.out (wr.alloc (.cells (bnL x).toArray 114)) x ((HB.out.alloc _).mono (fun k _ e => by subst e; exact slb_mk _ _ _ _))
        have hTl : T < wr.heap.size := Bk.lt HK.out
        have K8 : Bk (wr.alloc (.cells (bnL x).toArray 114)) wr.heap.size 114 (bnL x).toArray := Bk.new _ _ _
        have KT : RowB (wr.alloc (.cells (bnL x).toArray 114)) T D := Bk.alloc HK.out _
        have hBA : Below wr.heap.size wr (wr.alloc (.cells (bnL x).toArray 114)) := (Below.refl _ _).alloc (Nat.le_refl _) _
        have H8 : Hid (∀ w', Below (wr.alloc (.cells (bnL x).toArray 114)).heap.size (wr.alloc (.cells (bnL x).toArray 114)) w' → Bk w' wr.heap.size 114 (bnL x).toArray ∧ RowB w' T D ∧ But (fun k => k = T) w w') := by
          show ∀ _, _
          exact fun w' h => ⟨K8.keep h, Bk.keep KT h, HB.out.step (below_step hBA hBA.size h)⟩
        unfold bnV bnL at hcall
        obtain ⟨xa, xt⟩ := x
        change wr.cell? _ = some (.int .i64 xa) at cj0
        change wr.cell? _ = some (.int .i64 xt) at cj1
        simp only [] at hcall
        clear hjL hx hDl hy K8 KT hBA
        cases hqq : p ⟨xa, xt⟩ with
        | true =>
          rw [hqq] at hcall
          have HQQ : Hid (q ⟨xa, xt⟩ = false) := by show _ = _; rw [HQ.out, hqq]; rfl
          clear hqq
          go_wp2_with fail
          refine hcall.mono ?_
          rintro e w7 ⟨rfl, hb7⟩
          obtain ⟨k8, kT, b7⟩ := H8.out w7 hb7
          have HKT := Lib.hid kT
          have HB7 := Lib.hid b7
          clear k8 kT b7 hb7 hcall cj0 cj1
          go_wp2_with fail
          go_roundw
          case rel => exact ⟨i, j + 1, D, rfl, by simp, by omega, HD.out.skip HX.out HQQ.out, HKT.out, HB7.out⟩
          case measure => simp [intOf]; omega
        | false =>
          rw [hqq] at hcall
          have HQQ : Hid (q ⟨xa, xt⟩ = true) := by show _ = _; rw [HQ.out, hqq]; rfl
          clear hqq
          go_wp2_with fail
          refine hcall.mono ?_
          rintro e w7 ⟨rfl, hb7⟩
          obtain ⟨k8, kT, b7⟩ := H8.out w7 hb7
          have HKT := Lib.hid kT
          have HB7 := Lib.hid b7
          have c80 := k8.cell 0
          have c81 := k8.cell 1
          change w7.cell? _ = some (.int .i64 xa) at c80
          change w7.cell? _ = some (.int .i64 xt) at c81
          obtain ⟨ci0, ci1⟩ := kT.get HY.out
          have fi0 := Bk.frozen kT (i * 2)
          have fi1 := Bk.frozen kT (i * 2 + 1)
          have hT7 := Bk.lt kT
          have h87 := k8.lt
          have hin : i < n := by omega
          clear k8 kT b7 hb7 hcall cj0 cj1
          go_wp2_with fail
          go_roundw
          case rel => exact ⟨i + 1, j + 1, D.set i ⟨xa, xt⟩, by simp, by simp, by omega, HD.out.keep HJL.out HX.out HQQ.out, HKT.out.set ⟨xa, xt⟩ HDL.out, (HB7.out.set_ (.inl rfl) _ none _).set_ (.inl rfl) _ none _⟩
          case measure => simp [intOf]; omega
      · have j1 : decide ((j : Int) < (n : Int)) = false := decide_eq_false (by omega)
        obtain rfl : j = n := by omega
        have hdl := HD.out.len
        have hn := HN.out
        rw [List.length_append] at hdl
        have hcl : ∀ ty, (Builtin.clear_ #[76] ty #[.slice (some ⟨T, i * 2, none⟩) (j - i) (c - i)]).run Tryd.prog wr = .ok (.tuple #[]) (wr.setCells T (i * 2) (banR.flat (List.replicate (j - i) banR.z))) :=
          fun ty => clear_run wr T j i (j - i) (c - i) D HK.out (by omega) (by omega) ty
        have e0 : DelI q L Z i L.length D := by rw [← hn]; exact HD.out
        obtain ⟨e1, e2⟩ := e0.done
        have hKc : RowB (wr.setCells T (i * 2) (banR.flat (List.replicate (j - i) banR.z))) T (L.filter q ++ List.replicate (j - i + z) banR.z) := by
          have hk := HK.out
          rw [e1] at hk
          have hl : ((D.drop i).take (L.length - i)).length = j - i := by rw [List.length_take, List.length_drop]; omega
          have := RowB.clear hk
          rw [hl, e2, HZ.out, List.replicate_append_replicate] at this
          exact this
        have HKC := Lib.hid hKc
        have HBC : Hid (But (fun k => k = T) w (wr.setCells T (i * 2) (banR.flat (List.replicate (j - i) banR.z)))) := But.setCells (S := fun k => k = T) (show T = T from rfl) _ _ _ HB.out
        have HE2 := Lib.hid e2
        have hic : i ≤ c := by omega
        clear hdl hn e0 e1 e2 hKc hlt
        generalize banR.flat (List.replicate (j - i) banR.z) = ZC at *
        go_wp2_with fail
        go_ret
        refine ⟨_, rfl, .inr ⟨T, c, j - i + z, ?_, ?_, hc2, hT, ?_⟩, HBC.out.mono (fun k _ e => by subst e; exact slb_mk _ _ _ _), fun k h => by rw [slb_some h]; exact slb_mk _ _ _ _⟩
        · rw [HR.out, HE2.out]
          rfl
        · rw [HR.out, HE2.out]
          have := HC.out
          have := HN.out
          omega
        · rw [HR.out]
          exact HKC.out
end Go.Proofs.YtkpffjcdalclmaaDoor
