/- Texts in one: PeN, GrA, GrB, TkA. -/
import Derived.Test.YtkpffjcdalclmaaDoorZHrB
namespace Go.Proofs.YtkpffjcdalclmaaDoor
open Go.RowKit
set_option linter.unusedVariables false
set_option linter.unusedSimpArgs false
set_option maxRecDepth 100000
theorem fold_whole (MA Z : Array Value) (n : Nat) (hM : MA.size = n) (hZ : Z.size = n) : Array.foldl (fun (cs : Array Value) (x : Value × Nat) => cs.setIfInBounds x.snd x.fst) Z (MA.zipIdx 0) 0 n = MA := by
  have hs : (MA.zipIdx 0).size = n := by rw [Array.size_zipIdx, hM]
  have h := Great.foldl_set 0 MA.toList 0 Z
  simp only [Nat.zero_add] at h
  obtain ⟨h1, h2⟩ := h
  have e : Array.foldl (fun (cs : Array Value) (x : Value × Nat) => cs.setIfInBounds x.snd x.fst) Z (MA.zipIdx 0) 0 n = ((MA.toList.zipIdx 0).foldl (fun (cs : Array Value) (x : Value × Nat) => cs.setIfInBounds x.2 x.1) Z) := by
    rw [← hs, ← Array.foldl_toList, Array.toList_zipIdx]
  rw [e]
  apply Array.ext_getElem?
  intro k
  rw [h2]
  have hl : MA.toList.length = n := by rw [Array.length_toList, hM]
  by_cases hk : k < n
  · rw [if_pos ⟨by omega, by rw [hl]; omega, by omega⟩]
    simp
  · rw [if_neg (by rw [hl]; omega), Array.getElem?_eq_none (by omega), Array.getElem?_eq_none (by omega)]
def pe0 (n : Nat) (now : Int) : PeM := ⟨0, n, now, false, [], 0, false, false, 0⟩
def verM (n h : Nat) : MsI := ⟨{ ms0 with kd := 1, nc := n, ht := h }, hd0_is⟩
set_option maxHeartbeats 4000000 in
theorem newR {t1 t3 t4 t5 t6 t7 t9 t10 t11 t12 t13 t14 t15 t16 t17 t18 : Value} {Q : Exit → Act → World → Prop} (V : World) (g n : Nat) (now : Int) (MA : Array Value) (x : MsI) (hMA : MA = (msR.c x).toArray) (K : Bk V g 58 MA)
    (hQ : ∀ (x12 x13 x14 x15 x16 x17 x18 : Value) (p b : Nat) (w' : World), V.heap.size ≤ p → PeK w' p (pe0 n now) (.slice none 0 0) → V.heap.size ≤ b → Bk w' b 58 MA → Below V.heap.size V w' → Q .normal { tmps := List.toArray (.int .u64 (n : Int) :: t1 :: .int .i64 now :: t3 :: t4 :: t5 :: .pointer (some ⟨p, 0, none⟩) :: .slice (some ⟨b, 0, none⟩) 1 1 :: .pointer (some ⟨g, 0, none⟩) :: t9 :: t10 :: t11 :: x12 :: x13 :: x14 :: x15 :: x16 :: x17 :: x18 :: []), defers := [] } w') :
    Code.wp Tryd.prog (Code.region 2 #[{ dst := some 12, op := Op.move (Operand.tmp 0), type := 22, pos := "peer.go:37", after := #[], guard := none },
{ dst := some 13, op := Op.move (Operand.tmp 2), type := 3, pos := "peer.go:37", after := #[], guard := none },
{ dst := some 14, op := Op.build 63 #[(0, Operand.tmp 12), (1, Operand.tmp 13)], type := 63, pos := "peer.go:37", after := #[{ on := 0, ground := Ground.data }, { on := 1, ground := Ground.data }], guard := none },
{ dst := some 15, op := Op.build 65 #[(1, Operand.tmp 14)], type := 65, pos := "peer.go:37", after := #[{ on := 2, ground := Ground.data }], guard := none },
{ dst := some 16, op := Op.box 65 (Operand.tmp 15), type := 26, pos := "peer.go:37", after := #[{ on := 3, ground := Ground.data }], guard := none },
{ dst := some 17, op := Op.load 58 (Operand.tmp 8), type := 58, pos := "peer.go:37", after := #[{ on := 7, ground := Ground.gcOnly Departure.lateStores }], guard := none },
{ dst := some 18, op := Op.buildSlice 27 1 #[(0, Operand.tmp 17)], type := 27, pos := "peer.go:37", after := #[{ on := 5, ground := Ground.data }, { on := 7, ground := Ground.gcOnly Departure.lateStores }], guard := none },
{ dst := some 6, op := Op.assign (Operand.tmp 16), type := 26, pos := "peer.go:37", after := #[{ on := 4, ground := Ground.data }, { on := 0, ground := Ground.phase }, { on := 1, ground := Ground.phase }, { on := 2, ground := Ground.phase }, { on := 3, ground := Ground.phase }, { on := 4, ground := Ground.phase }, { on := 5, ground := Ground.textOnly Departure.lateStores }, { on := 6, ground := Ground.textOnly Departure.lateStores }], guard := none },
{ dst := some 7, op := Op.assign (Operand.tmp 18), type := 27, pos := "peer.go:37", after := #[{ on := 6, ground := Ground.data }, { on := 7, ground := Ground.chain }, { on := 0, ground := Ground.phase }, { on := 1, ground := Ground.phase }, { on := 2, ground := Ground.phase }, { on := 3, ground := Ground.phase }, { on := 4, ground := Ground.phase }, { on := 5, ground := Ground.phase }, { on := 6, ground := Ground.phase }, { on := 7, ground := Ground.phase }], guard := none }] true) Q { tmps := List.toArray (.int .u64 (n : Int) :: t1 :: .int .i64 now :: t3 :: t4 :: t5 :: t6 :: t7 :: .pointer (some ⟨g, 0, none⟩) :: t9 :: t10 :: t11 :: t12 :: t13 :: t14 :: t15 :: t16 :: t17 :: t18 :: []), defers := [] } V := by
  have HQ := Lib.hid hQ
  have hsz : MA.size = 106 := by rw [hMA]; exact msL_len x.2
  obtain ⟨tl, htl⟩ : ∃ tl : TypeId, tl = 58 := ⟨_, rfl⟩
  obtain ⟨sz, hsz0⟩ : ∃ sz : Nat, sz = 106 := ⟨_, rfl⟩
  have hag : ∀ w, (isAgg tl).run Tryd.prog w = .ok true w := by rw [htl]; exact fun w => by kernel_rfl
  have hszz : ∀ w, (sizeOf tl).run Tryd.prog w = .ok sz w := by rw [htl, hsz0]; exact fun w => by kernel_rfl
  have hlA : ∀ w', Below V.heap.size V w' → (loadCellsFrom ⟨g, 0, none⟩ 0 sz #[]).run Tryd.prog w' = .ok MA w' := fun w' h => by
    have e := run_loadCells_list (P := Tryd.prog) w' ⟨g, 0, none⟩ MA.toList (fun j v hv => by
      rw [Addr.add_mid, Nat.zero_add, (K.keep h).cell]
      simpa using hv)
    rw [Array.length_toList, hsz, Array.toArray_toList] at e
    rw [hsz0]
    exact e
  have zg := K.lt
  simp only [show ∀ z, Op.load 58 z = Op.load tl z from fun z => by rw [htl]]
  clear htl hsz0 hQ K hMA
  refine wp_region_noPanic ?_
  go_region_held (fun w' => Below V.heap.size V w')
    ((repeat' (first | with_reducible assumption | with_reducible exact Below.refl _ _ | with_reducible exact (Below.refl _ _).drew | with_reducible refine Below.drew ?_ | with_reducible refine Below.alloc ?_ ?_ _ | exact Nat.le_refl _ | (simp [World.drew]; done) | (simp [World.drew]; omega))))
    (fail)
  all_goals refine NoPanic.normal ?_
  all_goals rw [fold_whole MA _ 106 hsz rfl]
  · refine HQ.out _ _ _ _ _ _ _ V.heap.size (V.heap.size + 1) _ (Nat.le_refl _) ?_ (Nat.le_succ _) ?_ ?_
    · exact Bk.keep (Bk.keep (Bk.new V _ _) ((Below.refl _ _).alloc (Nat.le_refl _) _)) (Below.refl _ _).drew
    · exact Bk.keep (Bk.new' _ _ _ (by simp)) (Below.refl _ _).drew
    · exact ((((Below.refl _ _).alloc (Nat.le_refl _) _).alloc (by simp) _)).drew
  · refine HQ.out _ _ _ _ _ _ _ (V.heap.size + 1) V.heap.size _ (Nat.le_succ _) ?_ (Nat.le_refl _) ?_ ?_
    · exact Bk.keep (Bk.new' _ _ _ (by simp)) (Below.refl _ _).drew
    · exact Bk.keep (Bk.keep (Bk.new V _ _) ((Below.refl _ _).alloc (Nat.le_refl _) _)) (Below.refl _ _).drew
    · exact ((((Below.refl _ _).alloc (Nat.le_refl _) _).alloc (by simp) _)).drew
theorem ver_cells (n h : Nat) : ((Tryd.zeroCells58.setIfInBounds 0 (.int .i64 1)).setIfInBounds 1 (.int .u64 (n : Int))).setIfInBounds 2 (.int .u32 (h : Int)) = (msR.c (verM n h)).toArray := by
  rw [msz, ms_kd]
  rw [ms_nc { ms0 with kd := 1 } n, ms_ht { ms0 with kd := 1, nc := n } h]
  rfl
set_option maxHeartbeats 4000000 in
theorem new_any (n h : Nat) (now : Int) (w : World) :
    Calls Tryd.prog 12 #[.int .u64 (n : Int), .int .u32 (h : Int), .int .i64 now] w fun r w' => ∃ p b, r = .returned (.tuple #[.pointer (some ⟨p, 0, none⟩), .slice (some ⟨b, 0, none⟩) 1 1]) ∧ w.heap.size ≤ p ∧ PeK w' p (pe0 n now) (.slice none 0 0) ∧ w.heap.size ≤ b ∧ Bk w' b 58 (msR.c (verM n h)).toArray ∧ Below w.heap.size w w' := by
  obtain ⟨MA, hMA⟩ : ∃ MA, MA = ((Tryd.zeroCells58.setIfInBounds 0 (.int .i64 1)).setIfInBounds 1 (.int .u64 (n : Int))).setIfInBounds 2 (.int .u32 (h : Int)) := ⟨_, rfl⟩
  have hMR : MA = (msR.c (verM n h)).toArray := by rw [hMA]; exact ver_cells n h
  have HMR := Lib.hid hMR
  have ha106 : MA.size = 106 := by rw [hMR]; exact msL_len (verM n h).2
  have ho1 : MA.all (·.oneCell') = true := by rw [hMR]; exact all_oneCell_toArray (msL_one (verM n h).1)
  have K7 : Bk (w.alloc (.cells Tryd.zeroCells58 58)) w.heap.size 58 Tryd.zeroCells58 := Bk.new _ _ _
  have hth : (w.alloc (.cells Tryd.zeroCells58 58)).there w.heap.size 0 MA.size := Bk.there K7 _ (by rw [ha106, msz_len]; exact Nat.le_refl _)
  have hin : (Tryd.prog.info? 58).map (·.size) = some MA.size := by rw [ha106]; exact msi_r
  have K7' : Bk ((w.alloc (.cells Tryd.zeroCells58 58)).setCells w.heap.size 0 MA.toList) w.heap.size 58 MA := Bk.setAll K7 (by rw [ha106, msz_len])
  have hB7 : Below w.heap.size w ((w.alloc (.cells Tryd.zeroCells58 58)).setCells w.heap.size 0 MA.toList) := Below.setCells (Nat.le_refl _) _ _ _ ((Below.refl _ _).alloc (Nat.le_refl _) _)
  rw [hMA] at hth hin ho1 K7' hB7
  clear K7 ha106 hMR
  go_enter Tryd.func12, Tryd.ntmps12
  go_upto_region 2 with (refine wpList_store_mid rfl 58 (.tmp 8) (.tmp 11) rfl w.heap.size 0 (((Tryd.zeroCells58.setIfInBounds 0 (.int .i64 1)).setIfInBounds 1 (.int .u64 (n : Int))).setIfInBounds 2 (.int .u32 (h : Int))) rfl rfl hth hin ho1 ?_)
  rw [← hMA] at K7' hB7 ⊢
  refine wp_any (fun W => Below w.heap.size w W ∧ Bk W w.heap.size 58 MA) ⟨hB7, K7'⟩ ?_
  clear hth hin ho1 K7' hB7 hMA
  rintro W ⟨hW, K⟩
  obtain ⟨g, hg⟩ : ∃ g, g = w.heap.size := ⟨_, rfl⟩
  rw [← hg] at K ⊢
  have HW : Hid (Below w.heap.size w W) := hW
  have HG := Lib.hid hg
  clear hW hg
  refine newR W g n now MA (verM n h) HMR.out K (fun x12 x13 x14 x15 x16 x17 x18 p b w' hp hK hb hKb hB => ?_)
  have HE : Hid (∃ p' b', (Ending.returned (.tuple #[.pointer (some ⟨p, 0, none⟩), .slice (some ⟨b, 0, none⟩) 1 1]) : Ending) = .returned (.tuple #[.pointer (some ⟨p', 0, none⟩), .slice (some ⟨b', 0, none⟩) 1 1]) ∧ w.heap.size ≤ p' ∧ PeK w' p' (pe0 n now) (.slice none 0 0) ∧ w.heap.size ≤ b' ∧ Bk w' b' 58 (msR.c (verM n h)).toArray ∧ Below w.heap.size w w') :=
    ⟨p, b, rfl, Nat.le_trans HW.out.size hp, hK, Nat.le_trans HW.out.size hb, by rw [← HMR.out]; exact hKb, below_step HW.out HW.out.size hB⟩
  clear hp hK hb hKb hB K
  go_wp2_with fail
  go_ret2
  exact HE.out
end Go.Proofs.YtkpffjcdalclmaaDoor
namespace Go.Proofs.YtkpffjcdalclmaaDoor
open Go.RowKit
set_option linter.unusedVariables false
set_option linter.unusedSimpArgs false
set_option maxRecDepth 100000
theorem step_bsR2 {α : Type} {R : RowT α} (h : R.Ok) (hk : R.k ≤ 1000) {ops : Array Oper} {o : Oper} {a : Act} {w : World} {K : Act → World → Prop} {Q : Exit → Act → World → Prop} {E : Prop} (hg : o.guard = none) (k l : Operand) (ho : o.op = .buildSlice R.t 2 #[(0, k), (1, l)])
    (x y : α) (hev : a.eval k = .agg (R.c x).toArray) (hev2 : a.eval l = .agg (R.c y).toArray) (hK : K (a.put o.dst (.slice (some ⟨w.heap.size, 0, none⟩) 2 2)) (w.alloc (.cells (R.flat [x, y]).toArray R.e))) :
    if Region.wanted o (yielded ops a.tmps) = true then Oper.wp Tryd.prog o a w K Q else E := by
  have hw : Region.wanted o (yielded ops a.tmps) = true := by simp [Region.wanted, hg]
  rw [if_pos hw]
  obtain ⟨i, v, hi, hz, hs, hby, _⟩ := h.info
  have hb := h.bys
  refine wp_buildSlice R.t R.e 2 #[(0, k), (1, l)] ho _ i _ h.ht hi hz (by rw [hs]; omega) (by rw [hs]; have := h.pos; omega) ?_ hK
  have e1 : ((#[(0, k), (1, l)] : Array (Nat × Operand)).map fun (i, x) => (i, a.eval x)).toList = (([x, y].map fun x => Value.agg (R.c x).toArray).zipIdx 0).map fun x => (x.2, x.1) := by
    rw [Array.toList_map]
    simp [hev, hev2]
  have e2 : (R.flat [x, y]).toArray = (([x, y].map fun x => Value.agg (R.c x).toArray).flatMap fun v => v.cells.toList).toArray := by
    unfold RowT.flat
    simp [Value.cells]
  rw [e1, hs, e2]
  refine Great.fill_whole (by have := h.pos; omega) _ _ ?_ ?_
  · intro v hv
    simp only [List.map_cons, List.map_nil, List.mem_cons, List.not_mem_nil, or_false] at hv
    rcases hv with rfl | rfl
    · show (R.c x).toArray.size = R.k
      rw [List.size_toArray, h.len]
    · show (R.c y).toArray.size = R.k
      rw [List.size_toArray, h.len]
  · simp
theorem wpList_bsR2 {α : Type} {R : RowT α} (h : R.Ok) (hk : R.k ≤ 1000) {ops : Array Oper} {rest : List Oper} {o : Oper} {a : Act} {w : World} {Q : Exit → Act → World → Prop} (hg : o.guard = none) (k l : Operand) (ho : o.op = .buildSlice R.t 2 #[(0, k), (1, l)])
    (x y : α) (hev : a.eval k = .agg (R.c x).toArray) (hev2 : a.eval l = .agg (R.c y).toArray) (hK : wpList Tryd.prog ops Q rest (a.put o.dst (.slice (some ⟨w.heap.size, 0, none⟩) 2 2)) (w.alloc (.cells (R.flat [x, y]).toArray R.e))) : wpList Tryd.prog ops Q (o :: rest) a w :=
  wpList_plain hg fun K hh => by
    have s := step_bsR2 (Q := Q) (E := True) (ops := ops) h hk hg k l ho x y hev hev2 (K := K) (hh _ _ hK)
    have hw : Region.wanted o (yielded ops a.tmps) = true := by simp [Region.wanted, hg]
    rw [if_pos hw] at s
    exact s
theorem rowv_nil {α : Type} (R : RowT α) (w : World) (B : Nat) : RowV R w B (.slice none 0 0) [] := ⟨none, 0, rfl, Nat.le_refl _, by omega, fun h => absurd rfl h⟩
def verD (n h : Nat) : List Nat := toL 1 4 ++ (toL n 8 ++ toL h 4)
def helB (n h : Nat) : List Nat := encL (kindL 1) (verD n h) ++ (encL (kindL 2) [] ++ [])
theorem verD_len (n h : Nat) : (verD n h).length = 16 := by unfold verD; simp [toL_length]
theorem verD_lt (n h : Nat) : ∀ x ∈ verD n h, x < 256 := by
  intro x hx
  unfold verD at hx
  rcases List.mem_append.1 hx with hx | hx
  · exact toL_lt _ _ x hx
  · rcases List.mem_append.1 hx with hx | hx <;> exact toL_lt _ _ x hx
theorem helB_lt (n h : Nat) : ∀ x ∈ helB n h, x < 256 := by
  intro x hx
  unfold helB at hx
  rcases List.mem_append.1 hx with hx | hx
  · exact encL_lt _ _ (by decide) (verD_lt n h) x hx
  · rw [List.append_nil] at hx
    exact encL_lt _ _ (by decide) (by simp) x hx
theorem hel_feed (n h : Nat) : feedL ⟨[], 0, []⟩ (helB n h) = ⟨[], 0, [(kindL 1, verD n h), (kindL 2, [])]⟩ := by
  have e2 : ∀ x ∈ encL (kindL 2) [] ++ ([] : List Nat), x < 256 := by
    rw [List.append_nil]
    exact encL_lt _ _ (by decide) (by simp)
  unfold helB
  rw [feed_enc _ _ _ _ (kind_ok (by decide) (by decide)) (by rw [verD_len]; decide) (verD_lt n h) e2, feed_enc _ _ _ _ (kind_ok (by decide) (by decide)) (by decide) (by simp) (by simp), feedL_nil]
  rfl
theorem hel_all (n h : Nat) : allB [verM n h, vk2] = helB n h := by
  unfold allB helB
  rw [List.append_nil]
  show encB (verM n h).1 ++ (encB vk2.1 ++ []) = _
  rw [List.append_nil]
  have e1 : encB (verM n h).1 = encL (kindL 1) (verD n h) := rfl
  have e2 : encB vk2.1 = encL (kindL 2) [] := rfl
  rw [e1, e2]
theorem hearF_two (m : PeM) (f g : List Nat × List Nat) : hearF m [f, g] = ((hear1 (hear1 m f).1 g).1, (hear1 m f).2.1 ++ (hear1 (hear1 m f).1 g).2.1, (hear1 m f).2.2 ++ (hear1 (hear1 m f).1 g).2.2) := by simp [hearF]
theorem pe0_fs (n : Nat) (now : Int) : FsOk ⟨(pe0 n now).h, (pe0 n now).e, []⟩ := ⟨FOk.zero [], (by intro x hx; cases hx), (by intro x hx; cases hx)⟩
end Go.Proofs.YtkpffjcdalclmaaDoor
namespace Go.Proofs.YtkpffjcdalclmaaDoor
open Go.RowKit
set_option linter.unusedVariables false
set_option linter.unusedSimpArgs false
set_option maxRecDepth 100000
theorem ver_ok (n h : Nat) (hn : n < 18446744073709551616) (hh : h < 4294967296) (w : World) (B : Nat) : MsV w B (verM n h).1 ∧ MsFit (verM n h).1 :=
  ⟨⟨⟨⟨(by decide : (-9223372036854775808 : Int) ≤ 1), (by decide : (1 : Int) ≤ 9223372036854775807)⟩, hn, hh, hd0_is⟩, rowv_nil _ _ _, rowv_nil _ _ _, hd0_is, rowv_nil _ _ _, fun t ht => by cases ht⟩, Nat.zero_le _, Nat.zero_le _, fun _ => ⟨Nat.zero_le _, fun t ht => by cases ht⟩⟩
theorem vk2_ok (w : World) (B : Nat) : MsV w B vk2.1 ∧ MsFit vk2.1 :=
  ⟨⟨⟨⟨(by decide : (-9223372036854775808 : Int) ≤ 2), (by decide : (2 : Int) ≤ 9223372036854775807)⟩, (by decide : 0 < 18446744073709551616), (by decide : 0 < 4294967296), hd0_is⟩, rowv_nil _ _ _, rowv_nil _ _ _, hd0_is, rowv_nil _ _ _, fun t ht => by cases ht⟩, Nat.zero_le _, Nat.zero_le _, fun _ => ⟨Nat.zero_le _, fun t ht => by cases ht⟩⟩
theorem helB_len (n h : Nat) : (helB n h).length ≤ 1000 := by
  unfold helB
  rw [List.length_append, List.length_append, encL_len _ _ (by decide), encL_len _ _ (by decide), verD_len]
  decide
end Go.Proofs.YtkpffjcdalclmaaDoor
namespace Go.Proofs.YtkpffjcdalclmaaDoor
open Go.RowKit
set_option linter.unusedVariables false
set_option linter.unusedSimpArgs false
set_option maxRecDepth 100000
end Go.Proofs.YtkpffjcdalclmaaDoor
