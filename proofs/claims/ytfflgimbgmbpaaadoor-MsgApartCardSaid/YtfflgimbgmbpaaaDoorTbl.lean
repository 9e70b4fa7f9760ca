/-
  A block's bytes, as the document has them.
-/
import Derived.Test.YtfflgimbgmbpaaaDoorTkP
import Derived.Test.YtfflgimbgmbpaaaDoorBkZ
import Derived.Test.YtfflgimbgmbpaaaDoorHe5A
namespace Go.Proofs.YtfflgimbgmbpaaaDoor
open Go.RowKit
set_option linter.unusedVariables false
set_option linter.unusedSimpArgs false
set_option maxRecDepth 100000

theorem hd_aggB (w : World) : (isAgg 26).run Tryd.prog w = .ok true w := by kernel_rfl
theorem hd_sizeB (w : World) : (sizeOf 26).run Tryd.prog w = .ok 68 w := by kernel_rfl
theorem load_row (w : World) (b o : Nat) (L : List Value) (h : w.rangeAt b o L) : (loadCellsFrom ⟨b, o, none⟩ 0 L.length #[]).run Tryd.prog w = .ok L.toArray w := by
  exact run_loadCells_list (P := Tryd.prog) w ⟨b, o, none⟩ L (fun j v hv => by rw [Addr.add_mid]; exact h j v hv)
namespace rblock
set_option maxHeartbeats 8000000 in
theorem region1 {t0 t2 t3 t4 t5 t6 t7 t8 t9 t10 t11 t12 t13 t14 t15 t16 t17 t18 t19 t20 t21 t22 t23 t24 t25 t26 t27 t28 t29 : Value} {Q : Exit → Act → World → Prop} (V : World) (g1 n ls_c : Nat) (ls : Option Addr) (A : Array Value) (HL : List Value) (hA : HL.toArray = A) (h68 : HL.length = 68) (s1 s2 : ByteArray)
    (hrg : V.rangeAt g1 0 HL) (hg1 : g1 < V.heap.size) (c68 : V.cell? ⟨g1, 68, none⟩ = some (.slice ls n ls_c)) (hwn : IntKind.u64.wrap (n : Int) = (n : Int)) (hz1 : s1.size ≤ 80) (hz2 : s2.size ≤ 9)
    (HB5 : Hid (∀ W, Below V.heap.size V W → Calls Tryd.prog 64 #[.agg A] W fun e w' => e = .returned (.string s1) ∧ Below W.heap.size W w'))
    (HC6 : Hid (∀ W, Below V.heap.size V W → Calls Tryd.prog 65 #[.int .u64 (n : Int)] W fun e w' => e = .returned (.string s2) ∧ Below W.heap.size W w'))
    (hQ : ∀ (x5 x6 x7 x8 x9 x10 x11 x12 x13 : Value) (w' : World), Below V.heap.size V w' → Q .normal { tmps := List.toArray (t0 :: .pointer (some ⟨g1, 0, none⟩) :: t2 :: .string (s1 ++ s2) :: t4 :: x5 :: x6 :: x7 :: x8 :: x9 :: x10 :: x11 :: x12 :: x13 :: t14 :: t15 :: t16 :: t17 :: t18 :: t19 :: t20 :: t21 :: t22 :: t23 :: t24 :: t25 :: t26 :: t27 :: t28 :: t29 :: []), defers := [] } w') :
    Code.wp Tryd.prog (Code.region 1 #[{ dst := some 5, op := Op.fieldAddr 29 (Operand.tmp 1) 0, type := 0, pos := "ref.go:38", after := #[], guard := none },
{ dst := some 6, op := Op.load 26 (Operand.tmp 5), type := 26, pos := "ref.go:38", after := #[{ on := 0, ground := Ground.data }], guard := none },
{ dst := some 7, op := Op.call { callee := Callee.value (Operand.func 64), args := #[Operand.tmp 6], argTypes := #[26] }, type := 9, pos := "ref.go:38", after := #[{ on := 1, ground := Ground.data }], guard := none },
{ dst := some 8, op := Op.fieldAddr 29 (Operand.tmp 1) 1, type := 0, pos := "ref.go:38", after := #[], guard := none },
{ dst := some 9, op := Op.load 27 (Operand.tmp 8), type := 27, pos := "ref.go:38", after := #[{ on := 3, ground := Ground.data }], guard := none },
{ dst := some 10, op := Op.call { callee := Callee.builtin Builtin.len, args := #[Operand.tmp 9], argTypes := #[27] }, type := 3, pos := "ref.go:38", after := #[{ on := 4, ground := Ground.data }], guard := none },
{ dst := some 11, op := Op.convert 3 61 (Operand.tmp 10), type := 61, pos := "ref.go:38", after := #[{ on := 5, ground := Ground.data }], guard := none },
{ dst := some 12, op := Op.call { callee := Callee.value (Operand.func 65), args := #[Operand.tmp 11], argTypes := #[61] }, type := 9, pos := "ref.go:38", after := #[{ on := 6, ground := Ground.data }, { on := 2, ground := Ground.chain }], guard := none },
{ dst := some 13, op := Op.binOp BinOp.add 9 (Operand.tmp 7) (Operand.tmp 12) 9, type := 9, pos := "ref.go:38", after := #[{ on := 2, ground := Ground.data }, { on := 7, ground := Ground.data }], guard := none },
{ dst := some 3, op := Op.assign (Operand.tmp 13), type := 9, pos := "ref.go:38", after := #[{ on := 8, ground := Ground.data }, { on := 7, ground := Ground.chain }, { on := 0, ground := Ground.phase }, { on := 1, ground := Ground.phase }, { on := 2, ground := Ground.phase }, { on := 3, ground := Ground.phase }, { on := 4, ground := Ground.phase }, { on := 5, ground := Ground.phase }, { on := 6, ground := Ground.phase }, { on := 7, ground := Ground.phase }, { on := 8, ground := Ground.phase }], guard := none }] true) Q { tmps := List.toArray (t0 :: .pointer (some ⟨g1, 0, none⟩) :: t2 :: t3 :: t4 :: t5 :: t6 :: t7 :: t8 :: t9 :: t10 :: t11 :: t12 :: t13 :: t14 :: t15 :: t16 :: t17 :: t18 :: t19 :: t20 :: t21 :: t22 :: t23 :: t24 :: t25 :: t26 :: t27 :: t28 :: t29 :: []), defers := [] } V := by
  have HQ := Lib.hid hQ
  have e68 : ∀ w', Below V.heap.size V w' → w'.cell? ⟨g1, 68, none⟩ = some (.slice ls n ls_c) := fun w' h => (h.cell (p := ⟨g1, 68, none⟩) hg1).trans c68
  obtain ⟨tl, htl⟩ : ∃ tl : TypeId, tl = 26 := ⟨_, rfl⟩
  obtain ⟨sz, hsz0⟩ : ∃ sz : Nat, sz = 68 := ⟨_, rfl⟩
  have hag : ∀ w, (isAgg tl).run Tryd.prog w = .ok true w := by rw [htl]; exact hd_aggB
  have hsz : ∀ w, (sizeOf tl).run Tryd.prog w = .ok sz w := by rw [htl, hsz0]; exact hd_sizeB
  have hlA : ∀ w', Below V.heap.size V w' → (loadCellsFrom ⟨g1, 0, none⟩ 0 sz #[]).run Tryd.prog w' = .ok A w' := fun w' h => by
    have h1 := load_row w' g1 0 HL (rr_below hrg h hg1)
    rw [hA] at h1
    rw [hsz0, ← h68]
    exact h1
  simp only [show ∀ z, Op.load 26 z = Op.load tl z from fun z => by rw [htl]]
  clear htl hsz0 hQ hrg c68
  refine wp_region_noPanic ?_
  go_region_held (fun w' => Below V.heap.size V w')
    (first | with_reducible assumption | with_reducible exact Below.refl _ _ | with_reducible exact (Below.refl _ _).drew)
    (first
      | (go_at_call 64
         with_reducible refine (HB5.out _ (by first | with_reducible assumption | with_reducible exact (Below.refl _ _).drew | with_reducible exact Below.refl _ _)).mono ?_
         rintro e w6 ⟨rfl, hb6⟩
         have hE6 : Below V.heap.size V w6 := by
           refine below_step ?_ ?_ hb6
           · repeat' (first | with_reducible exact Below.refl _ _ | with_reducible assumption | with_reducible exact From.out (by with_reducible assumption) | with_reducible refine Below.drew ?_ | with_reducible refine Below.setCell ?_ ?_ _ | with_reducible refine Below.alloc ?_ ?_ _ | with_reducible exact Nat.le_refl _ | omega | (simp; done) | (simp; omega) | (simp [World.drew]; done) | (simp [World.drew]; omega))
           · first | omega | (simp; done) | (simp; omega) | (simp [World.drew]; done) | (simp [World.drew]; omega)
         have z6 := hE6.size)
      | (go_at_call 65
         with_reducible refine (HC6.out _ (by first | with_reducible assumption | with_reducible exact (Below.refl _ _).drew | with_reducible exact Below.refl _ _)).mono ?_
         rintro e w7 ⟨rfl, hb7⟩
         have hE7 : Below V.heap.size V w7 := by
           refine below_step ?_ ?_ hb7
           · repeat' (first | with_reducible exact Below.refl _ _ | with_reducible assumption | with_reducible exact From.out (by with_reducible assumption) | with_reducible refine Below.drew ?_ | with_reducible refine Below.setCell ?_ ?_ _ | with_reducible refine Below.alloc ?_ ?_ _ | with_reducible exact Nat.le_refl _ | omega | (simp; done) | (simp; omega) | (simp [World.drew]; done) | (simp [World.drew]; omega))
           · first | omega | (simp; done) | (simp; omega) | (simp [World.drew]; done) | (simp [World.drew]; omega)
         have z7 := hE7.size))
  all_goals first
    | exact NoPanic.normal (HQ.out _ _ _ _ _ _ _ _ _ _ hE7)
    | exact NoPanic.normal (HQ.out _ _ _ _ _ _ _ _ _ _ hE6)
end rblock

set_option maxHeartbeats 8000000 in
theorem r7block_any (b : BlkM) (w : World) (hV : BlkV w w.heap.size b) (hF : ∀ t ∈ b.txs, TxFit t) (hn : b.txs.length ≤ 40) :
    Calls Tryd.prog 25 #[.agg (blkL b).toArray] w fun e w' => e = .returned (.string (strN (blkB b))) ∧ Below w.heap.size w w' := by
  have HB5 : Hid (∀ W, Calls Tryd.prog 64 #[.agg (hdL b.hd).toArray] W fun e w' => e = .returned (.string (strN (hB b.hd))) ∧ Below W.heap.size W w') := fun W => bytes5_any b.hd W hV.1
  have HC6 : Hid (∀ W, Calls Tryd.prog 65 #[.int .u64 (b.txs.length : Int)] W fun e w' => e = .returned (.string (strN (countL b.txs.length))) ∧ Below W.heap.size W w') := fun W => rfcount_any b.txs.length W (by omega)
  have HBY : Hid (∀ t ∈ b.txs, ∀ W, Below w.heap.size w W → Calls Tryd.prog 66 #[.agg #[t.iv, t.ov]] W fun e w' => e = .returned (.string (strN (txB t))) ∧ Below W.heap.size W w') := fun t ht W h => r7bytes_any t W (((hV.2.2 t ht).keep h (Nat.le_refl _)).mono h.size) (hF t ht)
  have HRW : Hid (RowV txR w w.heap.size (.slice b.ls b.txs.length b.lc) b.txs) := hV.2.1
  have H68 := Lib.hid (blk_68 hV.1)
  unfold BlkM.lv at H68
  have HHD : Hid (∀ (W : World) (g : Nat), Bk W g 29 (blkL b).toArray → W.rangeAt g 0 (hdL b.hd)) := fun W g K => blk_head K
  have HHN := Lib.hid (hdL_length hV.1)
  have HX : Hid (blkB b = (hB b.hd ++ countL b.txs.length) ++ txsB (b.txs.take b.txs.length)) := by
    show _ = _
    rw [List.take_length]
    unfold blkB
    rw [List.append_assoc]
  have HS : Hid (∀ k t, b.txs[k]? = some t → txsB (b.txs.take (k + 1)) = txsB (b.txs.take k) ++ txB t) := fun k t h => by
    rw [List.take_add_one, h]
    unfold txsB
    simp
  have HTL : Hid (∀ k, (txsB (b.txs.take k)).length ≤ 460000) := fun k => Nat.le_trans (txsB_le b.txs k hF) (by omega)
  have HT4 : Hid (∀ t ∈ b.txs, (txB t).length ≤ 20000) := fun t ht => by have := txB_len t (hF t ht); omega
  obtain ⟨L, hLL⟩ : ∃ L, L = blkL b := ⟨_, rfl⟩
  rw [← hLL] at H68 HHD ⊢
  obtain ⟨TS, hTS⟩ : ∃ TS, TS = b.txs := ⟨_, rfl⟩
  rw [← hTS] at HRW HBY HX HS H68 HC6 hn HTL HT4
  obtain ⟨ls, hls⟩ : ∃ ls, ls = b.ls := ⟨_, rfl⟩
  rw [← hls] at HRW H68
  obtain ⟨lc, hlc⟩ : ∃ lc, lc = b.lc := ⟨_, rfl⟩
  rw [← hlc] at HRW H68
  obtain ⟨n, hn2⟩ : ∃ n, n = TS.length := ⟨_, rfl⟩
  have HN := Lib.hid hn2
  rw [← hn2] at HRW HX H68 HC6 hn
  obtain ⟨HL, hHL⟩ : ∃ HL, HL = hdL b.hd := ⟨_, rfl⟩
  rw [← hHL] at HHD HHN HB5
  obtain ⟨P, hP⟩ : ∃ P, P = hB b.hd ++ countL n := ⟨_, rfl⟩
  have HP : Hid (strN (hB b.hd) ++ strN (countL n) = strN (P ++ txsB (TS.take 0))) := by
    show _ = _
    rw [hP, List.take_zero, strN_append]
    show _ = strN (_ ++ [])
    rw [List.append_nil]
  rw [← hP] at HX
  obtain ⟨s1, hs1⟩ : ∃ s, s = strN (hB b.hd) := ⟨_, rfl⟩
  obtain ⟨s2, hs2⟩ : ∃ s, s = strN (countL n) := ⟨_, rfl⟩
  have HZ1 : Hid (s1.size ≤ 80) := by show _ ≤ _; rw [hs1, strN_size, hB_length hV.1]; exact Nat.le_refl _
  have HZ2 : Hid (s2.size ≤ 9) := by show _ ≤ _; rw [hs2, strN_size]; exact countL_len n
  have HPL : Hid (P.length ≤ 89) := by
    show _ ≤ _
    rw [hP, List.length_append, hB_length hV.1]
    have := countL_len n
    omega
  rw [← hs1] at HB5 HP
  rw [← hs2] at HC6 HP
  obtain ⟨Y, hY⟩ : ∃ Y, Y = blkB b := ⟨_, rfl⟩
  rw [← hY] at HX ⊢
  have hwn : IntKind.u64.wrap (n : Int) = (n : Int) := by
    simp [IntKind.wrap, IntKind.signed, IntKind.bits]
    omega
  have HW64 := Lib.hid hwn
  have HN40 := Lib.hid hn
  clear hV hF hLL hTS hls hlc hn2 hHL hP hs1 hs2 hY hn hwn
  go_enter Tryd.func25, Tryd.ntmps25
  go_upto_region 1 with fail
  refine wp_any (fun W => Below w.heap.size w W ∧ Bk W w.heap.size 29 L.toArray) ⟨(Below.refl _ _).alloc (Nat.le_refl _) _, Bk.new _ _ _⟩ ?_
  obtain ⟨g1, hg1⟩ : ∃ g, g = w.heap.size := ⟨_, rfl⟩
  have HG := Lib.hid hg1
  rw [← hg1]
  clear hg1
  rintro W ⟨hW, K1⟩
  have HW : Hid (Below w.heap.size w W) := by rw [← HG.out]; exact hW
  clear hW
  refine rblock.region1 W g1 n lc ls HL.toArray HL rfl HHN.out s1 s2 (HHD.out W g1 K1) K1.lt ((K1.cell 68).trans H68.out) HW64.out HZ1.out HZ2.out (fun W _ => HB5.out W) (fun W _ => HC6.out W) (fun x5 x6 x7 x8 x9 x10 x11 x12 x13 w' hb => ?_)
  replace K1 := K1.keep hb
  have HW1 := Lib.hid (below_step HW.out HW.out.size hb)
  rw [HP.out]
  obtain ⟨sk, hsk⟩ : ∃ s, s = strN (P ++ txsB (TS.take 0)) := ⟨_, rfl⟩
  have HSK := Lib.hid hsk
  rw [← hsk]
  clear hb HW hsk
  go_wp2_with fail
  go_loopw [3, 4] (fun sv i wr => ∃ (k : Nat) (u : ByteArray), k ≤ n ∧ sv = .string u ∧ i = .int .i64 k ∧ Hid (u = strN (P ++ txsB (TS.take k))) ∧ Hid (Below w.heap.size w wr) ∧ Bk wr g1 29 L.toArray) (fun _ i _ => n - (intOf i).toNat)
  case atStart => exact ⟨0, sk, Nat.zero_le _, rfl, rfl, HSK.out, HW1.out, K1⟩
  case round =>
    obtain ⟨k, u, hk, rfl, rfl, HU, HWr, Kr⟩ := hrel
    clear K1 HW1
    have c68 := (Kr.cell 68).trans H68.out
    have z1 := Kr.lt
    have hn40 := HN40.out
    by_cases hlt : k < n
    · obtain ⟨t, bb, o, hkt, rfl, hbw, hrg⟩ := row_at HRW.out k (by have := HN.out; omega)
      have j1 : decide ((k : Int) < (n : Int)) = true := decide_eq_true (by omega)
      have j2 : (k : Int) < (n : Int) := by omega
      replace hrg := rr_below hrg HWr.out hbw
      change wr.rangeAt bb (o + k * 2) [t.iv, t.ov] at hrg
      have c0_ : wr.cell? ⟨bb, o + k * 2, none⟩ = some t.iv := hrg 0 _ rfl
      have c1_ : wr.cell? ⟨bb, o + k * 2 + 1, none⟩ = some t.ov := hrg 1 _ rfl
      have hbr : bb < wr.heap.size := Nat.lt_of_lt_of_le hbw HWr.out.size
      have HC := Lib.hid (HBY.out t (List.mem_of_getElem? hkt) wr HWr.out)
      have HU2 : Hid (u ++ strN (txB t) = strN (P ++ txsB (TS.take (k + 1)))) := by
        show _ = _
        rw [HU.out, strN_append, HS.out k t hkt, List.append_assoc]
      have hzu : u.size ≤ 1000000 := by
        rw [HU.out, strN_size, List.length_append]
        have h1 := HTL.out k
        have h2 := HPL.out
        omega
      have hz4 : (strN (txB t)).size ≤ 20000 := by rw [strN_size]; exact HT4.out t (List.mem_of_getElem? hkt)
      obtain ⟨s4, hs4⟩ : ∃ s, s = strN (txB t) := ⟨_, rfl⟩
      rw [← hs4] at HC HU2 hz4
      obtain ⟨a, ha⟩ : ∃ a, a = t.iv := ⟨_, rfl⟩
      obtain ⟨b', hb'⟩ : ∃ b, b = t.ov := ⟨_, rfl⟩
      rw [← ha, ← hb'] at HC
      rw [← ha] at c0_
      rw [← hb'] at c1_
      obtain ⟨sa, na, ca, ea⟩ : ∃ s n c, a = .slice s n c := ⟨_, _, _, ha⟩
      obtain ⟨sb, nb, cb, eb⟩ : ∃ s n c, b' = .slice s n c := ⟨_, _, _, hb'⟩
      subst ea
      subst eb
      clear hrg hkt ha hb' hs4 HU
      go_wp2_with fail
      refine HC.out.mono ?_
      rintro e w5 ⟨rfl, hb5⟩
      replace Kr := Kr.keep hb5
      have HW5 := Lib.hid (below_step HWr.out HWr.out.size hb5)
      clear hb5 HC HWr c0_ c1_ hbr c68 z1
      go_wp2_with fail
      go_roundw
      case rel => exact ⟨k + 1, _, by omega, rfl, by go_num, HU2.out, HW5.out, Kr⟩
      case measure => simp [intOf]; omega
    · have hkn : k = n := by omega
      have j1 : decide ((k : Int) < (n : Int)) = false := decide_eq_false (by omega)
      have j0 : decide (k < n) = false := decide_eq_false (by omega)
      have HUE : Hid (u = strN Y) := by show _ = _; rw [HU.out, hkn, ← HX.out]
      clear hlt hkn HU hk
      go_wp2_with fail
      go_ret
      have h := HUE.out
      subst h
      exact ⟨rfl, HWr.out⟩
end Go.Proofs.YtfflgimbgmbpaaaDoor
