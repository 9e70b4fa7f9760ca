/-
  The contract of package hash's schedule.
-/
import Derived.Test.YtkkkfcdoilojmaaDoorHashA
import Derived.StillTailTactics
import Derived.Deep.DeepCutAuto
namespace Go.Proofs.YtkkkfcdoilojmaaDoor
open Go.RowKit
set_option linter.unusedVariables false

theorem w16_int (blk : List Nat) (k : Nat) (hb : ∀ x ∈ blk, x < 256) :
    bits BinOp.or IntKind.u32 (bits BinOp.or IntKind.u32 (bits BinOp.or IntKind.u32 (IntKind.u32.wrap (IntKind.u32.wrap ((nth blk (4 * k) : Nat) : Int) * 16777216)) (IntKind.u32.wrap (IntKind.u32.wrap ((nth blk (4 * k + 1) : Nat) : Int) * 65536)))
      (IntKind.u32.wrap (IntKind.u32.wrap ((nth blk (4 * k + 2) : Nat) : Int) * 256))) (IntKind.u32.wrap ((nth blk (4 * k + 3) : Nat) : Int)) = ((w16 blk k : Nat) : Int) := by
  have h0 := nth_lt blk (4 * k) 256 (by omega) hb
  have h1 := nth_lt blk (4 * k + 1) 256 (by omega) hb
  have h2 := nth_lt blk (4 * k + 2) 256 (by omega) hb
  have h3 := nth_lt blk (4 * k + 3) 256 (by omega) hb
  unfold w16
  generalize nth blk (4 * k) = a at *
  generalize nth blk (4 * k + 1) = b at *
  generalize nth blk (4 * k + 2) = c at *
  generalize nth blk (4 * k + 3) = d at *
  have e0 : IntKind.u32.wrap (IntKind.u32.wrap (a : Int) * 16777216) = ((a * 16777216 : Nat) : Int) := by rw [IntKind.wrap_u32', IntKind.wrap_u32']; omega
  have e1 : IntKind.u32.wrap (IntKind.u32.wrap (b : Int) * 65536) = ((b * 65536 : Nat) : Int) := by rw [IntKind.wrap_u32', IntKind.wrap_u32']; omega
  have e2 : IntKind.u32.wrap (IntKind.u32.wrap (c : Int) * 256) = ((c * 256 : Nat) : Int) := by rw [IntKind.wrap_u32', IntKind.wrap_u32']; omega
  have e3 : IntKind.u32.wrap (d : Int) = ((d : Nat) : Int) := by rw [IntKind.wrap_u32']; omega
  have hm : m32 = 4294967296 := rfl
  rw [e0, e1, e2, e3, or32 (by omega) (by omega), or_join 24 (a * 16777216) (b * 65536) (by omega) (by omega), or32 (by omega) (by omega), or_join 16 (a * 16777216 + b * 65536) (c * 256) (by omega) (by omega), or32 (by omega) (by omega), or_join 8 _ d (by omega) (by omega)]

theorem shr_lt32 (x n : Nat) (hx : x < m32) : x >>> n < m32 := by
  rw [Nat.shiftRight_eq_div_pow]
  exact Nat.lt_of_le_of_lt (Nat.div_le_self _ _) hx
theorem ext_int {x y z t : Nat} (hx : x < m32) (hy : y < m32) :
    (bits BinOp.xor IntKind.u32 (bits BinOp.xor IntKind.u32 ((rotr y 17 : Nat) : Int) ((rotr y 19 : Nat) : Int)) ((y : Int) / 1024) + (z : Int) +
      bits BinOp.xor IntKind.u32 (bits BinOp.xor IntKind.u32 ((rotr x 7 : Nat) : Int) ((rotr x 18 : Nat) : Int)) ((x : Int) / 8) + (t : Int)) % 4294967296 = ((extw x y z t : Nat) : Int) := by
  have e1 : ((y : Int) / (1024 : Int)) = ((y >>> 10 : Nat) : Int) := by rw [Nat.shiftRight_eq_div_pow, Int.natCast_ediv]; rfl
  have e2 : ((x : Int) / (8 : Int)) = ((x >>> 3 : Nat) : Int) := by rw [Nat.shiftRight_eq_div_pow, Int.natCast_ediv]; rfl
  rw [e1, e2, xor32 (rotr_lt y 17 hy) (rotr_lt y 19 hy), xor32 (rotr_lt x 7 hx) (rotr_lt x 18 hx), xor32 (xor_lt32 (rotr_lt y 17 hy) (rotr_lt y 19 hy)) (shr_lt32 y 10 hy), xor32 (xor_lt32 (rotr_lt x 7 hx) (rotr_lt x 18 hx)) (shr_lt32 x 3 hx)]
  rfl

set_option maxRecDepth 100000 in
set_option maxHeartbeats 6000000 in
theorem schedule_any (blk : List Nat) (w : World) (hl : blk.length = 64) (hb : ∀ x ∈ blk, x < 256) :
    Calls Tryd.prog 58 #[.agg (idA blk)] w fun e w' => e = .returned (.agg (wA (sched blk 48))) ∧ Below w.heap.size w w' := by
  have HL := Lib.hid hl
  have HB := Lib.hid hb
  clear hl hb
  go_enter Tryd.func58, Tryd.ntmps58
  go_wp2
  refine wp_any (fun W => Below w.heap.size w W ∧ Bk W w.heap.size 70 (idA blk) ∧ Bk W (w.heap.size + 1) 97 (wA (zeros 64)) ∧ Bk W (w.heap.size + 2) 97 (wA (zeros 64)))
    ⟨(((Below.refl _ _).alloc (Nat.le_refl _) _).alloc (by simp) _).alloc (by simp; omega) _, ((Bk.new _ _ _).alloc _).alloc _, (Bk.new' _ _ _ (by simp)).alloc _, Bk.new' _ _ _ (by simp)⟩ ?_
  rintro W ⟨hW, W0, W1, W2⟩
  go_loopw [10] (fun i wr => ∃ k : Nat, k ≤ 16 ∧ i = .int .i64 k ∧ Below w.heap.size w wr ∧ Bk wr w.heap.size 70 (idA blk) ∧ Bk wr (w.heap.size + 1) 97 (wA (zeros 64)) ∧
    (∃ l : List Nat, Hid (l = (List.range k).map (w16 blk)) ∧ Bk wr (w.heap.size + 2) 97 (wA (l ++ zeros (64 - l.length))))) (fun i _ => 16 - (intOf i).toNat)
  case atStart => exact ⟨0, Nat.zero_le _, rfl, hW, W0, W1, ⟨[], rfl, W2⟩⟩
  case round =>
    obtain ⟨k, hk, rfl, hbe, B0, B1, ⟨l, HLl, B2⟩⟩ := hrel
    have hll : l.length = k := by rw [HLl.out]; simp
    by_cases hlt : k < 16
    · have c0 : wr.cell? ⟨w.heap.size, 4 * k, none⟩ = some (.int .u8 ((nth blk (4 * k) : Nat) : Int)) := by rw [B0.cell]; exact idA_get blk _ (by rw [HL.out]; omega)
      have c1 : wr.cell? ⟨w.heap.size, 4 * k + 1, none⟩ = some (.int .u8 ((nth blk (4 * k + 1) : Nat) : Int)) := by rw [B0.cell]; exact idA_get blk _ (by rw [HL.out]; omega)
      have c2 : wr.cell? ⟨w.heap.size, 4 * k + 2, none⟩ = some (.int .u8 ((nth blk (4 * k + 2) : Nat) : Int)) := by rw [B0.cell]; exact idA_get blk _ (by rw [HL.out]; omega)
      have c3 : wr.cell? ⟨w.heap.size, 4 * k + 3, none⟩ = some (.int .u8 ((nth blk (4 * k + 3) : Nat) : Int)) := by rw [B0.cell]; exact idA_get blk _ (by rw [HL.out]; omega)
      have f0 := B2.frozen k
      have d0 : wr.cell? ⟨w.heap.size + 2, k, none⟩ = some (.int .u32 ((0 : Nat) : Int)) := by
        rw [B2.cell, wA_get _ _ (by rw [fill_length _ _ (by omega)]; omega), nth_fill_zero _ _ _ (by omega)]
      have i0 : (0 : Int) ≤ 4 * (k : Int) := by omega
      have i1 : 4 * (k : Int) + 3 < 64 := by omega
      have HLL := Lib.hid hll
      clear hll
      go_wp2_with fail
      have q0 : IntKind.i64.wrap (4 * (k : Int)) = 4 * (k : Int) := IntWalk.i64_in _ (by omega)
      have q1 : IntKind.i64.wrap (4 * (k : Int) + 1) = 4 * (k : Int) + 1 := IntWalk.i64_in _ (by omega)
      have q2 : IntKind.i64.wrap (4 * (k : Int) + 2) = 4 * (k : Int) + 2 := IntWalk.i64_in _ (by omega)
      have q3 : IntKind.i64.wrap (4 * (k : Int) + 3) = 4 * (k : Int) + 3 := IntWalk.i64_in _ (by omega)
      have n0 : (4 * (k : Int)).toNat = 4 * k := by omega
      have n1 : (4 * (k : Int) + 1).toNat = 4 * k + 1 := by omega
      have n2 : (4 * (k : Int) + 2).toNat = 4 * k + 2 := by omega
      have n3 : (4 * (k : Int) + 3).toNat = 4 * k + 3 := by omega
      have j0 : 4 * (k : Int) < 64 := by omega
      have j1 : (0 : Int) ≤ 4 * (k : Int) + 1 := by omega
      have j2 : (0 : Int) ≤ 4 * (k : Int) + 2 := by omega
      have j3 : (0 : Int) ≤ 4 * (k : Int) + 3 := by omega
      have j4 : 4 * (k : Int) + 1 < 64 := by omega
      have j5 : 4 * (k : Int) + 2 < 64 := by omega
      have j6 : (0 : Int) ≤ (k : Int) := by omega
      have j7 : (k : Int) < 64 := by omega
      have hz := B2.lt
      go_still_tail 31, (by kernel_rfl)
      clear q0 q1 q2 q3 n0 n1 n2 n3
      change wpList _ _ _ _ _ wr.drew
      go_wp2_with fail
      go_roundw
      case rel =>
        refine ⟨k + 1, by omega, by go_num, (hbe.setCell (by show w.heap.size ≤ w.heap.size + 1 + 1; omega) _).drew, (B0.far (by show w.heap.size ≠ w.heap.size + 1 + 1; omega) _).drew, (B1.far (by show w.heap.size + 1 ≠ w.heap.size + 1 + 1; omega) _).drew, ⟨l ++ [w16 blk k], ?_, ((B2.fill HLL.out (by omega) ?_)).drew⟩⟩
        · show _ = _
          rw [HLl.out, List.range_succ, List.map_append]; rfl
        · exact w16_int blk k HB.out
      case measure => simp [intOf]; omega
    · have hk16 : k = 16 := by omega
      have HK := Lib.hid hk16
      have hl16 : l.length = 16 := by omega
      have HL16 := Lib.hid hl16
      clear hk16 hl16 hll
      have hz := B2.lt
      have B2' : Bk wr (w.heap.size + 2) 97 (wA (sched blk 0 ++ zeros (48 - 0))) := by
        have e : l ++ zeros (64 - l.length) = sched blk 0 ++ zeros (48 - 0) := by rw [HL16.out, HLl.out, HK.out]; rfl
        rwa [e] at B2
      clear B2
      obtain ⟨wo, rfl⟩ : ∃ wo : World, wo = wr := ⟨_, rfl⟩
      go_wp2_with fail
      go_loopw [5] (fun i wr => ∃ j : Nat, 16 ≤ j ∧ j ≤ 64 ∧ i = .int .i64 j ∧ Below w.heap.size w wr ∧ Bk wr (w.heap.size + 1) 97 (wA (zeros 64)) ∧
        (∃ l : List Nat, Hid (l = sched blk (j - 16)) ∧ Bk wr (w.heap.size + 2) 97 (wA (l ++ zeros (64 - l.length))))) (fun i _ => 64 - (intOf i).toNat)
      case atStart =>
        refine ⟨16, by omega, by omega, rfl, hbe, B1, ⟨sched blk 0, rfl, ?_⟩⟩
        have e : 64 - (sched blk 0).length = 48 - 0 := by rw [sched_length]
        rw [e]; exact B2'
      case round =>
        obtain ⟨j, hj0, hj, rfl, hbe, B1, ⟨l, HLl, B2⟩⟩ := hrel
        have hll : l.length = j := by rw [HLl.out, sched_length]; omega
        by_cases hlt : j < 64
        · have hlx : ∀ x ∈ l, x < m32 := by rw [HLl.out]; exact sched_lt blk HB.out _
          have x0 : nth l (j - 15) < m32 := nth_lt l _ m32 m32_pos hlx
          have x1 : nth l (j - 2) < m32 := nth_lt l _ m32 m32_pos hlx
          clear hlx
          have hcell : ∀ i, i < j → wr.cell? ⟨w.heap.size + 2, i, none⟩ = some (.int .u32 ((nth l i : Nat) : Int)) := by
            intro i hi
            rw [B2.cell, wA_get _ _ (by rw [fill_length _ _ (by omega)]; omega), nth_fill _ _ _ (by omega)]
          have c0 := hcell (j - 15) (by omega)
          have c1 := hcell (j - 2) (by omega)
          have c2 := hcell (j - 7) (by omega)
          have c3 := hcell (j - 16) (by omega)
          clear hcell
          have d0 : wr.cell? ⟨w.heap.size + 2, j, none⟩ = some (.int .u32 ((0 : Nat) : Int)) := by
            rw [B2.cell, wA_get _ _ (by rw [fill_length _ _ (by omega)]; omega), nth_fill_zero _ _ _ (by omega)]
          have f0 := B2.frozen j
          have hz := B2.lt
          have HLL := Lib.hid hll
          clear hll
          have j0 : (0 : Int) ≤ (j : Int) - 15 := by omega
          have j1 : (j : Int) - 15 < 64 := by omega
          have j2 : (0 : Int) ≤ (j : Int) - 2 := by omega
          have j3 : (j : Int) - 2 < 64 := by omega
          have j4 : (0 : Int) ≤ (j : Int) - 7 := by omega
          have j5 : (j : Int) - 7 < 64 := by omega
          have j6 : (0 : Int) ≤ (j : Int) - 16 := by omega
          have j7 : (j : Int) - 16 < 64 := by omega
          have j8 : (j : Int) < 64 := by omega
          have j9 : (0 : Int) ≤ (j : Int) := by omega
          have j10 : (7 : Int) ≤ (j : Int) := by omega
          have j11 : (16 : Int) ≤ (j : Int) := by omega
          have j12 : 7 ≤ j := by omega
          go_wp2_with fail
          have q0 : IntKind.i64.wrap ((j : Int) - 15) = (j : Int) - 15 := IntWalk.i64_in _ (by omega)
          have q1 : IntKind.i64.wrap ((j : Int) - 2) = (j : Int) - 2 := IntWalk.i64_in _ (by omega)
          have q2 : IntKind.i64.wrap ((j : Int) - 7) = (j : Int) - 7 := IntWalk.i64_in _ (by omega)
          have q3 : IntKind.i64.wrap ((j : Int) - 16) = (j : Int) - 16 := IntWalk.i64_in _ (by omega)
          have n0 : ((j : Int) - 15).toNat = j - 15 := by omega
          have n1 : ((j : Int) - 2).toNat = j - 2 := by omega
          have n2 : ((j : Int) - 7).toNat = j - 7 := by omega
          have n3 : ((j : Int) - 16).toNat = j - 16 := by omega
          have Q2 := Lib.hid q2
          have Q3 := Lib.hid q3
          have N2 := Lib.hid n2
          have N3 := Lib.hid n3
          clear q2 q3 n2 n3
          go_quiet (fail)
          clear q0 q1 n0 n1
          go_wp2_with (go_at_call 61; refine (right_at _ _ _ (by assumption) (by decide) (by decide)).mono ?_; rintro e w' ⟨rfl, rfl⟩)
          refine wp_any (fun W => Below w.heap.size w W ∧ Bk W (w.heap.size + 1) 97 (wA (zeros 64)) ∧ Bk W (w.heap.size + 2) 97 (wA (l ++ zeros (64 - l.length))) ∧
            W.cell? ⟨w.heap.size + 2, j - 7, none⟩ = some (.int .u32 ((nth l (j - 7) : Nat) : Int)) ∧ W.cell? ⟨w.heap.size + 2, j - 16, none⟩ = some (.int .u32 ((nth l (j - 16) : Nat) : Int)) ∧ W.cell? ⟨w.heap.size + 2, j, none⟩ = some (.int .u32 ((0 : Nat) : Int))) ⟨below_drewN hbe _, B1.drewN _, B2.drewN _, c2, c3, d0⟩ ?_
          clear hbe B1 B2 c0 c1 c2 c3 d0 f0 hz
          rintro W3 ⟨hbe, B1, B2, c2, c3, d0⟩
          have f0 := B2.frozen j
          have hz := B2.lt
          have q2 := Q2.out
          have q3 := Q3.out
          have n2 := N2.out
          have n3 := N3.out
          go_still_tail 15, (by kernel_rfl)
          clear q2 q3 n2 n3
          change wpList _ _ _ _ _ W3.drew
          go_wp2_with fail
          go_roundw
          case rel =>
            obtain ⟨n, rfl⟩ : ∃ n, j = n + 16 := ⟨j - 16, by omega⟩
            refine ⟨n + 16 + 1, by omega, by omega, by go_num, (hbe.setCell (by show w.heap.size ≤ w.heap.size + 1 + 1; omega) _).drew, (B1.far (by show w.heap.size + 1 ≠ w.heap.size + 1 + 1; omega) _).drew, ⟨_, ?_, (B2.fill (x := extw (nth l (n + 1)) (nth l (n + 14)) (nth l (n + 9)) (nth l n)) HLL.out (by omega) ?_).drew⟩⟩
            · show _ = _
              have e1 := HLl.out
              rw [show n + 16 - 16 = n from by omega] at e1
              rw [show n + 16 + 1 - 16 = n + 1 from by omega, e1]; rfl
            · rw [show n + 16 - 2 = n + 14 from by omega, show n + 16 - 7 = n + 9 from by omega, show n + 16 - 15 = n + 1 from by omega, show n + 16 - 16 = n from by omega] at *
              exact ext_int x0 x1
          case measure => simp [intOf]; omega
        · have hj64 : j = 64 := by omega
          have e1 : l ++ zeros (64 - l.length) = sched blk 48 := by
            rw [hll, hj64, HLl.out, hj64]
            exact List.append_nil _
          rw [e1] at B2
          have hs : (sched blk 48).length = 64 := by rw [sched_length]
          have HS := Lib.hid hs
          have HJ := Lib.hid hj64
          generalize hsc : sched blk 48 = sc at *
          have HSC := Lib.hid hsc
          clear hsc
          clear hs hj64 e1 hll
          have hz := B2.lt
          have hdj : decide ((j : Int) < 64) = false := decide_eq_false (by omega)
          clear hlt hj hj0
          go_wp2_with (first | (refine wpList_load_row rfl 97 (.tmp 3) rfl (w.heap.size + 2) rfl 97 (wA (sc)) (0, 0) _ B2 Tryd.underlying97 rfl (by rw [wA_size, HS.out]; exact words64_info) ?_) | (refine wpList_store_mid rfl 97 (.tmp 2) (.tmp 88) rfl (w.heap.size + 1) 0 (wA (sc)) rfl rfl (by rw [wA_size, HS.out]; exact B1.there 64 (by rw [wA_size]; decide)) (by rw [wA_size, HS.out]; exact words64_info) (all_oneCell_toArray (by intro v hv; simp only [List.mem_map] at hv; obtain ⟨x, _, rfl⟩ := hv; rfl)) ?_))
          refine bodyPost_ret (results_cell_row rfl _ _ (w.heap.size + 1) 97 (wA (sc)) (0, 0) _ rfl (B1.setAll (by rw [wA_size, wA_size, HS.out]; rfl)) Tryd.underlying97 rfl (by rw [wA_size, HS.out]; exact words64_info)) rfl ⟨?_, Below.setCells (by omega) _ _ _ hbe⟩
          rw [HSC.out]
end Go.Proofs.YtkkkfcdoilojmaaDoor
