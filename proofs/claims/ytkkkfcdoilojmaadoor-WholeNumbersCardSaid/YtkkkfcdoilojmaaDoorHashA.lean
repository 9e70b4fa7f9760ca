/-
  The contracts of package hash's right, turn and schedule.
-/
import Derived.Test.YtkkkfcdoilojmaaDoorProg
import Derived.Test.YtkkkfcdoilojmaaDoorHashM
import Derived.IntWalk
import Derived.Test.YtkkkfcdoilojmaaDoorHashL
import Derived.Test.YtkkkfcdoilojmaaDoorArr
import Derived.WalkKit
import Derived.WalkLawsBesides
import Derived.RegionTactic
import Derived.BigRegion
import Derived.Outline
import Derived.LoopN
import Derived.Deep.MidRow
import Derived.Deep.QuietTactic
import Derived.BigQuiet
import Derived.Lib.Hide
namespace Go.Proofs.YtkkkfcdoilojmaaDoor
open Go.RowKit
set_option linter.unusedVariables false

theorem ret_u32 {a b : Int} (h : a = b) : Ending.returned (.int .u32 a) = .returned (.int .u32 b) := by rw [h]

theorem rotr_eq (x n : Nat) (hx : x < m32) (h1 : 1 ≤ n) (h2 : n ≤ 31) :
    bits BinOp.or IntKind.u32 (IntKind.u32.wrap ((x : Int) * 2 ^ (32 - n))) ((x : Int) / 2 ^ n) = ((rotr x n : Nat) : Int) := by
  have hm : m32 = 4294967296 := rfl
  have e1 : ((x : Int) / 2 ^ n) = ((x >>> n : Nat) : Int) := by
    rw [Nat.shiftRight_eq_div_pow, Int.natCast_ediv, Int.natCast_pow]; rfl
  have e2 : IntKind.u32.wrap ((x : Int) * 2 ^ (32 - n)) = (((x <<< (32 - n)) % m32 : Nat) : Int) := by
    rw [Nat.shiftLeft_eq, IntKind.wrap_u32', hm, Int.natCast_emod, Int.natCast_mul, Int.natCast_pow]; rfl
  have h3 : x >>> n < 4294967296 := by
    rw [Nat.shiftRight_eq_div_pow]
    exact Nat.lt_of_le_of_lt (Nat.div_le_self _ _) (by rw [← hm]; exact hx)
  have h4 : (x <<< (32 - n)) % m32 < 4294967296 := by rw [hm]; exact Nat.mod_lt _ (by decide)
  rw [e1, e2, u32_or_nat _ _ h4 h3]
  unfold rotr
  rw [Nat.or_comm]

theorem rotr_lt (x n : Nat) (hx : x < m32) : rotr x n < m32 := by
  unfold rotr
  rw [m32_pow] at *
  refine Nat.or_lt_two_pow ?_ (Nat.mod_lt _ (by decide))
  rw [Nat.shiftRight_eq_div_pow]
  exact Nat.lt_of_le_of_lt (Nat.div_le_self _ _) hx

set_option maxRecDepth 100000 in
set_option maxHeartbeats 400000 in
theorem right_any (x n : Nat) (w : World) (hx : x < m32) (h1 : 1 ≤ n) (h2 : n ≤ 31) :
    Calls Tryd.prog 61 #[.int .u32 (x : Int), .int .i64 (n : Int)] w fun e w' => e = .returned (.int .u32 ((rotr x n : Nat) : Int)) ∧ w = w' := by
  have hr := rotr_eq x n hx h1 h2
  have HR := Lib.hid hr
  clear hr
  have hw : IntKind.i64.wrap (-(n : Int)) = -(n : Int) := IntWalk.i64_in _ (by omega)
  have hu : IntKind.u64.wrap (-(n : Int)) = ((18446744073709551616 - n : Nat) : Int) := by rw [IntKind.wrap_u64]; omega
  have ha : bits BinOp.and IntKind.u64 ((18446744073709551616 - n : Nat) : Int) 31 = ((32 - n : Nat) : Int) := by
    have := u64_and_nat (18446744073709551616 - n) 31 (by omega) (by omega)
    rw [show ((31 : Nat) : Int) = 31 from rfl, nat_mask5] at this
    rw [this]
    omega
  clear hx
  go_enter Tryd.func61, Tryd.ntmps61
  go_wp2
  go_ret
  exact ⟨ret_u32 (by have := HR.out; rw [IntKind.wrap_u32'] at this; rwa [show 32 - (32 - n) = n from by omega]), rfl⟩

theorem right_at (x : Nat) (m : Int) (w : World) (hx : x < m32) (h1 : 1 ≤ m) (h2 : m ≤ 31) :
    Calls Tryd.prog 61 #[.int .u32 (x : Int), .int .i64 m] w fun e w' => e = .returned (.int .u32 ((rotr x m.toNat : Nat) : Int)) ∧ w = w' := by
  obtain ⟨n, rfl⟩ := Int.eq_ofNat_of_zero_le (show 0 ≤ m by omega)
  exact right_any x n w hx (by omega) (by omega)

theorem quiet_eq {P : Program} {f : FuncId} {args : Array Value} {w : World} {n : Nat} {v : Value}
    (h : Calls P f args (w.drewN n) fun e w' => e = .returned v ∧ w.drewN n = w') : Calls P f args (w.drewN n) fun e w'' => e = .returned v ∧ ∃ m, w'' = w.drewN m :=
  h.mono fun _ _ ⟨he, hm⟩ => ⟨he, n, hm.symm⟩
theorem below_drewN {B : Nat} {a w : World} (h : Below B a w) (n : Nat) : Below B a (w.drewN n) := ⟨h.os, h.tape, h.output, h.size, h.block⟩
theorem words8_info : (Tryd.prog.info? 69).map (·.size) = some 8 := by kernel_rfl
theorem words64_info : (Tryd.prog.info? 97).map (·.size) = some 64 := by kernel_rfl
theorem bytes64_info : (Tryd.prog.info? 70).map (·.size) = some 64 := by kernel_rfl
theorem rk_index (k : Nat) (hk : k < 64) (w : World) :
    (Instr.index 97 (.agg (wA rkL)) (.int .i64 (k : Int))).run Tryd.prog w = .ok (.int .u32 ((nth rkL k : Nat) : Int)) w :=
  run_index_arr (t := 97) (e := 59) (len := 64) (k := .u32) (by kernel_rfl) (by kernel_rfl) (by kernel_rfl) (wA rkL) k _ hk (wA_get rkL k hk) w
theorem rkL_lt (k : Nat) : nth rkL k < m32 := nth_lt rkL k m32 m32_pos (by decide)

theorem xor_lt32 {a b : Nat} (ha : a < m32) (hb : b < m32) : a ^^^ b < m32 := by rw [m32_pow] at *; exact Nat.xor_lt_two_pow ha hb
theorem and_lt32 {a b : Nat} (ha : a < m32) (hb : b < m32) : a &&& b < m32 := by rw [m32_pow] at *; exact Nat.and_lt_two_pow _ hb
theorem xor32 {a b : Nat} (ha : a < m32) (hb : b < m32) : bits BinOp.xor IntKind.u32 (a : Int) (b : Int) = ((a ^^^ b : Nat) : Int) := u32_xor_nat a b ha hb
theorem and32 {a b : Nat} (ha : a < m32) (hb : b < m32) : bits BinOp.and IntKind.u32 (a : Int) (b : Int) = ((a &&& b : Nat) : Int) := u32_and_nat a b ha hb
theorem or32 {a b : Nat} (ha : a < m32) (hb : b < m32) : bits BinOp.or IntKind.u32 (a : Int) (b : Int) = ((a ||| b : Nat) : Int) := u32_or_nat a b ha hb
theorem not32 {a : Nat} (ha : a < m32) : bits BinOp.xor IntKind.u32 (if IntKind.u32.signed = true then -1 else IntKind.u32.max) (a : Int) = ((m32 - 1 - a : Nat) : Int) := by
  have e : (if IntKind.u32.signed = true then -1 else IntKind.u32.max) = ((4294967295 : Nat) : Int) := rfl
  rw [e, u32_xor_nat _ _ (by decide) ha]
  congr 1
  have h : a < 2 ^ 32 := by rw [← m32_pow]; exact ha
  have hb : ∀ i, (4294967295 ^^^ a).testBit i = (m32 - 1 - a).testBit i := by
    intro i
    rw [Nat.testBit_xor, m32_pow, show (4294967295 : Nat) = 2 ^ 32 - 1 from rfl, Nat.testBit_two_pow_sub_one, Nat.sub_sub, Nat.add_comm 1 a, Nat.testBit_two_pow_sub_succ h]
    by_cases hi : i < 32
    · simp [hi]
    · have : a.testBit i = false := Nat.testBit_lt_two_pow (Nat.lt_of_lt_of_le h (Nat.pow_le_pow_right (by omega) (by omega)))
      simp [hi, this]
  exact Nat.eq_of_testBit_eq hb
theorem not_lt32 (a : Nat) : m32 - 1 - a < m32 := by have := m32_pos; omega

theorem rt1_int {h e f g k w : Nat} (he : e < m32) (hf : f < m32) (hg : g < m32) :
    (((h : Int) + bits BinOp.xor IntKind.u32 (bits BinOp.xor IntKind.u32 ((rotr e 6 : Nat) : Int) ((rotr e 11 : Nat) : Int)) ((rotr e 25 : Nat) : Int) +
      bits BinOp.xor IntKind.u32 (bits BinOp.and IntKind.u32 (e : Int) (f : Int)) (bits BinOp.and IntKind.u32 (bits BinOp.xor IntKind.u32 (if IntKind.u32.signed = true then -1 else IntKind.u32.max) (e : Int)) (g : Int)) + (k : Int) + (w : Int)) % 4294967296) = ((rt1 h e f g k w : Nat) : Int) := by
  rw [not32 he, and32 (not_lt32 e) hg, and32 he hf, xor32 (and_lt32 he hf) (and_lt32 (not_lt32 e) hg), xor32 (rotr_lt e 6 he) (rotr_lt e 11 he), xor32 (xor_lt32 (rotr_lt e 6 he) (rotr_lt e 11 he)) (rotr_lt e 25 he)]
  rfl
theorem rt2_int {a b c : Nat} (ha : a < m32) (hb : b < m32) (hc : c < m32) :
    ((bits BinOp.xor IntKind.u32 (bits BinOp.xor IntKind.u32 ((rotr a 2 : Nat) : Int) ((rotr a 13 : Nat) : Int)) ((rotr a 22 : Nat) : Int) +
      bits BinOp.xor IntKind.u32 (bits BinOp.xor IntKind.u32 (bits BinOp.and IntKind.u32 (a : Int) (b : Int)) (bits BinOp.and IntKind.u32 (a : Int) (c : Int))) (bits BinOp.and IntKind.u32 (b : Int) (c : Int))) % 4294967296) = ((rt2 a b c : Nat) : Int) := by
  rw [and32 ha hb, and32 ha hc, and32 hb hc, xor32 (and_lt32 ha hb) (and_lt32 ha hc), xor32 (xor_lt32 (and_lt32 ha hb) (and_lt32 ha hc)) (and_lt32 hb hc), xor32 (rotr_lt a 2 ha) (rotr_lt a 13 ha), xor32 (xor_lt32 (rotr_lt a 2 ha) (rotr_lt a 13 ha)) (rotr_lt a 22 ha)]
  rfl

set_option maxRecDepth 100000 in
set_option maxHeartbeats 1000000 in
theorem turn_any (s : S8) (plan : List Nat) (w : World) (hs : s.ok) (hl : plan.length = 64) (hp : ∀ x ∈ plan, x < m32) (hL : Laid w) :
    Calls Tryd.prog 57 #[.agg (wA s.toL), .agg (wA plan)] w fun e w' => e = .returned (.agg (wA (rnds plan s 64).toL)) ∧ Below w.heap.size w w' := by
  have HP := Lib.hid hp
  have HL := Lib.hid hl
  have hz := hL.size
  obtain ⟨_, ⟨tg, fg, hg⟩⟩ := hL
  have HG := Lib.hid hg
  clear hp hl hg
  go_enter Tryd.func57, Tryd.ntmps57
  go_wp2
  refine wp_any (fun W => Below w.heap.size w W ∧ Bk W w.heap.size 69 (wA s.toL) ∧ Bk W (w.heap.size + 1) 97 (wA plan) ∧ Bk W (w.heap.size + 2) 69 (wA (zeros 8)))
    ⟨(((Below.refl _ _).alloc (Nat.le_refl _) _).alloc (by simp) _).alloc (by simp; omega) _, ((Bk.new _ _ _).alloc _).alloc _, (Bk.new' _ _ _ (by simp)).alloc _, Bk.new' _ _ _ (by simp)⟩ ?_
  rintro W ⟨hW, W0, W1, W2⟩
  have c0 : W.cell? ⟨w.heap.size, 0, none⟩ = some (.int .u32 (s.a : Int)) := W0.cell 0
  have c1 : W.cell? ⟨w.heap.size, 1, none⟩ = some (.int .u32 (s.b : Int)) := W0.cell 1
  have c2 : W.cell? ⟨w.heap.size, 2, none⟩ = some (.int .u32 (s.c : Int)) := W0.cell 2
  have c3 : W.cell? ⟨w.heap.size, 3, none⟩ = some (.int .u32 (s.d : Int)) := W0.cell 3
  have c4 : W.cell? ⟨w.heap.size, 4, none⟩ = some (.int .u32 (s.e : Int)) := W0.cell 4
  have c5 : W.cell? ⟨w.heap.size, 5, none⟩ = some (.int .u32 (s.f : Int)) := W0.cell 5
  have c6 : W.cell? ⟨w.heap.size, 6, none⟩ = some (.int .u32 (s.g : Int)) := W0.cell 6
  have c7 : W.cell? ⟨w.heap.size, 7, none⟩ = some (.int .u32 (s.h : Int)) := W0.cell 7
  go_quiet (fail)
  have hgW : W.heap[1]? = some (.cells (wA rkL) tg fg) := (hW.block 1 (by omega)).trans HG.out
  have HGW := Lib.hid hgW
  clear hgW c0 c1 c2 c3 c4 c5 c6 c7
  go_wp2_with (refine wpList_load_row rfl 97 (.global 1) rfl 1 rfl tg (wA rkL) fg _ HGW.out Tryd.underlying97 rfl (by rw [wA_size]; exact words64_info) ?_)
  generalize hS0 : rnds plan s 0 = s0
  have hs0 : s0 = s := by rw [← hS0]; rfl
  go_loopw [5, 6, 7, 8, 9, 10, 11, 12, 34] (fun a b c d e f g h i wr => ∃ k : Nat, k ≤ 64 ∧ i = .int .i64 k ∧ (∃ S : S8, Hid (S = rnds plan s k) ∧ a = .int .u32 (S.a : Int) ∧ b = .int .u32 (S.b : Int) ∧ c = .int .u32 (S.c : Int) ∧ d = .int .u32 (S.d : Int) ∧ e = .int .u32 (S.e : Int) ∧ f = .int .u32 (S.f : Int) ∧ g = .int .u32 (S.g : Int) ∧ h = .int .u32 (S.h : Int)) ∧
    Below w.heap.size w wr ∧ Bk wr (w.heap.size + 1) 97 (wA plan) ∧ Bk wr (w.heap.size + 2) 69 (wA (zeros 8))) (fun _ _ _ _ _ _ _ _ i _ => 64 - (intOf i).toNat)
  case atStart => exact ⟨0, Nat.zero_le _, rfl, ⟨s, rfl, rfl, rfl, rfl, rfl, rfl, rfl, rfl, rfl⟩, below_drewN hW _, W1.drewN _, W2.drewN _⟩
  case round =>
    obtain ⟨k, hk, rfl, ⟨S, HS, rfl, rfl, rfl, rfl, rfl, rfl, rfl, rfl⟩, hbe, B1, B2⟩ := hrel
    have hok : S.ok := by rw [HS.out]; exact rnds_ok _ _ hs _
    have ha := hok.a
    have he := hok.e
    by_cases hlt : k < 64
    · have hi := rk_index k hlt
      have hc : wr.cell? ⟨w.heap.size + 1, k, none⟩ = some (.int .u32 ((nth plan k : Nat) : Int)) := by rw [B1.cell]; exact wA_get plan k (by rw [HL.out]; exact hlt)
      go_wp2_with fail
      go_quiet ((go_at_call 61; exact quiet_eq (right_at _ _ _ he (by decide) (by decide))))
      go_wp2_with (go_at_call 61; refine (right_at _ _ _ ha (by decide) (by decide)).mono ?_; rintro e w' ⟨rfl, rfl⟩)
      go_roundw
      case rel =>
        clear hi hc
        refine ⟨k + 1, by omega, by go_num, ⟨rnd S (nth rkL k) (nth plan k), ?_, ?_, rfl, rfl, rfl, ?_, rfl, rfl, rfl⟩, below_drewN hbe _, B1.drewN _, B2.drewN _⟩
        · show _ = _
          rw [HS.out]; rfl
        · rw [rt1_int he hok.f hok.g, rt2_int ha hok.b hok.c]; rfl
        · rw [rt1_int he hok.f hok.g]; rfl
      case measure => simp [intOf]; omega
    · have hk64 : k = 64 := by omega
      have HK := Lib.hid hk64
      clear hk64
      go_wp2_with (refine wpList_store_mid rfl 69 (.tmp 4) (.tmp 104) rfl (w.heap.size + 1 + 1) 0 (wA S.toL) rfl rfl (B2.there 8 (by rw [wA_size]; decide)) words8_info (all_oneCell_toArray (by intro v hv; simp only [List.mem_map] at hv; obtain ⟨x, _, rfl⟩ := hv; rfl)) ?_)
      refine bodyPost_ret (results_cell_row rfl _ _ (w.heap.size + 2) 69 (wA S.toL) (0, 0) _ rfl (B2.setAll (by rw [wA_size, wA_size]; rfl)) Tryd.underlying69 rfl (by rw [wA_size]; exact words8_info)) rfl ⟨?_, Below.setCells (by omega) _ _ _ hbe⟩
      rw [HS.out, HK.out]
end Go.Proofs.YtkkkfcdoilojmaaDoor
