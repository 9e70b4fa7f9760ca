/-
  Contracts of package bits: move.
-/
import Derived.Test.YtljfhabhenaapaaDoorNumI
import Derived.Test.YtljfhabhenaapaaDoorNumN
import Derived.Test.YtljfhabhenaapaaDoorNumR
import Derived.Test.YtljfhabhenaapaaDoorCnt
namespace Go.Proofs.YtljfhabhenaapaaDoor
open Go.RowKit
set_option maxRecDepth 100000
set_option linter.unusedVariables false

/-- A number times 256 to the power of n, rounded down, and cut to 256 bits. -/
def mv (a : Nat) (n : Int) : Nat := if n < 0 then a / 2 ^ (8 * (-n).toNat) else a * 2 ^ (8 * n.toNat) % M256
theorem M256_pos' : 0 < M256 := by rw [M256_pow]; exact Nat.two_pow_pos 256
theorem mv_lt (a : Nat) (n : Int) (ha : a < M256) : mv a n < M256 := by
  unfold mv
  split
  · exact Nat.lt_of_le_of_lt (Nat.div_le_self _ _) ha
  · exact Nat.mod_lt _ M256_pos'
theorem shr_mv (a : Nat) (n : Int) (w : World) (ha : a < M256) (hn : n < 0) :
    Calls Tryd.prog 73 #[nv a, .int .i64 (-n * 8)] w fun e w' => e = .returned (nv (mv a n)) ∧ Below w.heap.size w w' := by
  unfold mv
  rw [if_pos hn]
  obtain ⟨k, rfl⟩ : ∃ k : Nat, n = -(k : Int) := ⟨(-n).toNat, by omega⟩
  rw [Int.neg_neg, Int.toNat_natCast, show ((k : Int) * 8) = ((8 * k : Nat) : Int) from by omega]
  by_cases h : 8 * k < 256
  · exact shr_any a (8 * k) w ha h
  · have e : a / 2 ^ (8 * k) = 0 := Nat.div_eq_of_lt (Nat.lt_of_lt_of_le ha (by rw [M256_pow]; exact Nat.pow_le_pow_right (by omega) (by omega)))
    rw [e]
    exact shr_none a _ w (.inr (by omega))
theorem shl_mv (a : Nat) (n : Int) (w : World) (ha : a < M256) (hn : ¬ n < 0) :
    Calls Tryd.prog 74 #[nv a, .int .i64 (n * 8)] w fun e w' => e = .returned (nv (mv a n)) ∧ Below w.heap.size w w' := by
  unfold mv
  rw [if_neg hn]
  obtain ⟨k, rfl⟩ : ∃ k : Nat, n = (k : Int) := ⟨n.toNat, by omega⟩
  rw [Int.toNat_natCast, show ((k : Int) * 8) = ((8 * k : Nat) : Int) from by omega]
  by_cases h : 8 * k < 256
  · exact shl_any a (8 * k) w ha h
  · have e : a * 2 ^ (8 * k) % M256 = 0 := by
      rw [M256_pow, show 8 * k = 256 + (8 * k - 256) from by omega, Nat.pow_add, Nat.mul_left_comm]
      exact Nat.mul_mod_right _ _
    rw [e]
    exact shl_none a _ w (.inr (by omega))
theorem num_info : (Tryd.prog.info? 43).map (·.size) = some 4 := by kernel_rfl
/-- A function that hands back a number out of its own block. -/
theorem num_ret {P : Func} {a : Act} {w W : World} {r g : Nat} {nm : Nat} (hp : P.results = #[ResultVar.cell nm 43]) (hr : P.resultTypes = #[43]) (hd : a.defers = []) (hv : a.tmps.getD nm undef = .pointer (some ⟨g, 0, none⟩))
    (hR : Bk W g 43 (A4 (wd0 r) (wd1 r) (wd2 r) (wd3 r))) (hB : Below w.heap.size w W) : bodyPost Tryd.prog P (fun e w' => e = .returned (nv r) ∧ Below w.heap.size w w') Exit.ret a W := by
  refine bodyPost_ret (results_cell_row hp _ _ g 43 (A4 (wd0 r) (wd1 r) (wd2 r) (wd3 r)) (0, 0) _ hv hR Tryd.underlying43 rfl num_info) hd ⟨rfl, hB⟩
set_option maxRecDepth 100000 in
set_option maxHeartbeats 1000000 in
theorem move_any (a : Nat) (n : Int) (w : World) (ha : a < M256) (h0 : -1000 ≤ n) (h1 : n ≤ 1000) :
    Calls Tryd.prog 57 #[nv a, .int .i64 n] w fun e w' => e = .returned (nv (mv a n)) ∧ Below w.heap.size w w' := by
  by_cases hn : n < 0
  · have H := fun W => shr_mv a n W ha hn
    generalize mv a n = r at *
    have H := Lib.hid H
    have hd : decide (n < 0) = true := decide_eq_true hn
    have q : IntKind.i64.wrap (-n) = -n := IntWalk.i64_in _ (by omega)
    have q2 : IntKind.i64.wrap (-n * 8) = -n * 8 := IntWalk.i64_in _ (by omega)
    go_enter Tryd.func57, Tryd.ntmps57
    go_wp2_with fail
    refine (H.out _).mono ?_
    rintro e w1 ⟨rfl, hb⟩
    have R : Bk w1 (w.heap.size + 1) 43 #[.int .u64 0, .int .u64 0, .int .u64 0, .int .u64 0] := Bk.keep (Bk.new' _ _ _ (by simp)) hb
    have hW : Below w.heap.size w w1 := below_step (((Below.refl _ _).alloc (Nat.le_refl _) _).alloc (by simp) _) (by simp; omega) hb
    obtain ⟨r0, r1, r2, r3, r4, r5, r6, r7, zr⟩ := R.f4
    clear hb
    go_wp2_with fail
    exact num_ret rfl rfl rfl rfl (R.set4 _ _ _ _) (Below.set4 hW (by omega) _ _ _ _)
  · have H := fun W => shl_mv a n W ha hn
    generalize mv a n = r at *
    have H := Lib.hid H
    have hd : decide (n < 0) = false := decide_eq_false hn
    have q : IntKind.i64.wrap (n * 8) = n * 8 := IntWalk.i64_in _ (by omega)
    clear hn
    go_enter Tryd.func57, Tryd.ntmps57
    go_wp2_with fail
    refine (H.out _).mono ?_
    rintro e w1 ⟨rfl, hb⟩
    have R : Bk w1 (w.heap.size + 1) 43 #[.int .u64 0, .int .u64 0, .int .u64 0, .int .u64 0] := Bk.keep (Bk.new' _ _ _ (by simp)) hb
    have hW : Below w.heap.size w w1 := below_step (((Below.refl _ _).alloc (Nat.le_refl _) _).alloc (by simp) _) (by simp; omega) hb
    obtain ⟨r0, r1, r2, r3, r4, r5, r6, r7, zr⟩ := R.f4
    clear hb
    go_wp2_with fail
    exact num_ret rfl rfl rfl rfl (R.set4 _ _ _ _) (Below.set4 hW (by omega) _ _ _ _)

/-- The short form of a number. -/
def shortN (a : Nat) : Nat := if a = 0 then 0 else (blen a / 8 + 1) * 16777216 ||| (wd0 (mv a (3 - ((blen a / 8 + 1 : Nat) : Int))) % 4294967296)
set_option maxRecDepth 100000 in
set_option maxHeartbeats 1000000 in
theorem short_any (a : Nat) (w : World) (ha : a < M256) :
    Calls Tryd.prog 60 #[nv a] w fun e w' => e = .returned (.int .u32 (shortN a : Int)) ∧ Below w.heap.size w w' := by
  have HZ := Lib.hid (fun W => zero_any a W ha)
  by_cases h0 : a = 0
  · have e1 : shortN a = 0 := by unfold shortN; rw [if_pos h0]
    have hz : decide (a = 0) = true := decide_eq_true h0
    rw [e1]
    rw [hz] at HZ
    clear hz h0
    go_enter Tryd.func60, Tryd.ntmps60
    go_wp2_with fail
    refine (HZ.out _).mono ?_
    rintro e w1 ⟨rfl, hb⟩
    have hW : Below w.heap.size w w1 := below_step ((Below.refl _ _).alloc (Nat.le_refl _) _) (by simp) hb
    clear hb
    go_wp2_with fail
    go_ret
    exact ⟨rfl, hW⟩
  · have hz : decide (a = 0) = false := decide_eq_false h0
    rw [hz] at HZ
    have hbl := blen_le a ha
    have HL := Lib.hid (fun W => len_any a W ha)
    have HM := Lib.hid (fun W => move_any a (3 - ((blen a / 8 + 1 : Nat) : Int)) W ha (by omega) (by omega))
    have e1 : shortN a = (blen a / 8 + 1) * 16777216 ||| (wd0 (mv a (3 - ((blen a / 8 + 1 : Nat) : Int))) % 4294967296) := by unfold shortN; rw [if_neg h0]
    have HE := Lib.hid e1
    generalize mv a (3 - ((blen a / 8 + 1 : Nat) : Int)) = m at *
    obtain ⟨l, hl⟩ : ∃ l, l = blen a := ⟨_, rfl⟩
    rw [← hl] at HE HL HM hbl
    clear hz h0 e1 hl
    go_enter Tryd.func60, Tryd.ntmps60
    go_wp2_with fail
    refine (HZ.out _).mono ?_
    rintro e w1 ⟨rfl, hb⟩
    have A : Bk w1 w.heap.size 43 (A4 (wd0 a) (wd1 a) (wd2 a) (wd3 a)) := Bk.keep (Bk.new _ _ _) hb
    have hW : Below w.heap.size w w1 := below_step ((Below.refl _ _).alloc (Nat.le_refl _) _) (by simp) hb
    clear hb
    obtain ⟨a0, a1, a2, a3, a4, a5, a6, a7, za⟩ := A.f4
    go_wp2_with fail
    refine (HL.out _).mono ?_
    rintro e w2 ⟨rfl, hb⟩
    have A := A.keep hb
    have hW := below_step hW hW.size hb
    clear hb a0 a1 a2 a3 a4 a5 a6 a7 za
    obtain ⟨a0, a1, a2, a3, a4, a5, a6, a7, za⟩ := A.f4
    have e2 : ((l / 8 + 1 : Nat) : Int) = (l : Int) / 8 + 1 := by omega
    rw [e2] at HM
    have hl0 : (l : Int) / 8 ≤ 32 := by omega
    clear e2
    have hix : ∀ w : World, (Instr.index 43 (nv m) (.int .i64 0)).run Tryd.prog w = .ok (.int .u64 (wd0 m : Int)) w := fun w =>
      run_index_arr (t := 43) (e := 41) (len := 4) (k := .u64) (by kernel_rfl) (by kernel_rfl) (by kernel_rfl) (A4 (wd0 m) (wd1 m) (wd2 m) (wd3 m)) 0 _ (by omega) rfl w
    go_wp2_with fail
    refine (HM.out _).mono ?_
    rintro e w3 ⟨rfl, hb⟩
    have hW := below_step hW (by have := hW.size; omega) hb
    clear hb a0 a1 a2 a3 a4 a5 a6 a7 za A
    go_wp2_with fail
    go_ret
    refine ⟨?_, hW⟩
    have e3 : bits BinOp.or IntKind.u32 (((l : Int) / 8 + 1) * 16777216) (((wd0 m : Nat) : Int) % 4294967296) = (((l / 8 + 1) * 16777216 ||| wd0 m % 4294967296 : Nat) : Int) := by
      rw [show ((l : Int) / 8 + 1) * 16777216 = (((l / 8 + 1) * 16777216 : Nat) : Int) from by omega, show ((wd0 m : Nat) : Int) % 4294967296 = ((wd0 m % 4294967296 : Nat) : Int) from by omega]
      exact u32_or_nat _ _ (by omega) (by omega)
    rw [HE.out]
    exact congrArg (fun x => Ending.returned (.int .u32 x)) e3
end Go.Proofs.YtljfhabhenaapaaDoor
