/-
  The contract of package num's Not.
-/
import Derived.Test.YtljfhabhenaapaaDoorNumB
namespace Go.Proofs.YtljfhabhenaapaaDoor
open Go.RowKit
set_option maxRecDepth 100000
set_option linter.unusedVariables false

set_option maxRecDepth 100000 in
set_option maxHeartbeats 1000000 in
theorem not_walk (a b c d : Int) (w : World) :
    Calls Tryd.prog 68 #[I4 a b c d] w fun e w' => e = .returned (I4 (bits BinOp.xor IntKind.u64 IntKind.u64.max a) (bits BinOp.xor IntKind.u64 IntKind.u64.max b) (bits BinOp.xor IntKind.u64 IntKind.u64.max c) (bits BinOp.xor IntKind.u64 IntKind.u64.max d)) ∧ Below w.heap.size w w' := by
  have i0 : ∀ w : World, (Instr.index 43 (I4 a b c d) (.int .i64 0)).run Tryd.prog w = .ok (.int .u64 a) w := fun _ => by kernel_rfl
  have i1 : ∀ w : World, (Instr.index 43 (I4 a b c d) (.int .i64 1)).run Tryd.prog w = .ok (.int .u64 b) w := fun _ => by kernel_rfl
  have i2 : ∀ w : World, (Instr.index 43 (I4 a b c d) (.int .i64 2)).run Tryd.prog w = .ok (.int .u64 c) w := fun _ => by kernel_rfl
  have i3 : ∀ w : World, (Instr.index 43 (I4 a b c d) (.int .i64 3)).run Tryd.prog w = .ok (.int .u64 d) w := fun _ => by kernel_rfl
  go_enter Tryd.func68, Tryd.ntmps68
  go_wp2
  refine wp_loop_rounds 5 ?_
  iterate 5
    rw [rounds_succ]
    go_wp2
  refine bodyPost_ret (v := I4 (bits BinOp.xor IntKind.u64 IntKind.u64.max a) (bits BinOp.xor IntKind.u64 IntKind.u64.max b) (bits BinOp.xor IntKind.u64 IntKind.u64.max c) (bits BinOp.xor IntKind.u64 IntKind.u64.max d)) (by simp [results, Tryd.results68, go_sem]) rfl ⟨rfl, ?_⟩
  repeat (first | exact Below.refl _ _ | refine Below.drew ?_ | refine Below.alloc ?_ (by first | omega | (simp; done) | (simp; omega)) _)

theorem not64 (x : Nat) (h : x < B64) : bits BinOp.xor IntKind.u64 IntKind.u64.max (x : Int) = ((B64 - 1 - x : Nat) : Int) := by
  have hm : IntKind.u64.max = ((18446744073709551615 : Nat) : Int) := by decide
  rw [hm, bits_xor_u64_nat _ _ (by omega) h]
  congr 1
  have hb : BitVec.ofNat 64 (B64 - 1 - x) = ~~~ (BitVec.ofNat 64 x) := by
    apply BitVec.eq_of_toNat_eq
    rw [BitVec.toNat_not, BitVec.toNat_ofNat, BitVec.toNat_ofNat]
    unfold B64 at *
    omega
  have hx : 18446744073709551615 ^^^ x = (BitVec.ofNat 64 18446744073709551615 ^^^ BitVec.ofNat 64 x).toNat := by
    rw [BitVec.toNat_xor, BitVec.toNat_ofNat, BitVec.toNat_ofNat]
    unfold B64 at h
    rw [Nat.mod_eq_of_lt (by omega), Nat.mod_eq_of_lt (by omega)]
  have hall : BitVec.ofNat 64 18446744073709551615 = BitVec.allOnes 64 := by decide
  rw [hx, hall, BitVec.allOnes_xor, ← hb, BitVec.toNat_ofNat]
  unfold B64 at *
  omega

theorem ofW_add (a b c d a' b' c' d' : Nat) : ofW a b c d + ofW a' b' c' d' = ofW (a + a') (b + b') (c + c') (d + d') := by
  unfold ofW
  simp only [Nat.mul_add]
  omega
theorem ofW_max : ofW (B64 - 1) (B64 - 1) (B64 - 1) (B64 - 1) = M256 - 1 := by kernel_rfl

theorem not_any (n : Nat) (w : World) (h : n < M256) :
    Calls Tryd.prog 68 #[nv n] w fun e w' => e = .returned (nv (M256 - 1 - n)) ∧ Below w.heap.size w w' := by
  refine (not_walk _ _ _ _ w).mono ?_
  rintro e w' ⟨rfl, hb⟩
  refine ⟨?_, hb⟩
  rw [not64 _ (wd0_lt n), not64 _ (wd1_lt n), not64 _ (wd2_lt n), not64 _ (wd3_lt n)]
  have e := nv_of_eq (B64 - 1 - wd0 n) (B64 - 1 - wd1 n) (B64 - 1 - wd2 n) (B64 - 1 - wd3 n) (M256 - 1 - n) (by have := B64_pos; omega) (by have := B64_pos; omega) (by have := B64_pos; omega) (by have := B64_pos; omega) ?_
  · exact congrArg Ending.returned e
  · have e0 := ofW_wd n h
    have l0 := wd0_lt n
    have l1 := wd1_lt n
    have l2 := wd2_lt n
    have l3 := wd3_lt n
    have hp := B64_pos
    generalize wd0 n = a at *
    generalize wd1 n = b at *
    generalize wd2 n = c at *
    generalize wd3 n = d at *
    have s : ofW (B64 - 1 - a) (B64 - 1 - b) (B64 - 1 - c) (B64 - 1 - d) + ofW a b c d = M256 - 1 := by
      rw [ofW_add, show B64 - 1 - a + a = B64 - 1 from by omega, show B64 - 1 - b + b = B64 - 1 from by omega, show B64 - 1 - c + c = B64 - 1 from by omega, show B64 - 1 - d + d = B64 - 1 from by omega]
      exact ofW_max
    omega

end Go.Proofs.YtljfhabhenaapaaDoor
