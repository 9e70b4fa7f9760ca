/- The contracts of package head's number and Read. -/
import Derived.Test.YtkpffjcdalclmaaDoorZHeaZ
namespace Go.Proofs.YtkpffjcdalclmaaDoor
open Go.RowKit
set_option linter.unusedVariables false
theorem four_or (a b c d : Nat) (ha : a < 256) (hb : b < 256) (hc : c < 256) (hd : d < 256) :
    bits BinOp.or IntKind.u32 (bits BinOp.or IntKind.u32 (bits BinOp.or IntKind.u32 (IntKind.u32.wrap (a : Int)) (IntKind.u32.wrap (IntKind.u32.wrap (b : Int) * 256))) (IntKind.u32.wrap (IntKind.u32.wrap (c : Int) * 65536))) (IntKind.u32.wrap (IntKind.u32.wrap (d : Int) * 16777216)) = ((a + 256 * b + 65536 * c + 16777216 * d : Nat) : Int) := by
  have m : m32 = 4294967296 := rfl
  have e0 : IntKind.u32.wrap (a : Int) = ((a : Nat) : Int) := by rw [IntKind.wrap_u32]; omega
  have e1 : IntKind.u32.wrap (IntKind.u32.wrap (b : Int) * 256) = ((b * 256 : Nat) : Int) := by rw [IntKind.wrap_u32, IntKind.wrap_u32]; omega
  have e2 : IntKind.u32.wrap (IntKind.u32.wrap (c : Int) * 65536) = ((c * 65536 : Nat) : Int) := by rw [IntKind.wrap_u32, IntKind.wrap_u32]; omega
  have e3 : IntKind.u32.wrap (IntKind.u32.wrap (d : Int) * 16777216) = ((d * 16777216 : Nat) : Int) := by rw [IntKind.wrap_u32, IntKind.wrap_u32]; omega
  have j1 : a ||| b * 256 = a + b * 256 := by rw [Nat.or_comm, or_join 8 _ _ (by omega) (by omega), Nat.add_comm]
  have j2 : (a + b * 256) ||| c * 65536 = a + b * 256 + c * 65536 := by rw [Nat.or_comm, or_join 16 _ _ (by omega) (by omega), Nat.add_comm]
  have j3 : (a + b * 256 + c * 65536) ||| d * 16777216 = a + b * 256 + c * 65536 + d * 16777216 := by rw [Nat.or_comm, or_join 24 _ _ (by omega) (by omega), Nat.add_comm]
  rw [e0, e1, e2, e3, or32 (by omega) (by omega), j1, or32 (by omega) (by omega), j2, or32 (by omega) (by omega), j3]
  omega
set_option maxRecDepth 100000 in
set_option maxHeartbeats 2000000 in
theorem number_any (v : Value) (xs : List Nat) (B : Nat) (w : World) (hv : BsV w B v xs) (h4 : 4 ≤ xs.length) :
    Calls Tryd.prog 100 #[v] w fun e w' => e = .returned (.int .u32 ((n4 xs : Nat) : Int)) ∧ w' = w.drew := by
  obtain ⟨s, c, rfl, h1, h2, hx, hat⟩ := hv
  obtain ⟨b, o, rfl, hb, hc⟩ := hat (by intro h; rw [h] at h4; simp at h4)
  have c0 := hc 0 (by omega)
  have c1 := hc 1 (by omega)
  have c2 := hc 2 (by omega)
  have c3 := hc 3 (by omega)
  have x0 := nth_mem_lt hx 0
  have x1 := nth_mem_lt hx 1
  have x2 := nth_mem_lt hx 2
  have x3 := nth_mem_lt hx 3
  have HN := Lib.hid (four_or _ _ _ _ x0 x1 x2 x3)
  change Hid (_ = ((n4 xs : Nat) : Int)) at HN
  have hl0 : (0 : Int) < (xs.length : Int) := by omega
  have hl1 : (1 : Int) < (xs.length : Int) := by omega
  have hl2 : (2 : Int) < (xs.length : Int) := by omega
  have hl3 : (3 : Int) < (xs.length : Int) := by omega
  have hm0 : 0 < xs.length := by omega
  have hm1 : 1 < xs.length := by omega
  have hm2 : 2 < xs.length := by omega
  have hm3 : 3 < xs.length := by omega
  generalize nth xs 0 = a0 at *
  generalize nth xs 1 = a1 at *
  generalize nth xs 2 = a2 at *
  generalize nth xs 3 = a3 at *
  generalize n4 xs = r at *
  generalize xs.length = n at *
  rw [Nat.add_zero] at c0
  clear hx hat hc
  go_enter Tryd.func100, Tryd.ntmps100
  go_wp2_with fail
  go_still_tail 22, (by kernel_rfl)
  change wpList _ _ _ _ _ w.drew
  go_wp2_with fail
  go_ret
  refine ⟨?_, rfl⟩
  show Ending.returned (.int .u32 _) = _
  rw [HN.out]
end Go.Proofs.YtkpffjcdalclmaaDoor
