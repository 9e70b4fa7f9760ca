/-
  The contract of the document's cube.
-/
import Derived.Test.YtecmgojecjenmaaDoorRnM
namespace Go.Proofs.YtecmgojecjenmaaDoor
open Go.RowKit
set_option linter.unusedVariables false

theorem dgF_length (k : Nat) : ∀ a, (dgF a k).length ≤ k := by
  induction k with
  | zero => intro a; exact Nat.le_refl _
  | succ k ih =>
    intro a
    rw [dgF]
    split
    · rw [List.length_cons]; have := ih (a / d24); omega
    · simp
theorem dgN_length (a : Nat) : (dgN a).length ≤ 3 := dgF_length 3 a
theorem mulN_length (xs ys : List Nat) : (mulN xs ys).length ≤ xs.length + ys.length + 1 := by
  unfold mulN
  rw [List.length_take, caK_length, muI_length]
  omega
theorem MineR.rows' {W : World} {lo : Nat} {v : Value} {L : List Nat} (h : MineR ddR W lo v L) : RowV ddR W W.heap.size v L := MineR.rows ddR_ok h
theorem RowV.up {α : Type} {R : RowT α} {w w' : World} {v : Value} {L : List α} (h : RowV R w w.heap.size v L) (hb : Below w.heap.size w w') : RowV R w' w'.heap.size v L := (h.keep hb (Nat.le_refl _)).mono hb.size
set_option maxRecDepth 100000 in
set_option maxHeartbeats 2000000 in
theorem cube_any (a n : Nat) (w : World) (ha : a < 18446744073709551616) (hn : n < 9223372036854775808) :
    Calls Tryd.prog 21 #[.int .u64 (a : Int), .int .i64 (n : Int)] w fun e w' => e = .returned (.bool (cuN a n)) ∧ Below w.heap.size w w' := by
  have l1 := dgN_length a
  have l2 := mulN_length (dgN a) (dgN a)
  have l3 := mulN_length (mulN (dgN a) (dgN a)) (dgN a)
  have l4 := dgN_length n
  have l5 := mulN_length (dgN n) [0, 0, 0, 0, 1]
  have l6 : ([0, 0, 0, 0, 1] : List Nat).length = 5 := rfl
  have HDA := Lib.hid (fun W => digits_any a W ha)
  have HDN := Lib.hid (fun W => digits_any n W (by omega))
  have HM1 := Lib.hid (fun u v W hu hv => mul_any u v (dgN a) (dgN a) W hu hv (by omega) (by omega))
  have HM2 := Lib.hid (fun u v W hu hv => mul_any u v (mulN (dgN a) (dgN a)) (dgN a) W hu hv (by omega) (by omega))
  have HM3 := Lib.hid (fun u v W hu hv => mul_any u v (dgN n) [0, 0, 0, 0, 1] W hu hv (by omega) (by omega))
  have HMO := Lib.hid (fun u v W hu hv => more_any u v (mulN (mulN (dgN a) (dgN a)) (dgN a)) (mulN (dgN n) [0, 0, 0, 0, 1]) W hu hv (by omega) (by omega))
  have HC := Lib.hid (show (!moN (mulN (mulN (dgN a) (dgN a)) (dgN a)) (mulN (dgN n) [0, 0, 0, 0, 1])) = cuN a n from rfl)
  have qn : IntKind.u64.wrap (n : Int) = (n : Int) := by rw [IntKind.wrap_u64]; omega
  generalize mulN (mulN (dgN a) (dgN a)) (dgN a) = A3 at *
  generalize mulN (dgN n) [0, 0, 0, 0, 1] = N5 at *
  generalize mulN (dgN a) (dgN a) = A2 at *
  generalize dgN a = A1 at *
  generalize dgN n = N1 at *
  generalize cuN a n = C at *
  clear l1 l2 l3 l4 l5 l6
  go_enter Tryd.func21, Tryd.ntmps21
  go_wp2_with fail
  refine (HDA.out _).mono ?_
  rintro e w1 ⟨v1, rfl, M1, B1⟩
  have R1 := Lib.hid M1.rows'
  have hB := Lib.hid B1
  clear M1 B1
  go_wp2_with fail
  refine (HDA.out _).mono ?_
  rintro e w2 ⟨v2, rfl, M2, B2⟩
  have R2 := Lib.hid M2.rows'
  have R1 := Lib.hid (R1.out.up B2)
  have hB := Lib.hid (hB.out.trans (B2.mono hB.out.size))
  clear M2 B2
  go_wp2_with fail
  refine (HM1.out _ _ _ R1.out R2.out).mono ?_
  rintro e w3 ⟨v3, rfl, M3, B3⟩
  have R3 := Lib.hid M3
  have hB := Lib.hid (hB.out.trans (B3.mono hB.out.size))
  clear M3 B3 R1 R2
  go_wp2_with fail
  refine (HDA.out _).mono ?_
  rintro e w4 ⟨v4, rfl, M4, B4⟩
  have R4 := Lib.hid M4.rows'
  have R3 := Lib.hid (R3.out.up B4)
  have hB := Lib.hid (hB.out.trans (B4.mono hB.out.size))
  clear M4 B4
  go_wp2_with fail
  refine (HM2.out _ _ _ R3.out R4.out).mono ?_
  rintro e w5 ⟨v5, rfl, M5, B5⟩
  have R5 := Lib.hid M5
  have hB := Lib.hid (hB.out.trans (B5.mono hB.out.size))
  clear M5 B5 R3 R4
  go_wp2_with fail
  refine (HDN.out _).mono ?_
  rintro e w6 ⟨v6, rfl, M6, B6⟩
  have R6 := Lib.hid M6.rows'
  have R5 := Lib.hid (R5.out.up B6)
  have hB := Lib.hid (hB.out.trans (B6.mono hB.out.size))
  clear M6 B6
  go_wp2_with fail
  have hA : Below w6.heap.size w6 (w6.alloc (.cells #[.int .u64 0, .int .u64 0, .int .u64 0, .int .u64 0, .int .u64 1] 46)) := (Below.refl _ _).alloc (Nat.le_refl _) _
  have R7 : RowV ddR (w6.alloc (.cells #[.int .u64 0, .int .u64 0, .int .u64 0, .int .u64 0, .int .u64 1] 46)) (w6.alloc (.cells #[.int .u64 0, .int .u64 0, .int .u64 0, .int .u64 0, .int .u64 1] 46)).heap.size (.slice (some ⟨w6.heap.size, 0, none⟩) 5 5) [0, 0, 0, 0, 1] := row_built ddR_ok (t := 46) (Bk.new w6 46 _) rfl (by omega)
  have R5 := Lib.hid (R5.out.up hA)
  have hB := Lib.hid (hB.out.trans (hA.mono hB.out.size))
  refine (HM3.out _ _ _ (R6.out.up hA) R7).mono ?_
  clear hA R7 R6
  rintro e w7 ⟨v7, rfl, M7, B7⟩
  have R7 := Lib.hid M7
  have R5 := Lib.hid (R5.out.up B7)
  have hB := Lib.hid (hB.out.trans (B7.mono hB.out.size))
  clear M7 B7
  go_wp2_with fail
  refine (HMO.out _ _ _ R5.out R7.out).mono ?_
  rintro e w8 ⟨rfl, B8⟩
  have hB := Lib.hid (hB.out.trans (B8.mono hB.out.size))
  clear B8
  go_wp2_with fail
  go_ret
  exact ⟨by rw [← HC.out]; rfl, hB.out⟩
end Go.Proofs.YtecmgojecjenmaaDoor
