/-
  What is proved: CheckMoney holds for every input; the two listed tables of package hash are taken as their initialisers lay them, and the card ties them. the two listed tables of package hash are taken to hold what the program's text lays in them, and the card ties them to it.
-/
import Derived.Test.YtpemljbdmbinlaaDoorChC
import Derived.Test.YtpemljbdmbinlaaDoorTie
import Derived.Test.YtpemljbdmbinlaaDoorCards
import Derived.Stop.Joined
namespace Go.Proofs.YtpemljbdmbinlaaDoor.checkMoney
open Go.ChangeShapes Go.WideShapes Go.ChangeAt Go.RowKit
set_option linter.unusedVariables false

theorem own : ownKnob Tryd.prog.godebug = none := by kernel_rfl
theorem laidOut : laidOutB Tryd.prog = true := by kernel_rfl
theorem wf_i64 {z : Int} (h : (Lit.int .i64 z).wf = true) : -9223372036854775808 ≤ z ∧ z ≤ 9223372036854775807 := by
  simp [Lit.wf, IntKind.min, IntKind.max, IntKind.signed, IntKind.bits] at h
  omega
theorem money_txE (a b : Int) (s1 s2 : Option Addr) (c1 c2 : Nat) : txE true ⟨s1, c1, [in1], s2, c2, [out1 a, out1 b]⟩ = if (osum 0 [out1 a, out1 b]).2 = false then 121 else 0 := by
  unfold txE
  rw [if_neg (by show ¬ ¬ (0 < 1 ∧ 1 ≤ 32); decide), if_neg (by show ¬ ¬ (0 < 2 ∧ 2 ≤ 32); decide), if_neg (by
    show ¬ inE true [] [in1] ≠ 0
    decide +kernel)]
theorem money_cells (a b : Int) : (outR.flat [out1 a, out1 b]).toArray = #[.int .i64 a, .int .u8 0, .int .u8 0, .int .u8 0, .int .u8 0, .int .u8 0, .int .u8 0, .int .u8 0, .int .u8 0, .int .u8 0, .int .u8 0, .int .u8 0, .int .u8 0, .int .u8 0, .int .u8 0, .int .u8 0, .int .u8 0, .int .u8 0, .int .u8 0, .int .u8 0, .int .u8 0, .int .u8 0, .int .u8 0, .int .u8 0, .int .u8 0, .int .u8 0, .int .u8 0, .int .u8 0, .int .u8 0, .int .u8 0, .int .u8 0, .int .u8 0, .int .u8 0, .int .i64 b, .int .u8 0, .int .u8 0, .int .u8 0, .int .u8 0, .int .u8 0, .int .u8 0, .int .u8 0, .int .u8 0, .int .u8 0, .int .u8 0, .int .u8 0, .int .u8 0, .int .u8 0, .int .u8 0, .int .u8 0, .int .u8 0, .int .u8 0, .int .u8 0, .int .u8 0, .int .u8 0, .int .u8 0, .int .u8 0, .int .u8 0, .int .u8 0, .int .u8 0, .int .u8 0, .int .u8 0, .int .u8 0, .int .u8 0, .int .u8 0, .int .u8 0, .int .u8 0] := rfl
theorem money_tx {a b : Int} {W : World} {p8 : Nat} {t : TxM} {v : Value} (h : TxV W p8 t) (hi : t.ins = [in1]) (ha : OutOk (out1 a)) (hb : OutOk (out1 b)) (hz : p8 < W.heap.size) :
    TxV ((W.setCell ⟨p8, 1, none⟩ v).alloc (.cells #[.int .i64 a, .int .u8 0, .int .u8 0, .int .u8 0, .int .u8 0, .int .u8 0, .int .u8 0, .int .u8 0, .int .u8 0, .int .u8 0, .int .u8 0, .int .u8 0, .int .u8 0, .int .u8 0, .int .u8 0, .int .u8 0, .int .u8 0, .int .u8 0, .int .u8 0, .int .u8 0, .int .u8 0, .int .u8 0, .int .u8 0, .int .u8 0, .int .u8 0, .int .u8 0, .int .u8 0, .int .u8 0, .int .u8 0, .int .u8 0, .int .u8 0, .int .u8 0, .int .u8 0, .int .i64 b, .int .u8 0, .int .u8 0, .int .u8 0, .int .u8 0, .int .u8 0, .int .u8 0, .int .u8 0, .int .u8 0, .int .u8 0, .int .u8 0, .int .u8 0, .int .u8 0, .int .u8 0, .int .u8 0, .int .u8 0, .int .u8 0, .int .u8 0, .int .u8 0, .int .u8 0, .int .u8 0, .int .u8 0, .int .u8 0, .int .u8 0, .int .u8 0, .int .u8 0, .int .u8 0, .int .u8 0, .int .u8 0, .int .u8 0, .int .u8 0, .int .u8 0, .int .u8 0] 28)) ((W.setCell ⟨p8, 1, none⟩ v).alloc (.cells #[.int .i64 a, .int .u8 0, .int .u8 0, .int .u8 0, .int .u8 0, .int .u8 0, .int .u8 0, .int .u8 0, .int .u8 0, .int .u8 0, .int .u8 0, .int .u8 0, .int .u8 0, .int .u8 0, .int .u8 0, .int .u8 0, .int .u8 0, .int .u8 0, .int .u8 0, .int .u8 0, .int .u8 0, .int .u8 0, .int .u8 0, .int .u8 0, .int .u8 0, .int .u8 0, .int .u8 0, .int .u8 0, .int .u8 0, .int .u8 0, .int .u8 0, .int .u8 0, .int .u8 0, .int .i64 b, .int .u8 0, .int .u8 0, .int .u8 0, .int .u8 0, .int .u8 0, .int .u8 0, .int .u8 0, .int .u8 0, .int .u8 0, .int .u8 0, .int .u8 0, .int .u8 0, .int .u8 0, .int .u8 0, .int .u8 0, .int .u8 0, .int .u8 0, .int .u8 0, .int .u8 0, .int .u8 0, .int .u8 0, .int .u8 0, .int .u8 0, .int .u8 0, .int .u8 0, .int .u8 0, .int .u8 0, .int .u8 0, .int .u8 0, .int .u8 0, .int .u8 0, .int .u8 0] 28)).heap.size ⟨t.is_, t.ic, [in1], some ⟨W.heap.size, 0, none⟩, 2, [out1 a, out1 b]⟩ := by
  have hB : Below p8 W (W.setCell ⟨p8, 1, none⟩ v) := (Below.refl _ _).setCell (by show p8 ≤ p8; exact Nat.le_refl _) _
  have hs : (W.setCell ⟨p8, 1, none⟩ v).heap.size = W.heap.size := by simp [World.setCell]
  have hB2 : Below p8 W ((W.setCell ⟨p8, 1, none⟩ v).alloc (.cells #[.int .i64 a, .int .u8 0, .int .u8 0, .int .u8 0, .int .u8 0, .int .u8 0, .int .u8 0, .int .u8 0, .int .u8 0, .int .u8 0, .int .u8 0, .int .u8 0, .int .u8 0, .int .u8 0, .int .u8 0, .int .u8 0, .int .u8 0, .int .u8 0, .int .u8 0, .int .u8 0, .int .u8 0, .int .u8 0, .int .u8 0, .int .u8 0, .int .u8 0, .int .u8 0, .int .u8 0, .int .u8 0, .int .u8 0, .int .u8 0, .int .u8 0, .int .u8 0, .int .u8 0, .int .i64 b, .int .u8 0, .int .u8 0, .int .u8 0, .int .u8 0, .int .u8 0, .int .u8 0, .int .u8 0, .int .u8 0, .int .u8 0, .int .u8 0, .int .u8 0, .int .u8 0, .int .u8 0, .int .u8 0, .int .u8 0, .int .u8 0, .int .u8 0, .int .u8 0, .int .u8 0, .int .u8 0, .int .u8 0, .int .u8 0, .int .u8 0, .int .u8 0, .int .u8 0, .int .u8 0, .int .u8 0, .int .u8 0, .int .u8 0, .int .u8 0, .int .u8 0, .int .u8 0] 28)) := hB.alloc (by rw [hs]; exact Nat.le_of_lt hz) _
  have hle : p8 ≤ ((W.setCell ⟨p8, 1, none⟩ v).alloc (.cells #[.int .i64 a, .int .u8 0, .int .u8 0, .int .u8 0, .int .u8 0, .int .u8 0, .int .u8 0, .int .u8 0, .int .u8 0, .int .u8 0, .int .u8 0, .int .u8 0, .int .u8 0, .int .u8 0, .int .u8 0, .int .u8 0, .int .u8 0, .int .u8 0, .int .u8 0, .int .u8 0, .int .u8 0, .int .u8 0, .int .u8 0, .int .u8 0, .int .u8 0, .int .u8 0, .int .u8 0, .int .u8 0, .int .u8 0, .int .u8 0, .int .u8 0, .int .u8 0, .int .u8 0, .int .i64 b, .int .u8 0, .int .u8 0, .int .u8 0, .int .u8 0, .int .u8 0, .int .u8 0, .int .u8 0, .int .u8 0, .int .u8 0, .int .u8 0, .int .u8 0, .int .u8 0, .int .u8 0, .int .u8 0, .int .u8 0, .int .u8 0, .int .u8 0, .int .u8 0, .int .u8 0, .int .u8 0, .int .u8 0, .int .u8 0, .int .u8 0, .int .u8 0, .int .u8 0, .int .u8 0, .int .u8 0, .int .u8 0, .int .u8 0, .int .u8 0, .int .u8 0, .int .u8 0] 28)).heap.size := Nat.le_trans (Nat.le_of_lt hz) hB2.size
  obtain ⟨h1, h2, _, _⟩ := h
  have hiv : t.iv = .slice t.is_ 1 t.ic := by unfold TxM.iv; rw [hi]; rfl
  rw [hiv, hi] at h1
  rw [hi] at h2
  refine ⟨(h1.keep hB2 (Nat.le_refl _)).mono hle, fun x hx => ((h2 x hx).keep hB2 (Nat.le_refl _)).mono hle, ?_, fun x hx => ?_⟩
  · exact row_built outR_ok (t := 28) (by rw [money_cells]; exact Bk.new' _ _ _ hs.symm) rfl (by show 2 < 9223372036854775808; decide)
  · rcases List.mem_cons.1 hx with rfl | hx
    · exact ha
    · rw [List.mem_singleton.1 hx]; exact hb
set_option maxRecDepth 100000 in
set_option maxHeartbeats 8000000 in
theorem walk (a b : Int) (w : World) (hLd : Laid w) (ha : OutOk (out1 a)) (hb : OutOk (out1 b)) :
    Calls Tryd.prog 3 #[.int .i64 a, .int .i64 b] w fun e w' => e = .returned (.bool true) ∧ Below w.heap.size w w' := by
  have HLD := Lib.hid hLd
  have HA := Lib.hid ha
  have HBb := Lib.hid hb
  have hask := asks_any w hLd
  clear hLd ha hb
  go_enter Tryd.func3, Tryd.ntmps3
  go_wp2_with fail
  refine hask.mono ?_
  rintro e w1 ⟨rfl, hb1⟩
  have HB1 := Lib.hid hb1
  clear hb1 hask
  have hcell : (outR.flat [out1 a, out1 b]).toArray = #[.int .i64 a, .int .u8 0, .int .u8 0, .int .u8 0, .int .u8 0, .int .u8 0, .int .u8 0, .int .u8 0, .int .u8 0, .int .u8 0, .int .u8 0, .int .u8 0, .int .u8 0, .int .u8 0, .int .u8 0, .int .u8 0, .int .u8 0, .int .u8 0, .int .u8 0, .int .u8 0, .int .u8 0, .int .u8 0, .int .u8 0, .int .u8 0, .int .u8 0, .int .u8 0, .int .u8 0, .int .u8 0, .int .u8 0, .int .u8 0, .int .u8 0, .int .u8 0, .int .u8 0, .int .i64 b, .int .u8 0, .int .u8 0, .int .u8 0, .int .u8 0, .int .u8 0, .int .u8 0, .int .u8 0, .int .u8 0, .int .u8 0, .int .u8 0, .int .u8 0, .int .u8 0, .int .u8 0, .int .u8 0, .int .u8 0, .int .u8 0, .int .u8 0, .int .u8 0, .int .u8 0, .int .u8 0, .int .u8 0, .int .u8 0, .int .u8 0, .int .u8 0, .int .u8 0, .int .u8 0, .int .u8 0, .int .u8 0, .int .u8 0, .int .u8 0, .int .u8 0, .int .u8 0] := rfl
  have BO : Below w1.heap.size w1 (w1.alloc (.cells #[.int .i64 a, .int .u8 0, .int .u8 0, .int .u8 0, .int .u8 0, .int .u8 0, .int .u8 0, .int .u8 0, .int .u8 0, .int .u8 0, .int .u8 0, .int .u8 0, .int .u8 0, .int .u8 0, .int .u8 0, .int .u8 0, .int .u8 0, .int .u8 0, .int .u8 0, .int .u8 0, .int .u8 0, .int .u8 0, .int .u8 0, .int .u8 0, .int .u8 0, .int .u8 0, .int .u8 0, .int .u8 0, .int .u8 0, .int .u8 0, .int .u8 0, .int .u8 0, .int .u8 0, .int .i64 b, .int .u8 0, .int .u8 0, .int .u8 0, .int .u8 0, .int .u8 0, .int .u8 0, .int .u8 0, .int .u8 0, .int .u8 0, .int .u8 0, .int .u8 0, .int .u8 0, .int .u8 0, .int .u8 0, .int .u8 0, .int .u8 0, .int .u8 0, .int .u8 0, .int .u8 0, .int .u8 0, .int .u8 0, .int .u8 0, .int .u8 0, .int .u8 0, .int .u8 0, .int .u8 0, .int .u8 0, .int .u8 0, .int .u8 0, .int .u8 0, .int .u8 0, .int .u8 0] 28)) := (Below.refl _ _).alloc (Nat.le_refl _) _
  have RO : RowV outR (w1.alloc (.cells #[.int .i64 a, .int .u8 0, .int .u8 0, .int .u8 0, .int .u8 0, .int .u8 0, .int .u8 0, .int .u8 0, .int .u8 0, .int .u8 0, .int .u8 0, .int .u8 0, .int .u8 0, .int .u8 0, .int .u8 0, .int .u8 0, .int .u8 0, .int .u8 0, .int .u8 0, .int .u8 0, .int .u8 0, .int .u8 0, .int .u8 0, .int .u8 0, .int .u8 0, .int .u8 0, .int .u8 0, .int .u8 0, .int .u8 0, .int .u8 0, .int .u8 0, .int .u8 0, .int .u8 0, .int .i64 b, .int .u8 0, .int .u8 0, .int .u8 0, .int .u8 0, .int .u8 0, .int .u8 0, .int .u8 0, .int .u8 0, .int .u8 0, .int .u8 0, .int .u8 0, .int .u8 0, .int .u8 0, .int .u8 0, .int .u8 0, .int .u8 0, .int .u8 0, .int .u8 0, .int .u8 0, .int .u8 0, .int .u8 0, .int .u8 0, .int .u8 0, .int .u8 0, .int .u8 0, .int .u8 0, .int .u8 0, .int .u8 0, .int .u8 0, .int .u8 0, .int .u8 0, .int .u8 0] 28)) (w1.alloc (.cells #[.int .i64 a, .int .u8 0, .int .u8 0, .int .u8 0, .int .u8 0, .int .u8 0, .int .u8 0, .int .u8 0, .int .u8 0, .int .u8 0, .int .u8 0, .int .u8 0, .int .u8 0, .int .u8 0, .int .u8 0, .int .u8 0, .int .u8 0, .int .u8 0, .int .u8 0, .int .u8 0, .int .u8 0, .int .u8 0, .int .u8 0, .int .u8 0, .int .u8 0, .int .u8 0, .int .u8 0, .int .u8 0, .int .u8 0, .int .u8 0, .int .u8 0, .int .u8 0, .int .u8 0, .int .i64 b, .int .u8 0, .int .u8 0, .int .u8 0, .int .u8 0, .int .u8 0, .int .u8 0, .int .u8 0, .int .u8 0, .int .u8 0, .int .u8 0, .int .u8 0, .int .u8 0, .int .u8 0, .int .u8 0, .int .u8 0, .int .u8 0, .int .u8 0, .int .u8 0, .int .u8 0, .int .u8 0, .int .u8 0, .int .u8 0, .int .u8 0, .int .u8 0, .int .u8 0, .int .u8 0, .int .u8 0, .int .u8 0, .int .u8 0, .int .u8 0, .int .u8 0, .int .u8 0] 28)).heap.size (.slice (some ⟨w1.heap.size, 0, none⟩) 2 2) [out1 a, out1 b] := row_built outR_ok (t := 28) (by rw [hcell]; exact Bk.new _ _ _) rfl (by decide)
  have hsum := csum_any [out1 a, out1 b] _ _ RO (fun x hx => by
    rcases List.mem_cons.1 hx with rfl | hx
    · exact HA.out
    · rw [List.mem_singleton.1 hx]; exact HBb.out)
  have HB2 := Lib.hid (below_step HB1.out HB1.out.size BO)
  clear BO RO hcell
  have hos : osum 0 [out1 a, out1 b] = if a < 0 ∨ 1125899906842624 < a then (0, false) else if b < 0 ∨ 1125899906842624 - a < b then (0, false) else (a + b, true) := by
    unfold osum
    show (if a < 0 ∨ 1125899906842624 - 0 < a then ((0 : Int), false) else osum (0 + a) [out1 b]) = _
    rw [Int.sub_zero, Int.zero_add]
    rfl
  have HOS := Lib.hid hos
  clear hos
  by_cases h1 : a < 0
  · have d1 : decide ((0 : Int) ≤ a) = false := decide_eq_false (by omega)
    have hS : osum 0 [out1 a, out1 b] = (0, false) := by
      rw [HOS.out]
      rw [if_pos (.inl h1)]
    rw [hS] at hsum
    have HS := Lib.hid hS
    clear hS
    go_wp2_with fail
    refine hsum.mono ?_
    rintro e w2 ⟨rfl, hb2⟩
    have HB3 := Lib.hid (below_step HB2.out HB2.out.size hb2)
    have hfi := first_any' 0 w2 (by unfold OutOk out1; decide)
    clear hb2 hsum
    go_wp2_with fail
    refine hfi.mono ?_
    rintro e w3 ⟨s1, c1, s2, c2, t, rfl, hFV⟩
    have HFV := Lib.hid hFV
    have HB4 := Lib.hid (below_step HB3.out HB3.out.size hFV.B)
    clear hFV hfi
    go_upto_region 6 with fail
    refine wp_any (fun W => Below w3.heap.size w3 W ∧ Bk W w3.heap.size 32 #[.slice s1 1 c1, .slice s2 1 c2]) ⟨(Below.refl _ _).alloc (Nat.le_refl _) _, Bk.new _ _ _⟩ ?_
    rintro W ⟨hB, K⟩
    have HB5 := Lib.hid (below_step HB4.out HB4.out.size hB)
    have HT0 : Hid (TxV W w3.heap.size t) := HFV.out.V.keep hB (Nat.le_refl _)
    have HZ : Hid (w.heap.size ≤ w3.heap.size) := HB4.out.size
    generalize w3.heap.size = p8 at *
    have c0 := K.cell 0
    have c1' := K.cell 1
    have f1 := K.frozen 1
    have z1 := K.lt
    have HK := Lib.hid K
    clear hB K
    go_upto_region 7 with fail
    refine wp_any (fun W' => Below w.heap.size w W' ∧ Bk W' p8 32 #[.slice s1 1 c1, .slice (some ⟨W.heap.size, 0, none⟩) 2 2] ∧ TxV W' W'.heap.size ⟨t.is_, t.ic, [in1], some ⟨W.heap.size, 0, none⟩, 2, [out1 a, out1 b]⟩) ⟨?_, ?_, ?_⟩ ?_
    · exact (HB5.out.setCell HZ.out _).alloc (by have := HB5.out.size; simpa [World.setCell] using this) _
    · exact (HK.out.set_ 1 _).alloc _
    · exact money_tx HT0.out HFV.out.ins HA.out HBb.out z1
    clear c0 c1' f1 z1
    rintro W7 ⟨hB7, hK7, hT7⟩
    have c0 := hK7.cell 0
    have c1' := hK7.cell 1
    have z1 := hK7.lt
    have HB7 := Lib.hid hB7
    have htx := ctx_any ⟨t.is_, t.ic, [in1], some ⟨W.heap.size, 0, none⟩, 2, [out1 a, out1 b]⟩ true W7 hT7
    have hE : txE true ⟨t.is_, t.ic, [in1], some ⟨W.heap.size, 0, none⟩, 2, [out1 a, out1 b]⟩ = 121 := by
      rw [money_txE, HS.out]
      rfl
    rw [hE] at htx
    have hiv : Value.slice t.is_ 1 t.ic = .slice s1 1 c1 := by rw [← HFV.out.iv]; unfold TxM.iv; rw [HFV.out.ins]; rfl
    change Calls _ _ #[.agg #[.slice t.is_ 1 t.ic, .slice (some ⟨W.heap.size, 0, none⟩) 2 2], _] _ _ at htx
    rw [hiv] at htx
    clear hB7 hK7 hT7 hE hiv
    go_wp2_with fail
    refine htx.mono ?_
    rintro e w9 ⟨rfl, hb9⟩
    have HB9 := Lib.hid (below_step HB7.out HB7.out.size hb9)
    clear hb9 htx
    go_wp2_with fail
    go_ret
    exact ⟨rfl, HB9.out⟩
  have d1 : decide ((0 : Int) ≤ a) = true := decide_eq_true (by omega)
  by_cases h2 : b < 0
  · have d2 : decide ((0 : Int) ≤ b) = false := decide_eq_false (by omega)
    have hS : osum 0 [out1 a, out1 b] = (0, false) := by
      rw [HOS.out]
      by_cases h3 : a < 0 ∨ 1125899906842624 < a
      · rw [if_pos h3]
      · rw [if_neg h3, if_pos (.inl h2)]
    rw [hS] at hsum
    have HS := Lib.hid hS
    clear hS
    go_wp2_with fail
    refine hsum.mono ?_
    rintro e w2 ⟨rfl, hb2⟩
    have HB3 := Lib.hid (below_step HB2.out HB2.out.size hb2)
    have hfi := first_any' 0 w2 (by unfold OutOk out1; decide)
    clear hb2 hsum
    go_wp2_with fail
    refine hfi.mono ?_
    rintro e w3 ⟨s1, c1, s2, c2, t, rfl, hFV⟩
    have HFV := Lib.hid hFV
    have HB4 := Lib.hid (below_step HB3.out HB3.out.size hFV.B)
    clear hFV hfi
    go_upto_region 6 with fail
    refine wp_any (fun W => Below w3.heap.size w3 W ∧ Bk W w3.heap.size 32 #[.slice s1 1 c1, .slice s2 1 c2]) ⟨(Below.refl _ _).alloc (Nat.le_refl _) _, Bk.new _ _ _⟩ ?_
    rintro W ⟨hB, K⟩
    have HB5 := Lib.hid (below_step HB4.out HB4.out.size hB)
    have HT0 : Hid (TxV W w3.heap.size t) := HFV.out.V.keep hB (Nat.le_refl _)
    have HZ : Hid (w.heap.size ≤ w3.heap.size) := HB4.out.size
    generalize w3.heap.size = p8 at *
    have c0 := K.cell 0
    have c1' := K.cell 1
    have f1 := K.frozen 1
    have z1 := K.lt
    have HK := Lib.hid K
    clear hB K
    go_upto_region 7 with fail
    refine wp_any (fun W' => Below w.heap.size w W' ∧ Bk W' p8 32 #[.slice s1 1 c1, .slice (some ⟨W.heap.size, 0, none⟩) 2 2] ∧ TxV W' W'.heap.size ⟨t.is_, t.ic, [in1], some ⟨W.heap.size, 0, none⟩, 2, [out1 a, out1 b]⟩) ⟨?_, ?_, ?_⟩ ?_
    · exact (HB5.out.setCell HZ.out _).alloc (by have := HB5.out.size; simpa [World.setCell] using this) _
    · exact (HK.out.set_ 1 _).alloc _
    · exact money_tx HT0.out HFV.out.ins HA.out HBb.out z1
    clear c0 c1' f1 z1
    rintro W7 ⟨hB7, hK7, hT7⟩
    have c0 := hK7.cell 0
    have c1' := hK7.cell 1
    have z1 := hK7.lt
    have HB7 := Lib.hid hB7
    have htx := ctx_any ⟨t.is_, t.ic, [in1], some ⟨W.heap.size, 0, none⟩, 2, [out1 a, out1 b]⟩ true W7 hT7
    have hE : txE true ⟨t.is_, t.ic, [in1], some ⟨W.heap.size, 0, none⟩, 2, [out1 a, out1 b]⟩ = 121 := by
      rw [money_txE, HS.out]
      rfl
    rw [hE] at htx
    have hiv : Value.slice t.is_ 1 t.ic = .slice s1 1 c1 := by rw [← HFV.out.iv]; unfold TxM.iv; rw [HFV.out.ins]; rfl
    change Calls _ _ #[.agg #[.slice t.is_ 1 t.ic, .slice (some ⟨W.heap.size, 0, none⟩) 2 2], _] _ _ at htx
    rw [hiv] at htx
    clear hB7 hK7 hT7 hE hiv
    go_wp2_with fail
    refine htx.mono ?_
    rintro e w9 ⟨rfl, hb9⟩
    have HB9 := Lib.hid (below_step HB7.out HB7.out.size hb9)
    clear hb9 htx
    go_wp2_with fail
    go_ret
    exact ⟨rfl, HB9.out⟩
  have d2 : decide ((0 : Int) ≤ b) = true := decide_eq_true (by omega)
  by_cases h3 : 1125899906842624 < a
  · have d3 : decide (a ≤ 1125899906842624) = false := decide_eq_false (by omega)
    have hS : osum 0 [out1 a, out1 b] = (0, false) := by
      rw [HOS.out]
      rw [if_pos (.inr h3)]
    rw [hS] at hsum
    have HS := Lib.hid hS
    clear hS
    go_wp2_with fail
    refine hsum.mono ?_
    rintro e w2 ⟨rfl, hb2⟩
    have HB3 := Lib.hid (below_step HB2.out HB2.out.size hb2)
    have hfi := first_any' 0 w2 (by unfold OutOk out1; decide)
    clear hb2 hsum
    go_wp2_with fail
    refine hfi.mono ?_
    rintro e w3 ⟨s1, c1, s2, c2, t, rfl, hFV⟩
    have HFV := Lib.hid hFV
    have HB4 := Lib.hid (below_step HB3.out HB3.out.size hFV.B)
    clear hFV hfi
    go_upto_region 6 with fail
    refine wp_any (fun W => Below w3.heap.size w3 W ∧ Bk W w3.heap.size 32 #[.slice s1 1 c1, .slice s2 1 c2]) ⟨(Below.refl _ _).alloc (Nat.le_refl _) _, Bk.new _ _ _⟩ ?_
    rintro W ⟨hB, K⟩
    have HB5 := Lib.hid (below_step HB4.out HB4.out.size hB)
    have HT0 : Hid (TxV W w3.heap.size t) := HFV.out.V.keep hB (Nat.le_refl _)
    have HZ : Hid (w.heap.size ≤ w3.heap.size) := HB4.out.size
    generalize w3.heap.size = p8 at *
    have c0 := K.cell 0
    have c1' := K.cell 1
    have f1 := K.frozen 1
    have z1 := K.lt
    have HK := Lib.hid K
    clear hB K
    go_upto_region 7 with fail
    refine wp_any (fun W' => Below w.heap.size w W' ∧ Bk W' p8 32 #[.slice s1 1 c1, .slice (some ⟨W.heap.size, 0, none⟩) 2 2] ∧ TxV W' W'.heap.size ⟨t.is_, t.ic, [in1], some ⟨W.heap.size, 0, none⟩, 2, [out1 a, out1 b]⟩) ⟨?_, ?_, ?_⟩ ?_
    · exact (HB5.out.setCell HZ.out _).alloc (by have := HB5.out.size; simpa [World.setCell] using this) _
    · exact (HK.out.set_ 1 _).alloc _
    · exact money_tx HT0.out HFV.out.ins HA.out HBb.out z1
    clear c0 c1' f1 z1
    rintro W7 ⟨hB7, hK7, hT7⟩
    have c0 := hK7.cell 0
    have c1' := hK7.cell 1
    have z1 := hK7.lt
    have HB7 := Lib.hid hB7
    have htx := ctx_any ⟨t.is_, t.ic, [in1], some ⟨W.heap.size, 0, none⟩, 2, [out1 a, out1 b]⟩ true W7 hT7
    have hE : txE true ⟨t.is_, t.ic, [in1], some ⟨W.heap.size, 0, none⟩, 2, [out1 a, out1 b]⟩ = 121 := by
      rw [money_txE, HS.out]
      rfl
    rw [hE] at htx
    have hiv : Value.slice t.is_ 1 t.ic = .slice s1 1 c1 := by rw [← HFV.out.iv]; unfold TxM.iv; rw [HFV.out.ins]; rfl
    change Calls _ _ #[.agg #[.slice t.is_ 1 t.ic, .slice (some ⟨W.heap.size, 0, none⟩) 2 2], _] _ _ at htx
    rw [hiv] at htx
    clear hB7 hK7 hT7 hE hiv
    go_wp2_with fail
    refine htx.mono ?_
    rintro e w9 ⟨rfl, hb9⟩
    have HB9 := Lib.hid (below_step HB7.out HB7.out.size hb9)
    clear hb9 htx
    go_wp2_with fail
    go_ret
    exact ⟨rfl, HB9.out⟩
  have d3 : decide (a ≤ 1125899906842624) = true := decide_eq_true (by omega)
  have hw1 : wrap64 (1125899906842624 - a) = 1125899906842624 - a := by simp [wrap64]; omega
  by_cases h4 : 1125899906842624 - a < b
  · have d4 : decide (b ≤ 1125899906842624 - a) = false := decide_eq_false (by omega)
    have hS : osum 0 [out1 a, out1 b] = (0, false) := by
      rw [HOS.out]
      rw [if_neg (by omega), if_pos (.inr h4)]
    rw [hS] at hsum
    have HS := Lib.hid hS
    clear hS
    go_wp2_with fail
    refine hsum.mono ?_
    rintro e w2 ⟨rfl, hb2⟩
    have HB3 := Lib.hid (below_step HB2.out HB2.out.size hb2)
    have hfi := first_any' 0 w2 (by unfold OutOk out1; decide)
    clear hb2 hsum
    go_wp2_with fail
    refine hfi.mono ?_
    rintro e w3 ⟨s1, c1, s2, c2, t, rfl, hFV⟩
    have HFV := Lib.hid hFV
    have HB4 := Lib.hid (below_step HB3.out HB3.out.size hFV.B)
    clear hFV hfi
    go_upto_region 6 with fail
    refine wp_any (fun W => Below w3.heap.size w3 W ∧ Bk W w3.heap.size 32 #[.slice s1 1 c1, .slice s2 1 c2]) ⟨(Below.refl _ _).alloc (Nat.le_refl _) _, Bk.new _ _ _⟩ ?_
    rintro W ⟨hB, K⟩
    have HB5 := Lib.hid (below_step HB4.out HB4.out.size hB)
    have HT0 : Hid (TxV W w3.heap.size t) := HFV.out.V.keep hB (Nat.le_refl _)
    have HZ : Hid (w.heap.size ≤ w3.heap.size) := HB4.out.size
    generalize w3.heap.size = p8 at *
    have c0 := K.cell 0
    have c1' := K.cell 1
    have f1 := K.frozen 1
    have z1 := K.lt
    have HK := Lib.hid K
    clear hB K
    go_upto_region 7 with fail
    refine wp_any (fun W' => Below w.heap.size w W' ∧ Bk W' p8 32 #[.slice s1 1 c1, .slice (some ⟨W.heap.size, 0, none⟩) 2 2] ∧ TxV W' W'.heap.size ⟨t.is_, t.ic, [in1], some ⟨W.heap.size, 0, none⟩, 2, [out1 a, out1 b]⟩) ⟨?_, ?_, ?_⟩ ?_
    · exact (HB5.out.setCell HZ.out _).alloc (by have := HB5.out.size; simpa [World.setCell] using this) _
    · exact (HK.out.set_ 1 _).alloc _
    · exact money_tx HT0.out HFV.out.ins HA.out HBb.out z1
    clear c0 c1' f1 z1
    rintro W7 ⟨hB7, hK7, hT7⟩
    have c0 := hK7.cell 0
    have c1' := hK7.cell 1
    have z1 := hK7.lt
    have HB7 := Lib.hid hB7
    have htx := ctx_any ⟨t.is_, t.ic, [in1], some ⟨W.heap.size, 0, none⟩, 2, [out1 a, out1 b]⟩ true W7 hT7
    have hE : txE true ⟨t.is_, t.ic, [in1], some ⟨W.heap.size, 0, none⟩, 2, [out1 a, out1 b]⟩ = 121 := by
      rw [money_txE, HS.out]
      rfl
    rw [hE] at htx
    have hiv : Value.slice t.is_ 1 t.ic = .slice s1 1 c1 := by rw [← HFV.out.iv]; unfold TxM.iv; rw [HFV.out.ins]; rfl
    change Calls _ _ #[.agg #[.slice t.is_ 1 t.ic, .slice (some ⟨W.heap.size, 0, none⟩) 2 2], _] _ _ at htx
    rw [hiv] at htx
    clear hB7 hK7 hT7 hE hiv
    go_wp2_with fail
    refine htx.mono ?_
    rintro e w9 ⟨rfl, hb9⟩
    have HB9 := Lib.hid (below_step HB7.out HB7.out.size hb9)
    clear hb9 htx
    go_wp2_with fail
    go_ret
    exact ⟨rfl, HB9.out⟩
  have d4 : decide (b ≤ 1125899906842624 - a) = true := decide_eq_true (by omega)
  have hw2 : wrap64 (a + b) = a + b := by simp [wrap64]; omega
  have hS : osum 0 [out1 a, out1 b] = (a + b, true) := by
    rw [HOS.out]
    rw [if_neg (by omega), if_neg (by omega)]
  rw [hS] at hsum
  have HS := Lib.hid hS
  clear hS
  go_wp2_with fail
  refine hsum.mono ?_
  rintro e w2 ⟨rfl, hb2⟩
  have HB3 := Lib.hid (below_step HB2.out HB2.out.size hb2)
  have hfi := first_any' 0 w2 (by unfold OutOk out1; decide)
  clear hb2 hsum
  go_wp2_with fail
  refine hfi.mono ?_
  rintro e w3 ⟨s1, c1, s2, c2, t, rfl, hFV⟩
  have HFV := Lib.hid hFV
  have HB4 := Lib.hid (below_step HB3.out HB3.out.size hFV.B)
  clear hFV hfi
  go_upto_region 6 with fail
  refine wp_any (fun W => Below w3.heap.size w3 W ∧ Bk W w3.heap.size 32 #[.slice s1 1 c1, .slice s2 1 c2]) ⟨(Below.refl _ _).alloc (Nat.le_refl _) _, Bk.new _ _ _⟩ ?_
  rintro W ⟨hB, K⟩
  have HB5 := Lib.hid (below_step HB4.out HB4.out.size hB)
  have HT0 : Hid (TxV W w3.heap.size t) := HFV.out.V.keep hB (Nat.le_refl _)
  have HZ : Hid (w.heap.size ≤ w3.heap.size) := HB4.out.size
  generalize w3.heap.size = p8 at *
  have c0 := K.cell 0
  have c1' := K.cell 1
  have f1 := K.frozen 1
  have z1 := K.lt
  have HK := Lib.hid K
  clear hB K
  go_upto_region 7 with fail
  refine wp_any (fun W' => Below w.heap.size w W' ∧ Bk W' p8 32 #[.slice s1 1 c1, .slice (some ⟨W.heap.size, 0, none⟩) 2 2] ∧ TxV W' W'.heap.size ⟨t.is_, t.ic, [in1], some ⟨W.heap.size, 0, none⟩, 2, [out1 a, out1 b]⟩) ⟨?_, ?_, ?_⟩ ?_
  · exact (HB5.out.setCell HZ.out _).alloc (by have := HB5.out.size; simpa [World.setCell] using this) _
  · exact (HK.out.set_ 1 _).alloc _
  · exact money_tx HT0.out HFV.out.ins HA.out HBb.out z1
  clear c0 c1' f1 z1
  rintro W7 ⟨hB7, hK7, hT7⟩
  have c0 := hK7.cell 0
  have c1' := hK7.cell 1
  have z1 := hK7.lt
  have HB7 := Lib.hid hB7
  have htx := ctx_any ⟨t.is_, t.ic, [in1], some ⟨W.heap.size, 0, none⟩, 2, [out1 a, out1 b]⟩ true W7 hT7
  have hE : txE true ⟨t.is_, t.ic, [in1], some ⟨W.heap.size, 0, none⟩, 2, [out1 a, out1 b]⟩ = 0 := by
    rw [money_txE, HS.out]
    rfl
  rw [hE] at htx
  have hiv : Value.slice t.is_ 1 t.ic = .slice s1 1 c1 := by rw [← HFV.out.iv]; unfold TxM.iv; rw [HFV.out.ins]; rfl
  change Calls _ _ #[.agg #[.slice t.is_ 1 t.ic, .slice (some ⟨W.heap.size, 0, none⟩) 2 2], _] _ _ at htx
  rw [hiv] at htx
  clear hB7 hK7 hT7 hE hiv
  go_wp2_with fail
  refine htx.mono ?_
  rintro e w9 ⟨rfl, hb9⟩
  have HB9 := Lib.hid (below_step HB7.out HB7.out.size hb9)
  clear hb9 htx
  go_wp2_with fail
  go_ret
  exact ⟨rfl, HB9.out⟩

/-- The door's own heap meets the condition. -/
theorem door_met (os : Os) (args : Array Value) : laidMetH Tryd.prog laidL ((World.doorLaid Tryd.prog 19 os).forCall (fun _ _ => 0) ⟨#[], args, []⟩).memory :=
  laidMetH_of_parts3 (fuel := 8) (laidMet_of_run' 8 (by kernel_rfl) (by kernel_rfl)) (by kernel_rfl) (by kernel_rfl)

set_option maxRecDepth 100000 in
theorem lifted (os : Os) (started : os.Started) (H : Type) (enc : TypeId × Value → H) :
    ReturnsInHanded {} Tryd.checked os 3 .any (fun w args => (Rows.checkMoneySpec.pre enc Tryd.prog Tryd.f3 [] false w args ∧ laidMetH Tryd.prog laidL w) ∧ sizedMet enc Tryd.prog Tryd.f3 (OpenSpec.ofChange Rows.checkMoneySpec) false w args)
      (Rows.checkMoneySpec.post enc Tryd.prog Tryd.f3 false true false false) := by
  refine returnsInHanded_of_change_and (C := Tryd.checked) (X := fun w _ => laidMetH Tryd.prog laidL w) (fun _ _ _ hh h => h.of_heap hh) own started (by kernel_rfl) Tryd.func3
    (ChangeSpec.witness_shaped (enc := enc) (C := Tryd.checked) (os := os) (X := fun w _ => laidMetH Tryd.prog laidL w) false (World.doorLaid Tryd.prog 19 os) #[.int .i64 0, .int .i64 0] 8 rfl (World.shaped_of_RefB (by kernel_rfl) (by kernel_rfl)) (by kernel_rfl) (by kernel_rfl) (by kernel_rfl) (door_met os _)) ?_
  intro W base args ds gs before hval0 hW _ _ hL _
  have hval : ∀ (j : Nat) t v, Tryd.f3.params[j]? = some t → args[j]? = some v → Value.okWide Tryd.prog W .any base t v := hval0
  have hW' := hW
  obtain ⟨p, q, hA0, hV, rfl, hfz, hnd⟩ := hW
  have hA : DataW.TrodAll enc Tryd.prog W 0 (fun _ => true) true Tryd.f3.params.toList args.toList ds p := hA0
  rw [Tryd.params3] at hA hval
  obtain ⟨v0, vs0, d0, ds0, p0, q0, hargs, rfl, rfl, h0, r0⟩ := trodAll_cons hA
  obtain ⟨v1, vs1, d1, ds1, p1, q1, rfl, rfl, rfl, h1, r1⟩ := trodAll_cons r0
  obtain ⟨rfl, rfl, rfl⟩ := trodAll_nil r1
  obtain rfl : args = #[v0, v1] := by cases args; simp_all
  obtain ⟨rfl, rfl⟩ := trodVars_none hV
  have lt0 : ∀ x ∈ p0, x.block < W.heap.size := by obtain ⟨m, hm⟩ := h0; exact DataW.trod_lt m _ _ _ hm
  have lt1 : ∀ x ∈ p1, x.block < W.heap.size := by obtain ⟨m, hm⟩ := h1; exact DataW.trod_lt m _ _ _ hm
  obtain ⟨y0, rfl, _, _, hwf0⟩ := open_int (k := .i64) Tryd.underlying2 (hval 0 2 v0 rfl rfl) h0
  have hy0 := wf_i64 hwf0
  obtain ⟨y1, rfl, _, _, hwf1⟩ := open_int (k := .i64) Tryd.underlying2 (hval 1 2 v1 rfl rfl) h1
  have hy1 := wf_i64 hwf1
  have hwalk := walk y0 y1 W (of_laid hL) hy0 hy1
  clear hA0 hval0
  refine hwalk.mono fun e W' ⟨he, bel⟩ => ?_
  subst he
  exact ⟨_, rfl, _, _, _, [], _, [], hW', trodAll_mk1 (shut_bool Tryd.underlying4 _), (trodAll_cons_mk (Below.trod laidOut (by kernel_rfl) (of_decide_eq_true (by kernel_rfl)) h0 bel lt0) (trodAll_cons_mk (Below.trod laidOut (by kernel_rfl) (of_decide_eq_true (by kernel_rfl)) h1 bel lt1) trodAll_mk0)), rfl, bel.frame _, fun h => by cases h⟩

theorem over : Rows.CheckMoneySaid :=
  OpenClaim.holds_of_wide 3 Tryd.f3 rfl rfl rfl rfl rfl rfl rfl ⟨rfl, rfl, rfl, rfl, rfl⟩ rfl rfl rfl rfl rfl (by kernel_rfl) Tryd.func3 (by kernel_rfl)
    (of_decide_eq_true (by kernel_rfl)) (by unfold Func.isWrapper; first | (rw [if_pos (by decide +kernel)]; kernel_rfl) | (rw [if_neg (by decide +kernel)]; exact ⟨rfl, rfl⟩))
    (fun os started H enc _ => lifted os started H enc)

theorem proved : Rows.CheckMoneyCardSaid :=
  Claim7.holds_tied_plain_at .later [] [.data, .data] true Rows.checkMoneyCard.stood.harness false
    over (fun _ h => by cases h) (by kernel_rfl) (fun _ h => by cases h) checkMoney_row_tie rfl ⟨rfl, rfl⟩ (by kernel_rfl) rfl
    (fun f fn hf hfn => by
      obtain rfl : f = 3 := Option.some.inj ((show Tryd.prog.funcNamed "tallystick/tallysticklaw12.CheckMoney" = some 3 by kernel_rfl).symm.trans hf) |>.symm
      obtain rfl : fn = Tryd.f3 := (Option.some.inj (Tryd.func3.symm.trans hfn)).symm
      exact ⟨by kernel_rfl, fun j t ht => by
        rw [Tryd.params3] at ht
        have hm : t ∈ [2, 2] := by simpa using Array.mem_of_getElem? ht
        have hall : ([2, 2].all fun u => !Tryd.prog.wantsStandIn u) = true := by kernel_rfl
        exact (show Tryd.prog.wantsStandIn t = false by simpa using List.all_eq_true.1 hall t hm)⟩)
    (by kernel_rfl)
#print axioms proved
end Go.Proofs.YtpemljbdmbinlaaDoor.checkMoney
