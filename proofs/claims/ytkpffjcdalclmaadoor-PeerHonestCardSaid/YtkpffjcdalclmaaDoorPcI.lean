/-
  Whole numbers as an argument; what is read of a pong.
-/
import Derived.Test.YtkpffjcdalclmaaDoorPeZ
import Derived.Test.YtkpffjcdalclmaaDoorBkZ
import Derived.OpenShut
import Derived.ChangeOld
namespace Go.Proofs.YtkpffjcdalclmaaDoor
open Go.ChangeShapes Go.WideShapes Go.ChangeAt Go.RowKit
set_option linter.unusedVariables false
set_option linter.unusedSimpArgs false
set_option maxRecDepth 100000
def intR : RowT Int := ⟨3, 69, 1, 8, fun z => [.int .i64 z], 0⟩
theorem int_facts : (Tryd.prog.info? 3).map (fun i => (i.zero.map (·.cells), i.size, i.bytes)) = some (some #[.int .i64 0], 1, 8) := by kernel_rfl
theorem int_info : ∃ i v, Tryd.prog.info? 3 = some i ∧ i.zero = some v ∧ i.size = 1 ∧ i.bytes = 8 ∧ v.cells = #[.int .i64 0] := by
  obtain ⟨i, hi, hs⟩ := Option.map_eq_some_iff.1 int_facts
  simp only [Prod.mk.injEq, Option.map_eq_some_iff] at hs
  obtain ⟨⟨v, hv, hc⟩, h1, h2⟩ := hs
  exact ⟨i, v, hi, hv, h1, h2, hc⟩
theorem intR_ok : intR.Ok where
  ht := Tryd.underlying69
  info := int_info
  len := fun x => rfl
  one := fun x v hv => by
    rw [List.mem_singleton.1 hv]
    rfl
  pos := by decide
  bys := by decide
theorem wf_i64r {z : Int} (h : (Lit.int .i64 z).wf = true) : -9223372036854775808 ≤ z ∧ z ≤ 9223372036854775807 := by
  simp [Lit.wf, IntKind.min, IntKind.max, IntKind.signed, IntKind.bits] at h
  omega
theorem ints_arg {H : Type} {enc : TypeId × Value → H} {w : World} {base b0 : Nat} {spare : Nat → Bool} {held : Bool} {r : Reach} {v : Value} {d : DataW H} {p : List MemPlace}
    (hv : Value.okWide Tryd.prog w r b0 69 v) (h : DataW.Trod enc Tryd.prog w base spare held 69 v d p) : ∃ L : List Int, RowV intR w w.heap.size v L ∧ ∀ z ∈ L, -9223372036854775808 ≤ z ∧ z ≤ 9223372036854775807 := by
  obtain ⟨s0, len, cap, rfl⟩ := okWide_slice Tryd.underlying69 hv
  obtain ⟨fuel, hf⟩ := h
  obtain ⟨s, L, c, h1, h2, h3⟩ := rows_trod intR_ok (fun z => -9223372036854775808 ≤ z ∧ z ≤ 9223372036854775807) (by kernel_rfl) (fun n cs d h1 h2 => by
    obtain ⟨z, e1, _, hw⟩ := DataW.trod_int Tryd.underlying3 h2
    exact ⟨z, wf_i64r hw, e1⟩) hf
  simp [Value.cells] at h1
  obtain ⟨rfl, rfl, rfl⟩ := h1
  exact ⟨L, h2, h3⟩

theorem ver_cells0 (n : Nat) : (Tryd.zeroCells58.setIfInBounds 0 (.int .i64 1)).setIfInBounds 1 (.int .u64 (n : Int)) = (msR.c (verM n 0)).toArray := by
  rw [msz, ms_kd]
  rw [ms_nc { ms0 with kd := 1 } n]
  rfl
theorem pong_dec (N : Nat) (h : N < 18446744073709551616) : decE (kindL 10) (toL N 8) = 0 ∧ (decKey 10 (toL N 8)).2.1 = N := by
  have e := rdNum_toL 8 N [] 0 8 rfl (by decide) (by omega)
  rw [List.append_nil] at e
  constructor
  · unfold decE
    rw [show kindN (kindL 10) = 10 by decide]
    show codeK 10 (toL N 8) = 0
    unfold codeK
    rw [if_neg (by decide)]
    unfold rdC
    have e1 : rdSt 10 (toL N 8) = ([], 0) := by
      show (rdNum (toL N 8, 0) 8).2 = _
      rw [e]
    rw [e1]
    rfl
  · show (rdNum (toL N 8, 0) 8).1 = N
    rw [e]
theorem feed_one (wd da : List Nat) (h : WordOk wd) (hd : da.length ≤ 16384) (hx : ∀ x ∈ da, x < 256) : feedL ⟨[], 0, []⟩ (encL wd da) = ⟨[], 0, [(wd, da)]⟩ := by
  have e := feed_enc wd da [] [] h hd hx (by simp)
  rw [List.append_nil] at e
  rw [e]
  rfl
theorem pong_hear (m : PeM) (N : Nat) (hN : N < 18446744073709551616) (h1 : m.h = []) (h2 : m.e = 0) (h3 : m.rd = true) (h4 : m.sc ≠ 100) : hearM m (encL (kindL 10) (toL N 8)) = (ansF { m with h := [], e := 0 } N, [], []) := by
  have hs : (⟨[], 0, [(kindL 10, toL N 8)]⟩ : FS) = feedL ⟨m.h, m.e, []⟩ (encL (kindL 10) (toL N 8)) := by
    rw [h1, h2]
    exact (feed_one (kindL 10) (toL N 8) (kind_ok (k := 10) (by decide) (by decide)) (by rw [toL_length]; decide) (toL_lt 8 N)).symm
  have hd := pong_dec N hN
  have hk10 : kindN (kindL 10) = 10 := by decide
  have h5 : hear1 { m with h := [], e := 0 } (kindL 10, toL N 8) = (ansF { m with h := [], e := 0 } N, [], []) := by
    simp [hear1, h3, h4, hd.1, hd.2, hk10]
  rw [hearM_of m _ _ hs]
  simp only [ne_eq, not_true_eq_false, if_false, hearF_one, h5]
theorem pong_ok (n : Nat) (hn : n < 18446744073709551616) (w : World) (B : Nat) : MsV w B (pongM n).1 ∧ MsFit (pongM n).1 :=
  ⟨⟨⟨⟨(by decide : (-9223372036854775808 : Int) ≤ 10), (by decide : (10 : Int) ≤ 9223372036854775807)⟩, hn, (by decide : 0 < 4294967296), hd0_is⟩, rowv_nil _ _ _, rowv_nil _ _ _, hd0_is, rowv_nil _ _ _, fun t ht => by cases ht⟩, Nat.zero_le _, Nat.zero_le _, fun _ => ⟨Nat.zero_le _, fun t ht => by cases ht⟩⟩
theorem encL_pong_len (N : Nat) : (encL (kindL 10) (toL N 8)).length ≤ 1000 := by
  rw [encL_len _ _ (by decide), toL_length]
  decide
end Go.Proofs.YtkpffjcdalclmaaDoor
