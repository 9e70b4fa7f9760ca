/-
  Contracts of package bits: Target.
-/
import Derived.Test.YtljfhabhenaapaaDoorBitA
import Derived.Laws.ResultCell
import Derived.Deep.RegionLaw
namespace Go.Proofs.YtljfhabhenaapaaDoor
open Go.RowKit
set_option maxRecDepth 100000
set_option linter.unusedVariables false

/-- What short bits mean: a number, and whether it is one. -/
def tgtV (b : Nat) : Nat := if 8388608 ≤ b % 16777216 then 0 else if 256 < (blen (b % 16777216) : Int) + (((b / 16777216 : Nat) : Int) - 3) * 8 then 0 else mv (b % 16777216) (((b / 16777216 : Nat) : Int) - 3)
theorem tgtV_lt (b : Nat) : tgtV b < M256 := by
  unfold tgtV
  split
  · exact M256_pos'
  · split
    · exact M256_pos'
    · exact mv_lt _ _ (by rw [M256_pow]; exact Nat.lt_of_lt_of_le (show b % 16777216 < 2 ^ 24 by omega) (Nat.pow_le_pow_right (by omega) (by omega)))
/-- A function that hands back a number out of its own block, and a word. -/
theorem num_ret2 {P : Func} {a : Act} {w W : World} {r g nm k : Nat} {v : Value} (hp : P.results = #[ResultVar.cell nm 43, ResultVar.tmp k]) (hd : a.defers = []) (hv : a.tmps.getD nm undef = .pointer (some ⟨g, 0, none⟩)) (hk : a.tmps.getD k undef = v)
    (hR : Bk W g 43 (A4 (wd0 r) (wd1 r) (wd2 r) (wd3 r))) (hB : Below w.heap.size w W) : bodyPost Tryd.prog P (fun e w' => e = .returned (.tuple #[nv r, v]) ∧ Below w.heap.size w w') Exit.ret a W := by
  have h1 := run_loadVar_row (P := Tryd.prog) W g 43 43 (A4 (wd0 r) (wd1 r) (wd2 r) (wd3 r)) (0, 0) _ hR Tryd.underlying43 rfl num_info
  refine bodyPost_ret (v := .tuple #[nv r, v]) ?_ hd ⟨rfl, hB⟩
  rw [results_cell_tmp hp, hv, hk]
  show ((asAddr (.pointer (some ⟨g, 0, none⟩))).run Tryd.prog W).andThen _ = _
  simp only [asAddr, Sem.run_pure, Result.andThen_ok, h1]
theorem zero_cells : A4 (wd0 0) (wd1 0) (wd2 0) (wd3 0) = #[Value.int .u64 0, .int .u64 0, .int .u64 0, .int .u64 0] := by kernel_rfl
theorem and24 (b : Nat) (h : b < 4294967296) : bits BinOp.and IntKind.u32 (b : Int) 16777215 = ((b % 16777216 : Nat) : Int) := by
  have e := u32_and_nat b 16777215 h (by omega)
  rw [show (16777216 : Nat) = 2 ^ 24 from rfl, ← Nat.and_two_pow_sub_one_eq_mod]
  exact e
set_option maxRecDepth 100000 in
set_option maxHeartbeats 1000000 in
theorem target_any (b : Nat) (w : World) (hb : b < 4294967296) :
    Calls Tryd.prog 43 #[.int .u32 (b : Int)] w fun e w' => e = .returned (.tuple #[nv (tgtV b), .bool (!decide (tgtV b = 0))]) ∧ Below w.heap.size w w' := by
  have ha := and24 b hb
  have HT : Hid (tgtV b = if 8388608 ≤ b % 16777216 then 0 else if 256 < (blen (b % 16777216) : Int) + (((b / 16777216 : Nat) : Int) - 3) * 8 then 0 else mv (b % 16777216) (((b / 16777216 : Nat) : Int) - 3)) := rfl
  have hx : b % 16777216 < 16777216 := Nat.mod_lt _ (by omega)
  have hy : b / 16777216 < 256 := by omega
  have hsh : ((b : Int) / 16777216) = ((b / 16777216 : Nat) : Int) := by omega
  have ht := tgtV_lt b
  generalize tgtV b = t at *
  generalize b % 16777216 = x at *
  generalize b / 16777216 = y at *
  have hxM : x < M256 := by rw [M256_pow]; exact Nat.lt_of_lt_of_le (show x < 2 ^ 24 by omega) (Nat.pow_le_pow_right (by omega) (by omega))
  by_cases h1 : 8388608 ≤ x
  · have e1 : t = 0 := by rw [HT.out, if_pos h1]
    subst e1
    rw [show (!decide ((0 : Nat) = 0)) = false from rfl]
    have hd : decide ((8388608 : Int) ≤ (x : Int)) = true := decide_eq_true (by omega)
    clear hsh ht HT
    go_enter Tryd.func43, Tryd.ntmps43
    go_wp2_with fail
    exact num_ret2 rfl rfl rfl rfl (by rw [zero_cells]; exact Bk.new _ _ _) ((Below.refl _ _).alloc (Nat.le_refl _) _)
  · have hd : decide ((8388608 : Int) ≤ (x : Int)) = false := decide_eq_false (by omega)
    have HO := Lib.hid (fun W => of_any x W (by rw [B64_pow]; exact Nat.lt_of_lt_of_le (show x < 2 ^ 24 by omega) (Nat.pow_le_pow_right (by omega) (by omega))))
    have HL := Lib.hid (fun W => len_any x W hxM)
    have hbl := blen_le x hxM
    rw [if_neg h1] at HT
    obtain ⟨l, hl⟩ : ∃ l, l = blen x := ⟨_, rfl⟩
    rw [← hl] at HT HL hbl
    clear hl h1
    by_cases h2 : 256 < (l : Int) + ((y : Int) - 3) * 8
    · have e1 : t = 0 := by rw [HT.out, if_pos h2]
      subst e1
      rw [show (!decide ((0 : Nat) = 0)) = false from rfl]
      have hd2 : decide ((256 : Int) < (l : Int) + ((y : Int) - 3) * 8) = true := decide_eq_true h2
      clear ht HT
      go_enter Tryd.func43, Tryd.ntmps43
      go_wp2_with fail
      refine (HO.out _).mono ?_
      rintro e w1 ⟨rfl, hb1⟩
      have R : Bk w1 w.heap.size 43 (A4 (wd0 0) (wd1 0) (wd2 0) (wd3 0)) := by rw [zero_cells]; exact Bk.keep (Bk.new _ _ _) hb1
      have hW : Below w.heap.size w w1 := below_step ((Below.refl _ _).alloc (Nat.le_refl _) _) (by simp) hb1
      clear hb1
      go_wp2_with fail
      refine (HL.out _).mono ?_
      rintro e w2 ⟨rfl, hb2⟩
      have R := (R.alloc (.cells (A4 (wd0 x) (wd1 x) (wd2 x) (wd3 x)) 43)).keep hb2
      have hW := below_step (hW.alloc hW.size (.cells (A4 (wd0 x) (wd1 x) (wd2 x) (wd3 x)) 43)) (by have := hW.size; simp; omega) hb2
      clear hb2
      rw [zero_cells] at R
      obtain ⟨r0, r1, r2, r3, r4, r5, r6, r7, zr⟩ := R.f4
      go_wp2_with fail
      refine num_ret2 rfl rfl rfl rfl ?_ (Below.set4 hW (Nat.le_refl _) _ _ _ _)
      rw [zero_cells]
      exact R.set4 _ _ _ _
    · have e1 : t = mv x ((y : Int) - 3) := by rw [HT.out, if_neg h2]
      have hd2 : decide ((256 : Int) < (l : Int) + ((y : Int) - 3) * 8) = false := decide_eq_false h2
      have HM := Lib.hid (fun W => move_any x ((y : Int) - 3) W hxM (by omega) (by omega))
      rw [← e1] at HM
      have HZ := Lib.hid (fun W => zero_any t W ht)
      clear ht HT h2 e1
      generalize decide (t = 0) = o at *
      go_enter Tryd.func43, Tryd.ntmps43
      go_wp2_with fail
      refine (HO.out _).mono ?_
      rintro e w1 ⟨rfl, hb1⟩
      have R : Bk w1 w.heap.size 43 #[.int .u64 0, .int .u64 0, .int .u64 0, .int .u64 0] := Bk.keep (Bk.new _ _ _) hb1
      have hW : Below w.heap.size w w1 := below_step ((Below.refl _ _).alloc (Nat.le_refl _) _) (by simp) hb1
      clear hb1
      go_wp2_with fail
      refine (HL.out _).mono ?_
      rintro e w2 ⟨rfl, hb2⟩
      have R := (R.alloc (.cells (A4 (wd0 x) (wd1 x) (wd2 x) (wd3 x)) 43)).keep hb2
      have X : Bk w2 w1.heap.size 43 (A4 (wd0 x) (wd1 x) (wd2 x) (wd3 x)) := (Bk.new _ _ _).keep hb2
      have hg1 := hW.size
      have hW := below_step (hW.alloc hW.size (.cells (A4 (wd0 x) (wd1 x) (wd2 x) (wd3 x)) 43)) (by have := hW.size; simp; omega) hb2
      clear hb2
      generalize w1.heap.size = g1 at *
      obtain ⟨a0, a1, a2, a3, a4, a5, a6, a7, za⟩ := X.f4
      go_wp2_with fail
      refine (HM.out _).mono ?_
      rintro e w3 ⟨rfl, hb3⟩
      have R := R.keep hb3
      have hW := below_step hW hW.size hb3
      clear hb3 a0 a1 a2 a3 a4 a5 a6 a7 za X
      go_upto_region 8 with fail
      have M : Bk (w3.alloc (.cells (A4 (wd0 t) (wd1 t) (wd2 t) (wd3 t)) 43)) w3.heap.size 43 (A4 (wd0 t) (wd1 t) (wd2 t) (wd3 t)) := Bk.new _ _ _
      have hg3 := R.lt
      refine wp_abs (fun W => Below w.heap.size w W ∧ Bk W w.heap.size 43 #[.int .u64 0, .int .u64 0, .int .u64 0, .int .u64 0] ∧ Bk W w3.heap.size 43 (A4 (wd0 t) (wd1 t) (wd2 t) (wd3 t))) ⟨hW.alloc hW.size _, R.alloc _, M⟩ ?_
      clear hW R M
      generalize w3.heap.size = g3 at *
      rintro W ⟨hW, R, M⟩
      obtain ⟨m0, m1, m2, m3, m4, m5, m6, m7, zm⟩ := M.f4
      obtain ⟨r0, r1, r2, r3, r4, r5, r6, r7, zr⟩ := R.f4
      have hne : g3 ≠ w.heap.size := by omega
      go_region_law (go_simp; go_at_call 58; refine (HZ.out _).mono ?_; rintro e w5 ⟨rfl, hb5⟩; have hE5 : Below W.heap.size W w5 := below_step ((Below.refl _ _).drew) (Nat.le_refl _) hb5; have R5 := R.keep hE5; have k0 := cellS hE5 m0; have k1 := cellS hE5 m1; have k2 := cellS hE5 m2; have k3 := cellS hE5 m3; obtain ⟨p0, p1, p2, p3, p4, p5, p6, p7, zp⟩ := R5.f4)
      all_goals
        go_wp2_with fail

        exact num_ret2 rfl rfl rfl rfl (R5.set4 _ _ _ _) (Below.set4 (below_step hW hW.size hE5) (Nat.le_refl _) _ _ _ _)
end Go.Proofs.YtljfhabhenaapaaDoor
