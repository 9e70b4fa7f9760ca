/-
  The contract of the document's Words.
-/
import Derived.Test.YtkkkfcdoilojmaaRbB
import Derived.Laws.ResultCell
namespace Go.Proofs.Ytkkkfcdoilojmaa
open Go.RowKit
set_option linter.unusedVariables false

/-- Four words, by number. -/
def arr (f : Nat → Nat) : Array Value := #[.int .u64 ((f 0 : Nat) : Int), .int .u64 ((f 1 : Nat) : Int), .int .u64 ((f 2 : Nat) : Int), .int .u64 ((f 3 : Nat) : Int)]
def upd (f : Nat → Nat) (j v : Nat) : Nat → Nat := fun t => if t = j then v else f t
theorem arr_get (f : Nat → Nat) (j : Nat) (hj : j < 4) : (arr f)[j]? = some (.int .u64 ((f j : Nat) : Int)) := by
  have : j = 0 ∨ j = 1 ∨ j = 2 ∨ j = 3 := by omega
  rcases this with rfl | rfl | rfl | rfl <;> rfl
theorem arr_set (f : Nat → Nat) (j v : Nat) (hj : j < 4) : (arr f).setIfInBounds j (.int .u64 (v : Int)) = arr (upd f j v) := by
  have : j = 0 ∨ j = 1 ∨ j = 2 ∨ j = 3 := by omega
  rcases this with rfl | rfl | rfl | rfl <;> rfl
/-- A word while the bits from p on have been laid. -/
def wx (X p j : Nat) : Nat := X / 2 ^ (max p (64 * j)) % 2 ^ (64 * (j + 1) - max p (64 * j))
theorem wx_lt (X p j : Nat) : wx X p j < 2 ^ 64 := by
  unfold wx
  refine Nat.lt_of_lt_of_le (Nat.mod_lt _ (Nat.two_pow_pos _)) (Nat.pow_le_pow_right (by omega) (by omega))
theorem wx_half (X i j : Nat) (h1 : 64 * j ≤ i) (h2 : i < 64 * (j + 1)) : wx X (i + 1) j < 2 ^ 63 := by
  unfold wx
  refine Nat.lt_of_lt_of_le (Nat.mod_lt _ (Nat.two_pow_pos _)) (Nat.pow_le_pow_right (by omega) (by omega))
theorem wx_step (X i j : Nat) (h1 : 64 * j ≤ i) (h2 : i < 64 * (j + 1)) : wx X i j = 2 * wx X (i + 1) j + (bit X i).toNat := by
  unfold wx
  rw [Nat.max_eq_left h1, Nat.max_eq_left (by omega : 64 * j ≤ i + 1), bit_toNat]
  obtain ⟨d, hd⟩ : ∃ d, 64 * (j + 1) - i = d + 1 := ⟨64 * (j + 1) - i - 1, by omega⟩
  rw [hd, show 64 * (j + 1) - (i + 1) = d by omega, Nat.pow_succ 2 i, ← Nat.div_div_eq_div_mul, Nat.pow_succ, Nat.mul_comm (2 ^ d) 2, Nat.mod_mul]
  omega
theorem wx_other (X i j : Nat) (h : i < 64 * j ∨ 64 * (j + 1) ≤ i) : wx X i j = wx X (i + 1) j := by
  unfold wx
  rcases h with h | h
  · rw [Nat.max_eq_right (by omega), Nat.max_eq_right (by omega)]
  · rw [show 64 * (j + 1) - max i (64 * j) = 0 by omega, show 64 * (j + 1) - max (i + 1) (64 * j) = 0 by omega]
    simp [Nat.mod_one]
theorem wx_none (X m j : Nat) (h : X < 2 ^ m) : wx X m j = 0 := by
  unfold wx
  rw [Nat.div_eq_of_lt (Nat.lt_of_lt_of_le h (Nat.pow_le_pow_right (by omega) (Nat.le_max_left _ _)))]
  rfl
theorem arr_eq (f f' : Nat → Nat) (h : ∀ j, j < 4 → f j = f' j) : arr f = arr f' := by
  unfold arr
  rw [h 0 (by omega), h 1 (by omega), h 2 (by omega), h 3 (by omega)]
/-- Whether a bit beyond 256 has been laid. -/
def ox (X p : Nat) : Bool := decide (X / 2 ^ (max p 256) ≠ 0)
theorem ox_none (X m : Nat) (h : X < 2 ^ m) : ox X m = false := by
  unfold ox
  rw [Nat.div_eq_of_lt (Nat.lt_of_lt_of_le h (Nat.pow_le_pow_right (by omega) (Nat.le_max_left _ _)))]
  rfl
theorem ox_low (X i : Nat) (h : i < 256) : ox X i = ox X (i + 1) := by
  unfold ox
  rw [Nat.max_eq_right (by omega), Nat.max_eq_right (by omega)]
theorem ox_high (X i : Nat) (h : 256 ≤ i) : ox X i = (ox X (i + 1) || bit X i) := by
  unfold ox bit
  rw [Nat.max_eq_left h, Nat.max_eq_left (by omega : 256 ≤ i + 1), Nat.pow_succ 2 i, ← Nat.div_div_eq_div_mul]
  generalize X / 2 ^ i = Y
  by_cases h1 : Y / 2 ≠ 0
  · rw [decide_eq_true h1, decide_eq_true (by omega), Bool.true_or]
  · rw [decide_eq_false h1, Bool.false_or]
    by_cases h2 : Y % 2 = 1
    · rw [decide_eq_true h2, decide_eq_true (by omega)]
    · rw [decide_eq_false h2, decide_eq_false (by omega)]
theorem wx_end (X : Nat) : (arr fun j => wx X 0 j) = A4 (wd0 (X % M256)) (wd1 (X % M256)) (wd2 (X % M256)) (wd3 (X % M256)) := by
  have h : ∀ j, j < 4 → wx X 0 j = wdi (X % M256) j := by
    intro j hj
    unfold wx wdi
    rw [Nat.max_eq_right (by omega), show 64 * (j + 1) - 64 * j = 64 by omega, B64_pow', ← Nat.pow_mul, M256_pow]
    apply Nat.eq_of_testBit_eq
    intro t
    rw [Nat.testBit_mod_two_pow, Nat.testBit_mod_two_pow, Nat.testBit_div_two_pow, Nat.testBit_div_two_pow, Nat.testBit_mod_two_pow]
    by_cases ht : t < 64
    · rw [decide_eq_true ht, decide_eq_true (by omega)]
      simp
    · rw [decide_eq_false ht]
      simp
  show (#[Value.int .u64 ((wx X 0 0 : Nat) : Int), .int .u64 ((wx X 0 1 : Nat) : Int), .int .u64 ((wx X 0 2 : Nat) : Int), .int .u64 ((wx X 0 3 : Nat) : Int)] : Array Value) = _
  rw [h 0 (by omega), h 1 (by omega), h 2 (by omega), h 3 (by omega), ← wdi_0, ← wdi_1, ← wdi_2, ← wdi_3]
theorem ox_end (X : Nat) : ox X 0 = decide (M256 ≤ X) := by
  unfold ox
  rw [Nat.max_eq_right (by omega), M256_pow]
  by_cases h : 2 ^ 256 ≤ X
  · rw [decide_eq_true h]
    have := Nat.div_pos h (Nat.two_pow_pos 256)
    rw [decide_eq_true (by omega)]
  · rw [decide_eq_false h, Nat.div_eq_of_lt (by omega)]
    rfl
theorem arr_info : (Try.prog.info? 23).map (·.size) = some 4 := by kernel_rfl
/-- A function that hands back four words out of its own block, and a word. -/
theorem arr_ret2 {P : Func} {a : Act} {w W : World} {r g nm k : Nat} {v : Value} (hp : P.results = #[ResultVar.cell nm 23, ResultVar.tmp k]) (hd : a.defers = []) (hv : a.tmps.getD nm undef = .pointer (some ⟨g, 0, none⟩)) (hk : a.tmps.getD k undef = v)
    (hR : Bk W g 23 (A4 (wd0 r) (wd1 r) (wd2 r) (wd3 r))) (hB : Below w.heap.size w W) : bodyPost Try.prog P (fun e w' => e = .returned (.tuple #[nv r, v]) ∧ Below w.heap.size w w') Exit.ret a W := by
  have h1 := run_loadVar_row (P := Try.prog) W g 23 23 (A4 (wd0 r) (wd1 r) (wd2 r) (wd3 r)) (0, 0) _ hR Try.underlying23 rfl arr_info
  refine bodyPost_ret (v := .tuple #[nv r, v]) ?_ hd ⟨rfl, hB⟩
  rw [results_cell_tmp hp, hv, hk]
  show ((asAddr (.pointer (some ⟨g, 0, none⟩))).run Try.prog W).andThen _ = _
  simp only [asAddr, Sem.run_pure, Result.andThen_ok, h1]
set_option maxRecDepth 100000 in
set_option maxHeartbeats 2000000 in
theorem words_any (v : Value) (X m : Nat) (w : World) (h : BX w v X m) (hm : m ≤ 1000000) :
    Calls Try.prog 34 #[v] w fun e w' => e = .returned (.tuple #[nv (X % M256), .bool (decide (M256 ≤ X))]) ∧ Below w.heap.size w w' := by
  have hX := Lib.hid h.lt
  have HB := Lib.hid h
  obtain ⟨s, c, rfl, hmc⟩ := h.slice
  have HE1 := Lib.hid (wx_end X)
  have HE2 := Lib.hid (ox_end X)
  generalize X % M256 = R at *
  generalize decide (M256 ≤ X) = O at *
  have q0 : IntKind.i64.wrap ((m : Int) - 1) = (m : Int) - 1 := IntWalk.i64_in _ (by omega)
  clear h
  go_enter Try.func34, Try.ntmps34
  go_upto_region 2 with fail
  refine wp_gen (fun W => Below w.heap.size w W ∧ Bk W w.heap.size 23 #[.int .u64 0, .int .u64 0, .int .u64 0, .int .u64 0] ∧ Bk W (w.heap.size + 1) 23 #[.int .u64 0, .int .u64 0, .int .u64 0, .int .u64 0]) ⟨((Below.refl _ _).alloc (Nat.le_refl _) _).alloc (by simp) _, (Bk.new _ _ _).alloc _, Bk.new' _ _ _ (by simp)⟩ ?_
  rintro W ⟨hW, K0, K⟩
  generalize hgd : w.heap.size = g at *
  go_wp2_with fail
  go_loopw [6, 5] (fun i ov wr => ∃ p : Nat, p ≤ m ∧ i = .int .i64 ((p : Int) - 1) ∧ ov = .bool (ox X p) ∧ Hid (Below g w wr) ∧ Bk wr g 23 #[.int .u64 0, .int .u64 0, .int .u64 0, .int .u64 0] ∧ ∃ f, Hid (∀ j, j < 4 → f j = wx X p j) ∧ Bk wr (g + 1) 23 (arr f)) (fun i _ _ => (intOf i + 1).toNat)
  case atStart =>
    refine ⟨m, Nat.le_refl _, rfl, ?_, hW, K0, fun _ => 0, ?_, K⟩
    · rw [ox_none X m hX.out]
    · intro j hj
      rw [wx_none X m j hX.out]
  case round =>
    obtain ⟨p, hp, rfl, rfl, hWr, K0, f, Hf, K⟩ := hrel
    clear hW q0
    cases p with
    | zero =>
      rw [show (((0 : Nat) : Int) - 1) = -1 from rfl]
      have hd : decide ((0 : Int) ≤ -1) = false := by decide
      have eA : arr f = A4 (wd0 R) (wd1 R) (wd2 R) (wd3 R) := (arr_eq f _ Hf.out).trans HE1.out
      rw [eA] at K
      rw [HE2.out]
      clear eA Hf HE1 HE2 hX HB
      obtain ⟨a0, a1, a2, a3, a4, a5, a6, a7, za⟩ := K.f4
      obtain ⟨r0, r1, r2, r3, r4, r5, r6, r7, zr⟩ := K0.f4
      go_wp2_with fail
      refine arr_ret2 rfl rfl rfl rfl (K0.set4 _ _ _ _) ?_
      rw [hgd]
      exact Below.set4 hWr.out (Nat.le_refl _) _ _ _ _
    | succ k =>
      rw [show (((k + 1 : Nat) : Int) - 1) = (k : Int) by omega]
      have hd : decide ((0 : Int) ≤ (k : Int)) = true := decide_eq_true (by omega)
      have q1 : IntKind.i64.wrap ((k : Int) - 1) = (k : Int) - 1 := IntWalk.i64_in _ (by omega)
      obtain ⟨b, o, rfl, hbg, hcb0⟩ := HB.out.at_ k (by omega)
      rw [hgd] at hbg
      have hcb := (hWr.out.cell (p := ⟨b, o + k, none⟩) hbg).trans hcb0
      have hne1 : b ≠ g + 1 := by omega
      have hne2 : g + 1 ≠ b := by omega
      clear hcb0
      have j1 : (k : Int) < (m : Int) := by omega
      by_cases h256 : 256 ≤ k
      · have hdk : decide ((256 : Int) ≤ (k : Int)) = true := decide_eq_true (by omega)
        have HO := Lib.hid (ox_high X k h256)
        have HF : Hid (∀ j, j < 4 → f j = wx X k j) := fun j hj => by rw [Hf.out j hj, wx_other X k j (by omega)]
        generalize ox X (k + 1) = ov at *
        generalize bit X k = β at *
        clear Hf HE1 HE2 hX HB
        cases ov
        · go_wp2_with fail
          go_roundw
          case rel =>
            have hv : Value.bool β = .bool (ox X k) := by rw [HO.out]; simp
            first | exact ⟨k, by omega, rfl, hv, hWr, K0, f, HF, K⟩ | ((repeat apply Exists.intro); exact ⟨⟨k, by omega, rfl, hv, hWr, K0, f, HF, K⟩, rfl⟩)
          case measure => simp [intOf] <;> omega
        · go_wp2_with fail
          go_roundw
          case rel =>
            have hv : Value.bool true = .bool (ox X k) := by rw [HO.out]; simp
            first | exact ⟨k, by omega, rfl, hv, hWr, K0, f, HF, K⟩ | ((repeat apply Exists.intro); exact ⟨⟨k, by omega, rfl, hv, hWr, K0, f, HF, K⟩, rfl⟩)
          case measure => simp [intOf] <;> omega
      · have hdk : decide ((256 : Int) ≤ (k : Int)) = false := decide_eq_false (by omega)
        have HO := Lib.hid (ox_low X k (by omega))
        obtain ⟨j, hj⟩ : ∃ j, j = k / 64 := ⟨_, rfl⟩
        have hj4 : j < 4 := by omega
        have hq : (k : Int) / 64 = (j : Int) := by omega
        obtain ⟨y, hy⟩ : ∃ y, y = f j := ⟨_, rfl⟩
        have hyl : y < 9223372036854775808 := by rw [hy, Hf.out j hj4]; exact wx_half X k j (by omega) (by omega)
        have hstep := wx_step X k j (by omega) (by omega)
        rw [← Hf.out j hj4, ← hy] at hstep
        have HF : ∀ u, u = wx X k j → Hid (∀ t, t < 4 → upd f j u t = wx X k t) := fun u hu t ht => by
          unfold upd
          split
          · rename_i e
            rw [e, hu]
          · rename_i e
            rw [Hf.out t ht, wx_other X k t (by omega)]
        have HF := Lib.hid HF
        have hc := (K.cell j).trans (arr_get f j hj4)
        rw [← hy] at hc
        have hf := K.frozen j
        have hz := K.lt
        have hw2 : IntKind.u64.wrap ((y : Int) * 2) = ((2 * y : Nat) : Int) := by rw [IntKind.wrap_u64]; omega
        have hw1 : IntKind.u64.wrap (((2 * y : Nat) : Int) + 1) = ((2 * y + 1 : Nat) : Int) := by rw [IntKind.wrap_u64]; omega
        have K1 := Lib.hid (fun u : Nat => K.set_ j (.int .u64 (u : Int)))
        have HS := Lib.hid (fun u : Nat => arr_set f j u hj4)
        have HS2 := Lib.hid (fun u u' : Nat => arr_set (upd f j u) j u' hj4)
        have HU : Hid (∀ u u' : Nat, upd (upd f j u) j u' = upd f j u') := fun u u' => by
          funext t
          unfold upd
          split <;> rfl
        obtain ⟨z, hzz⟩ : ∃ z, z = 2 * y := ⟨_, rfl⟩
        rw [← hzz] at hw2 hw1 hstep
        have HST := Lib.hid hstep
        clear Hf HE1 HE2 hX HB hy hj hstep hzz h256
        generalize bit X k = β at *
        cases β
        · go_wp2_with fail
          go_roundw
          case rel =>
            have e := K1.out z
            rw [HS.out] at e
            have hu : z = wx X k j := by have h := HST.out; rw [h]; rfl
            have HF' := HF.out z hu
            have hv : Value.bool (ox X (k + 1)) = .bool (ox X k) := by rw [HO.out]
            have hW2 := Lib.hid (hWr.out.setCell (p := ⟨g + 1, j, none⟩) (Nat.le_succ g) (.int .u64 (z : Int)))
            have K2 := K0.far (p := ⟨g + 1, j, none⟩) (by show g ≠ g + 1; omega) (.int .u64 (z : Int))
            first | exact ⟨k, by omega, rfl, hv, hW2, K2, _, HF', e⟩ | ((repeat apply Exists.intro); exact ⟨⟨k, by omega, rfl, hv, hW2, K2, _, HF', e⟩, rfl⟩)
          case measure => simp [intOf] <;> omega
        · go_wp2_with fail
          go_roundw
          case rel =>
            have hu : z + 1 = wx X k j := by have h := HST.out; rw [h]; rfl
            have hv : Value.bool (ox X (k + 1)) = .bool (ox X k) := by rw [HO.out]
            have HF' := HF.out (z + 1) hu
            have hW1 := hWr.out.setCell (p := ⟨g + 1, j, none⟩) (Nat.le_succ g) (.int .u64 (z : Int))
            have hW2 := Lib.hid (hW1.setCell (p := ⟨g + 1, j, none⟩) (Nat.le_succ g) (.int .u64 ((z + 1 : Nat) : Int)))
            have K2 := (K0.far (p := ⟨g + 1, j, none⟩) (by show g ≠ g + 1; omega) (.int .u64 (z : Int))).far (p := ⟨g + 1, j, none⟩) (by show g ≠ g + 1; omega) (.int .u64 ((z + 1 : Nat) : Int))
            have e := (K1.out z).set_ j (.int .u64 ((z + 1 : Nat) : Int))
            rw [HS.out, HS2.out, HU.out] at e
            first | exact ⟨k, by omega, rfl, hv, hW2, K2, _, HF', e⟩ | ((repeat apply Exists.intro); exact ⟨⟨k, by omega, rfl, hv, hW2, K2, _, HF', e⟩, rfl⟩)
          case measure => simp [intOf] <;> omega
end Go.Proofs.Ytkkkfcdoilojmaa
