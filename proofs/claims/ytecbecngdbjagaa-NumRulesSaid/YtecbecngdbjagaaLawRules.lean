/-
  What is proved: for all numbers a, b the law NumRules returns true, and its arguments read behind the call as they read before it. No condition.
-/
import Derived.Test.YtecbecngdbjagaaCnt
import Derived.Test.YtecbecngdbjagaaOpen
import Derived.Test.YtecbecngdbjagaaNumN
import Derived.Deep.DeepCutAuto
import Derived.Deep.RegionLaw
namespace Go.Proofs.Ytecbecngdbjagaa.numRules
open Go.ChangeShapes Go.WideShapes Go.ChangeAt Go.RowKit
set_option linter.unusedVariables false
attribute [local go_sem ↓] Go.wp_at_zero Go.wp_at_succ

theorem own : ownKnob Try.prog.godebug = none := by kernel_rfl
theorem laidOut : laidOutB Try.prog = true := by kernel_rfl

theorem back_eq (a b : Nat) (ha : a < M256) (hb : b < M256) : ((a + b) % M256 + M256 - b) % M256 = a := by
  by_cases h : a + b < M256
  · rw [Nat.mod_eq_of_lt h, show a + b + M256 - b = a + M256 from by omega, Nat.add_mod_right, Nat.mod_eq_of_lt ha]
  · have e : (a + b) % M256 = a + b - M256 := by rw [Nat.mod_eq_sub_mod (by omega), Nat.mod_eq_of_lt (by omega)]
    rw [e, show a + b - M256 + M256 - b = a from by omega, Nat.mod_eq_of_lt ha]
theorem mul_step (b Q q t : Nat) : (b * Q % M256 + b * q % M256 * t % M256) % M256 = b * (Q + q * t) % M256 := by
  rw [← Nat.add_mod, Nat.mul_add, Nat.add_mod (b * Q) (b * (q * t)), ← Nat.mul_assoc, Nat.add_mod]
  congr 2
  rw [Nat.mod_mul_mod]
def part (q : Nat) : Nat → Nat
  | 0 => 0
  | i + 1 => part q i + wdi q i * 2 ^ (64 * i)
theorem part_succ (q i : Nat) : part q (i + 1) = part q i + wdi q i * 2 ^ (64 * i) := rfl
theorem cell_wdi {w : World} {g : Nat} {t : TypeId} {q : Nat} (Q : Bk w g t (A4 (wd0 q) (wd1 q) (wd2 q) (wd3 q))) : ∀ k, k < 4 → w.cell? ⟨g, k, none⟩ = some (.int .u64 (wdi q k : Int))
  | 0, _ => by rw [Q.cell, ← wdi_0]; rfl
  | 1, _ => by rw [Q.cell, ← wdi_1]; rfl
  | 2, _ => by rw [Q.cell, ← wdi_2]; rfl
  | 3, _ => by rw [Q.cell, ← wdi_3]; rfl
theorem wdi_lt (n i : Nat) : wdi n i < B64 := Nat.mod_lt _ B64_pos
theorem nums2' (w : World) (x y g : Nat) (hg : g = w.heap.size) : Nums (w.alloc (.cells #[.int .u64 (wd0 x : Int), .int .u64 (wd1 x : Int), .int .u64 (wd2 x : Int), .int .u64 (wd3 x : Int), .int .u64 (wd0 y : Int), .int .u64 (wd1 y : Int), .int .u64 (wd2 y : Int), .int .u64 (wd3 y : Int)] 24)) g 0 [x, y] := by subst hg; exact nums2 w x y
theorem Nums.alloc_ {w : World} {b off : Nat} {xs : List Nat} (h : Nums w b off xs) (hb : b < w.heap.size) (o : Obj) : Nums (w.alloc o) b off xs := fun k x hx => by
  obtain ⟨h0, h1, h2, h3⟩ := h k x hx
  exact ⟨(World.cell?_alloc_lt w o ⟨b, _, none⟩ hb).trans h0, (World.cell?_alloc_lt w o ⟨b, _, none⟩ hb).trans h1, (World.cell?_alloc_lt w o ⟨b, _, none⟩ hb).trans h2, (World.cell?_alloc_lt w o ⟨b, _, none⟩ hb).trans h3⟩
/-- The sum of two numbers, wherever they lie. -/
theorem add2g (x y : Nat) (W : World) (b : Nat) (hx : x < M256) (hy : y < M256) (hn : Nums W b 0 [x, y]) (hb : b < W.heap.size) :
    Calls Try.prog 9 #[.slice (some ⟨b, 0, none⟩) 2 2] W fun e w' => e = .returned (.tuple #[nv ((x + y) % M256), .bool (decide (M256 ≤ x + y))]) ∧ Below W.heap.size W w' := by
  have hs : [x, y].sum = x + y := by simp
  refine (add_any [x, y] b 0 2 _ (by simp) (by intro z hz; simp at hz; rcases hz with rfl | rfl <;> assumption) hn (.inr hb)).mono ?_
  rintro e w' ⟨rfl, h⟩
  exact ⟨by rw [hs], h⟩

theorem part_4 (q : Nat) (h : q < M256) : part q 4 = q := by
  have e := ofW_wd q h
  rw [wdi_0, wdi_1, wdi_2, wdi_3] at e
  simp only [part]
  unfold ofW at e
  have e1 : (2 : Nat) ^ (64 * 1) = B64 := by kernel_rfl
  have e2 : (2 : Nat) ^ (64 * 2) = B64 * B64 := by kernel_rfl
  have e3 : (2 : Nat) ^ (64 * 3) = B64 * (B64 * B64) := by kernel_rfl
  rw [e1, e2, e3]
  conv => rhs; rw [← e]
  generalize wdi q 0 = x
  generalize wdi q 1 = y
  generalize wdi q 2 = z
  generalize wdi q 3 = t
  simp only [Nat.mul_add, Nat.mul_comm, Nat.mul_left_comm]
  simp
  omega

set_option maxRecDepth 100000 in
set_option maxHeartbeats 3000000 in
theorem walk (a b : Nat) (w : World) (ha : a < M256) (hb : b < M256) :
    Calls Try.prog 7 #[nv a, nv b] w fun e w' => e = .returned (.bool true) ∧ Below w.heap.size w w' := by
  have HA1 := Lib.hid (fun W => add2 a b W ha hb)
  have HS := fun W => sub_any ((a + b) % M256) b W (Nat.mod_lt _ M256_pos) hb
  rw [back_eq a b ha hb] at HS
  have HS := Lib.hid HS
  have HN := Lib.hid (fun W => not_any a W ha)
  have hna : M256 - 1 - a < M256 := by have := M256_pos; omega
  have HA2 := fun W b hn hb => add2g a (M256 - 1 - a) W b ha hna hn hb
  rw [show a + (M256 - 1 - a) = M256 - 1 from by omega, Nat.mod_eq_of_lt (show M256 - 1 < M256 by have := M256_pos; omega), decide_eq_false (show ¬ M256 ≤ M256 - 1 by have := M256_pos; omega)] at HA2
  have HA2 := Lib.hid HA2
  have M0 : 0 < M256 := M256_pos
  have HN0 := fun W => not_any 0 W M256_pos
  rw [nv_zero, Nat.sub_zero] at HN0
  have HN0 := Lib.hid HN0
  have HNN := fun W => not_any (M256 - 1 - a) W hna
  rw [show M256 - 1 - (M256 - 1 - a) = a from by omega] at HNN
  have HNN := Lib.hid HNN
  have hm1 : M256 - 1 < M256 := by omega
  have heaa := nv_eql a a ha ha
  have hemm := nv_eql (M256 - 1) (M256 - 1) hm1 hm1
  simp only [decide_true] at heaa hemm
  have HEA := Lib.hid heaa
  have HEM := Lib.hid hemm
  clear heaa hemm
  have hs : (a + b) % M256 < M256 := Nat.mod_lt _ M256_pos
  generalize (a + b) % M256 = s at *
  generalize decide (M256 ≤ a + b) = o at *
  generalize decide (s < b) = o2 at *
  go_enter Try.func7, Try.ntmps7
  go_wp2_with fail
  refine (counts_any _).mono ?_
  rintro e w1 ⟨rfl, hb1⟩
  have A : Bk w1 w.heap.size 24 (A4 (wd0 a) (wd1 a) (wd2 a) (wd3 a)) := Bk.keep ((Bk.new _ _ _).alloc _) hb1
  have B : Bk w1 (w.heap.size + 1) 24 (A4 (wd0 b) (wd1 b) (wd2 b) (wd3 b)) := Bk.keep (Bk.new' _ _ _ (by simp)) hb1
  have hW : Below w.heap.size w w1 := below_step (((Below.refl _ _).alloc (Nat.le_refl _) _).alloc (by simp) _) (by simp; omega) hb1
  clear hb1
  obtain ⟨a0, a1, a2, a3, a4, a5, a6, a7, za⟩ := A.f4
  obtain ⟨b0, b1, b2, b3, b4, b5, b6, b7, zb⟩ := B.f4
  go_wp2_with fail
  refine (HA1.out _).mono ?_
  rintro e w2 ⟨rfl, hb2⟩
  have A := A.keep hb2
  have B := B.keep hb2
  have hW := below_step hW (by omega) hb2
  clear hb2 a0 a1 a2 a3 a4 a5 a6 a7 za b0 b1 b2 b3 b4 b5 b6 b7 zb HA1
  obtain ⟨b0, b1, b2, b3, b4, b5, b6, b7, zb⟩ := B.f4
  obtain ⟨a0, a1, a2, a3, a4, a5, a6, a7, za⟩ := A.f4
  go_wp2_with fail
  refine (HS.out _).mono ?_
  rintro e w3 ⟨rfl, hb3⟩
  have z3 := hb3.size
  have A := (A.alloc (.cells (A4 (wd0 s) (wd1 s) (wd2 s) (wd3 s)) 24)).keep hb3
  have B := (B.alloc (.cells (A4 (wd0 s) (wd1 s) (wd2 s) (wd3 s)) 24)).keep hb3
  have hW := below_step (hW.alloc (by omega) (.cells (A4 (wd0 s) (wd1 s) (wd2 s) (wd3 s)) 24)) (by simp; omega) hb3
  clear hb3 a0 a1 a2 a3 a4 a5 a6 a7 za b0 b1 b2 b3 b4 b5 b6 b7 zb HS z3
  have zA := A.lt
  go_wp2_with fail
  refine wp_abs (fun W => Below w.heap.size w W ∧ Bk W w.heap.size 24 (A4 (wd0 a) (wd1 a) (wd2 a) (wd3 a)) ∧ Bk W (w.heap.size + 1) 24 (A4 (wd0 b) (wd1 b) (wd2 b) (wd3 b)) ∧ Bk W w3.heap.size 24 (A4 (wd0 a) (wd1 a) (wd2 a) (wd3 a)))
    ⟨hW.alloc (by omega) _, A.alloc _, B.alloc _, Bk.new _ _ _⟩ ?_
  clear hW A B zA
  generalize w3.heap.size = T at *
  rintro W ⟨hW, A, B, K⟩
  obtain ⟨a0, a1, a2, a3, a4, a5, a6, a7, za⟩ := A.f4
  generalize M256 - 1 - a = na at *
  generalize M256 - 1 = m1 at *
  go_upto_region 5 with fail
  go_cut [9, 10] (fun s9 s10 wx => ∃ g : Nat, s9 = .pointer (some ⟨g, 0, none⟩) ∧ s10 = .bool false ∧ Below W.heap.size W wx ∧ W.heap.size ≤ g ∧ Bk wx g 24 (A4 (wd0 m1) (wd1 m1) (wd2 m1) (wd3 m1)))
  case first =>
    go_region_held3 (fun w' => w'.cell? ⟨w.heap.size, 0, none⟩ = some (.int .u64 (wd0 a : Int)) ∧ w'.cell? ⟨w.heap.size, 1, none⟩ = some (.int .u64 (wd1 a : Int)) ∧ w'.cell? ⟨w.heap.size, 2, none⟩ = some (.int .u64 (wd2 a : Int)) ∧ w'.cell? ⟨w.heap.size, 3, none⟩ = some (.int .u64 (wd3 a : Int)))
      (first | with_reducible exact ⟨cell4_far k60 (Nat.ne_of_lt za) _ _ _ _, cell4_far k61 (Nat.ne_of_lt za) _ _ _ _, cell4_far k62 (Nat.ne_of_lt za) _ _ _ _, cell4_far k63 (Nat.ne_of_lt za) _ _ _ _⟩ | with_reducible exact ⟨cell4_far k60 (Nat.ne_of_lt y5) _ _ _ _, cell4_far k61 (Nat.ne_of_lt y5) _ _ _ _, cell4_far k62 (Nat.ne_of_lt y5) _ _ _ _, cell4_far k63 (Nat.ne_of_lt y5) _ _ _ _⟩ | with_reducible exact ⟨cell4_far k60 (Nat.ne_of_lt y51) _ _ _ _, cell4_far k61 (Nat.ne_of_lt y51) _ _ _ _, cell4_far k62 (Nat.ne_of_lt y51) _ _ _ _, cell4_far k63 (Nat.ne_of_lt y51) _ _ _ _⟩ | go_keep)
      (first
        | (go_at_call 30; refine (HN.out _).mono ?_; rintro e w5 ⟨rfl, hb5⟩; have hE5 : Below W.heap.size W w5 := below_step (by repeat (first | with_reducible exact Below.refl _ _ | with_reducible assumption | refine Below.drew ?_ | refine Below.alloc ?_ (by first | omega | (simp; done) | (simp; omega)) _)) (by first | (simp; done) | (simp; omega)) hb5; have z5 := hE5.size; have y5 : w.heap.size < w5.heap.size := Nat.lt_of_lt_of_le za z5; have y51 : w.heap.size < w5.heap.size + 1 := Nat.lt_succ_of_lt y5; have k50 := cellS hE5 a0; have k51 := cellS hE5 a1; have k52 := cellS hE5 a2; have k53 := cellS hE5 a3; try (have N5 : Bk w5 W.heap.size 24 #[.int .u64 0, .int .u64 0, .int .u64 0, .int .u64 0] := (by first | exact Bk.keep (Bk.new _ _ _) hb5 | exact Bk.keep (Bk.drew (Bk.new _ _ _)) hb5); have tok5 : True := trivial))
        | (go_at_call 9; refine (HA2.out _ _ (by first | exact nums2 _ _ _ | exact nums2' _ _ _ _ (by simp) | exact Nums.alloc_ (nums2 _ _ _) (by simp) _) (by first | (simp; done) | (simp; omega))).mono ?_; rintro e w6 ⟨rfl, hb6⟩; have hE6 : Below W.heap.size W w6 := below_step (by repeat (first | with_reducible exact Below.refl _ _ | with_reducible assumption | refine Below.drew ?_ | refine Below.alloc ?_ (by first | omega | (simp; done) | (simp; omega)) _)) (by first | omega | (simp; done) | (simp; omega)) hb6; have z6 := hE6.size; have k60 := cellS hE6 a0; have k61 := cellS hE6 a1; have k62 := cellS hE6 a2; have k63 := cellS hE6 a3; (first | (have N6 : Bk w6 W.heap.size 24 #[.int .u64 0, .int .u64 0, .int .u64 0, .int .u64 0] := (N5.alloc _).keep hb6; obtain ⟨n0, n1, n2, n3, n4, n5, n6, n7, n8⟩ := N6.f4) | (have N6 : Bk w6 w5.heap.size 24 #[.int .u64 0, .int .u64 0, .int .u64 0, .int .u64 0] := ((Bk.new _ _ _).alloc _).keep hb6; obtain ⟨n0, n1, n2, n3, n4, n5, n6, n7, n8⟩ := N6.f4) | (have N6 : Bk w6 (w5.heap.size + 1) 24 #[.int .u64 0, .int .u64 0, .int .u64 0, .int .u64 0] := (Bk.new' _ _ _ (by simp)).keep hb6; obtain ⟨n0, n1, n2, n3, n4, n5, n6, n7, n8⟩ := N6.f4) | skip)))
    · go_wp2_with fail
      go_meet
      exact ⟨w6.heap.size, rfl, rfl, Below.alloc hE6 (by omega) _, z6, Bk.new _ _ _⟩
    · go_wp2_with fail
      go_meet
      exact ⟨w5.heap.size + 1, rfl, rfl, Below.set4 hE6 (by omega) _ _ _ _, by omega, N6.set4 _ _ _ _⟩
    · go_wp2_with fail
      go_meet
      exact ⟨w5.heap.size, rfl, rfl, Below.set4 hE6 z5 _ _ _ _, z5, N6.set4 _ _ _ _⟩
    · go_wp2_with fail
      go_meet
      exact ⟨W.heap.size, rfl, rfl, Below.set4 hE6 (Nat.le_refl _) _ _ _ _, Nat.le_refl _, N6.set4 _ _ _ _⟩
  case rest =>
    obtain ⟨g, rfl, rfl, hbc, hg, N⟩ := hcut
    have hW := below_step hW (by omega) hbc
    have A := A.keep hbc
    have B := B.keep hbc
    have K := K.keep hbc
    clear hbc a0 a1 a2 a3 a4 a5 a6 a7 za hg HA2
    obtain ⟨a0, a1, a2, a3, a4, a5, a6, a7, za⟩ := A.f4
    obtain ⟨k0, k1, k2, k3, k4, k5, k6, k7, zk⟩ := K.f4
    obtain ⟨n0, n1, n2, n3, n4, n5, n6, n7, zn⟩ := N.f4
    have r0 := cell_regrown a0
    have r1 := cell_regrown a1
    have r2 := cell_regrown a2
    have r3 := cell_regrown a3
    have r4 := cell_regrown k0
    have r5 := cell_regrown k1
    have r6 := cell_regrown k2
    have r7 := cell_regrown k3
    have r8 := cell_regrown n0
    have r9 := cell_regrown n1
    have r10 := cell_regrown n2
    have r11 := cell_regrown n3
    have heaa := HEA.out
    have hemm := HEM.out
    go_wp2_with fail
    refine wp_region_quiet_below (by kernel_rfl) (by kernel_rfl) ?_
    quiet_step (fail)
    quiet_step (fail)
    quiet_step (fail)
    quiet_step (fail)
    quiet_step (fail)
    quiet_step (fail)
    quiet_step (fail)
    quiet_step (fail)
    quiet_step (fail)
    quiet_step (exact Calls.regrown_of (HN0.out _))
    quiet_step (fail)
    quiet_step (fail)
    quiet_step (fail)
    quiet_step (fail)
    quiet_step (exact Calls.regrown_of (HN.out _))
    quiet_step (exact Calls.regrown_of (HNN.out _))
    quiet_step (fail)
    quiet_step (fail)
    quiet_step (fail)
    refine wpQuiet_nil ?_
    intro _ hw'
    obtain ⟨⟨dq, osq⟩, hw''⟩ := hw'
    subst hw''
    have hG := below_regrown wc dq osq
    have hW := below_step hW (by omega) hG
    have A := A.keep hG
    have B := B.keep hG
    clear K N a0 a1 a2 a3 a4 a5 a6 a7 za k0 k1 k2 k3 k4 k5 k6 k7 zk n0 n1 n2 n3 n4 n5 n6 n7 zn r0 r1 r2 r3 r4 r5 r6 r7 r8 r9 r10 r11 hG HN HN0 HNN hemm HEM
    show Exit.then _ _ Exit.normal _ (Go.Sort.grow (redrawn wc dq) osq)
    generalize Go.Sort.grow (redrawn wc dq) osq = W2 at *
    obtain ⟨a0, a1, a2, a3, a4, a5, a6, a7, za⟩ := A.f4
    obtain ⟨b0, b1, b2, b3, b4, b5, b6, b7, zb⟩ := B.f4
    have HZ := zero_any b
    by_cases hb0 : b = 0
    · rw [decide_eq_true hb0] at HZ
      have HZ := Lib.hid HZ
      have HB0 := Lib.hid hb0
      clear hb0
      go_wp2_with fail
      refine (HZ.out _ hb).mono ?_
      rintro e w8 ⟨rfl, hb8⟩
      have hW := below_step hW (by omega) hb8
      clear hb8
      go_wp2_with fail
      go_ret
      exact ⟨rfl, hW⟩
    · rw [decide_eq_false hb0] at HZ
      have HZ := Lib.hid HZ
      have HD := Lib.hid (fun W => div_any a b W ha hb (Nat.pos_of_ne_zero hb0))
      have hr : a % b < b := Nat.mod_lt _ (Nat.pos_of_ne_zero hb0)
      have hql : a / b ≤ a := Nat.div_le_self _ _
      have hqM : a / b < M256 := by omega
      have hrM : a % b < M256 := by omega
      have hc1 : cmpI (a % b) b = -1 := by unfold cmpI; rw [if_pos hr]
      have hc2 : cmpI (a / b) a ≤ 0 := by unfold cmpI; split <;> (try split) <;> omega
      have HC1 := fun W => cmp_any (a % b) b W hrM hb
      have HC2 := fun W => cmp_any (a / b) a W hqM ha
      rw [hc1] at HC1
      have HC1 := Lib.hid HC1
      have hdm := Lib.hid (Nat.div_add_mod a b)
      generalize hq : a / b = q at *
      generalize hrr : a % b = r at *
      generalize cmpI q a = c2 at *
      have HC2 := Lib.hid HC2
      have HQ := Lib.hid hq
      have HR := Lib.hid hrr
      have HB0 := Lib.hid hb0
      clear hq hrr hb0 hc1 hql hr
      go_wp2_with fail
      refine (HZ.out _ hb).mono ?_
      rintro e w8 ⟨rfl, hb8⟩
      have hW := below_step hW (by omega) hb8
      have A := A.keep hb8
      have B := B.keep hb8
      clear hb8 a0 a1 a2 a3 a4 a5 a6 a7 za b0 b1 b2 b3 b4 b5 b6 b7 zb HZ
      obtain ⟨b0, b1, b2, b3, b4, b5, b6, b7, zb⟩ := B.f4
      obtain ⟨a0, a1, a2, a3, a4, a5, a6, a7, za⟩ := A.f4
      go_wp2_with fail
      refine (HD.out _).mono ?_
      rintro e w9 ⟨rfl, hb9⟩
      have hW := below_step hW (by omega) hb9
      have A := A.keep hb9
      have B := B.keep hb9
      clear hb9 a0 a1 a2 a3 a4 a5 a6 a7 za b0 b1 b2 b3 b4 b5 b6 b7 zb HD
      have hW : Below w.heap.size w ((w9.alloc (.cells (A4 (wd0 q) (wd1 q) (wd2 q) (wd3 q)) 24)).alloc (.cells (A4 (wd0 r) (wd1 r) (wd2 r) (wd3 r)) 24)) := (hW.alloc (by have := A.lt; omega) _).alloc (by have := A.lt; simp; omega) _
      have Q : Bk ((w9.alloc (.cells (A4 (wd0 q) (wd1 q) (wd2 q) (wd3 q)) 24)).alloc (.cells (A4 (wd0 r) (wd1 r) (wd2 r) (wd3 r)) 24)) w9.heap.size 24 (A4 (wd0 q) (wd1 q) (wd2 q) (wd3 q)) := (Bk.new _ _ _).alloc _
      have R : Bk ((w9.alloc (.cells (A4 (wd0 q) (wd1 q) (wd2 q) (wd3 q)) 24)).alloc (.cells (A4 (wd0 r) (wd1 r) (wd2 r) (wd3 r)) 24)) (w9.heap.size + 1) 24 (A4 (wd0 r) (wd1 r) (wd2 r) (wd3 r)) := Bk.new' _ _ _ (by simp)
      obtain ⟨b0, b1, b2, b3, b4, b5, b6, b7, zb⟩ := B.f4
      have zb1 : w.heap.size + 1 < w9.heap.size + 1 := by omega
      have zb2 : w.heap.size + 1 < w9.heap.size + 1 + 1 := by omega
      have A := (A.alloc (.cells (A4 (wd0 q) (wd1 q) (wd2 q) (wd3 q)) 24)).alloc (.cells (A4 (wd0 r) (wd1 r) (wd2 r) (wd3 r)) 24)
      have B := (B.alloc (.cells (A4 (wd0 q) (wd1 q) (wd2 q) (wd3 q)) 24)).alloc (.cells (A4 (wd0 r) (wd1 r) (wd2 r) (wd3 r)) 24)
      go_wp2_with fail
      refine (HC1.out _).mono ?_
      rintro e w10 ⟨rfl, hb10⟩
      have zx := hb10.size
      simp only [World.size_alloc] at zx
      have hW := below_step hW (by simp; omega) hb10
      have A := A.keep hb10
      have B := B.keep hb10
      have Q := Q.keep hb10
      have R := R.keep hb10
      clear hb10 b0 b1 b2 b3 b4 b5 b6 b7 HC1
      obtain ⟨a0, a1, a2, a3, a4, a5, a6, a7, za⟩ := A.f4
      obtain ⟨q0, q1, q2, q3, q4, q5, q6, q7, zq⟩ := Q.f4
      go_wp2_with fail
      refine (HC2.out _).mono ?_
      rintro e w11 ⟨rfl, hb11⟩
      have hW := below_step hW (by omega) hb11
      have A := A.keep hb11
      have B := B.keep hb11
      have Q := Q.keep hb11
      have R := R.keep hb11
      have zA := A.lt
      clear hb11 zx zb a0 a1 a2 a3 a4 a5 a6 a7 za q0 q1 q2 q3 q4 q5 q6 q7 zq HC2
      go_wp2_with fail
      have zG : w9.heap.size + 1 < w11.heap.size := R.lt
      go_loopw [80] (fun i wr => ∃ (k p : Nat), k ≤ 4 ∧ i = .int .i64 k ∧ Hid (p = b * part q k % M256) ∧ Below w.heap.size w wr ∧ Bk wr w.heap.size 24 (A4 (wd0 a) (wd1 a) (wd2 a) (wd3 a)) ∧ Bk wr (w.heap.size + 1) 24 (A4 (wd0 b) (wd1 b) (wd2 b) (wd3 b)) ∧
        Bk wr w9.heap.size 24 (A4 (wd0 q) (wd1 q) (wd2 q) (wd3 q)) ∧ Bk wr (w9.heap.size + 1) 24 (A4 (wd0 r) (wd1 r) (wd2 r) (wd3 r)) ∧ Bk wr w11.heap.size 24 (A4 (wd0 p) (wd1 p) (wd2 p) (wd3 p))) (fun i _ => 4 - (intOf i).toNat)
      case atStart =>
        refine ⟨0, 0, by omega, rfl, by show _ = _; simp [part], hW.alloc (by omega) _, A.alloc _, B.alloc _, Q.alloc _, R.alloc _, Bk.new _ _ _⟩
      case round =>
        obtain ⟨k, p, hk, rfl, HP, hbe, A, B, Q, R, S⟩ := hrel
        obtain ⟨b0, b1, b2, b3, b4, b5, b6, b7, zb⟩ := B.f4
        rcases Nat.lt_or_ge k 4 with hk4 | hk4
        · have hx : b * wdi q k % M256 < M256 := Nat.mod_lt _ M256_pos
          have HM := Lib.hid (fun W => mul_any b (wdi q k) W hb (wdi_lt q k))
          have HS := fun W => shl_any (b * wdi q k % M256) (64 * k) W hx (by omega)
          rw [show ((64 * k : Nat) : Int) = 64 * (k : Int) by omega] at HS
          have HS := Lib.hid HS
          have hpM : p < M256 := by rw [HP.out]; exact Nat.mod_lt _ M256_pos
          have hyM : b * wdi q k % M256 * 2 ^ (64 * k) % M256 < M256 := Nat.mod_lt _ M256_pos
          have HA := Lib.hid (fun W j hn hj => add2g p (b * wdi q k % M256 * 2 ^ (64 * k) % M256) W j hpM hyM hn hj)
          have HE := Lib.hid (show (p + b * wdi q k % M256 * 2 ^ (64 * k) % M256) % M256 = b * part q (k + 1) % M256 by rw [HP.out, mul_step, part_succ])
          generalize b * wdi q k % M256 * 2 ^ (64 * k) % M256 = y at HS HA HE hyM
          generalize b * wdi q k % M256 = x at HM HS hx
          have hq := cell_wdi Q k hk4
          have ht := wdi_lt q k
          generalize wdi q k = t at HM hq ht
          have k0 : (0 : Int) ≤ (k : Int) := by omega
          have k1 : (k : Int) < 4 := by omega
          generalize decide (M256 ≤ b * t) = o3 at HM
          have zQ := Q.lt
          go_upto_region 17 with fail
          go_cut [16, 17] (fun s16 s17 wx => ∃ gx : Nat, s16 = .pointer (some ⟨gx, 0, none⟩) ∧ s17 = .bool o3 ∧ Below wr.heap.size wr wx ∧ wr.heap.size ≤ gx ∧ Bk wx gx 24 (A4 (wd0 x) (wd1 x) (wd2 x) (wd3 x)))
          case first =>
            go_region_held3 (fun w' => w'.cell? ⟨w.heap.size + 1, 0, none⟩ = some (.int .u64 (wd0 b : Int)) ∧ w'.cell? ⟨w.heap.size + 1, 1, none⟩ = some (.int .u64 (wd1 b : Int)) ∧ w'.cell? ⟨w.heap.size + 1, 2, none⟩ = some (.int .u64 (wd2 b : Int)) ∧ w'.cell? ⟨w.heap.size + 1, 3, none⟩ = some (.int .u64 (wd3 b : Int)) ∧ w'.cell? ⟨w9.heap.size, k, none⟩ = some (.int .u64 (t : Int)))
              (first | with_reducible exact ⟨cell4_far k60 (Nat.ne_of_lt zb) _ _ _ _, cell4_far k61 (Nat.ne_of_lt zb) _ _ _ _, cell4_far k62 (Nat.ne_of_lt zb) _ _ _ _, cell4_far k63 (Nat.ne_of_lt zb) _ _ _ _, cell4_far k64 (Nat.ne_of_lt zQ) _ _ _ _⟩ | with_reducible exact ⟨cell4_far k60 (Nat.ne_of_lt y61) _ _ _ _, cell4_far k61 (Nat.ne_of_lt y61) _ _ _ _, cell4_far k62 (Nat.ne_of_lt y61) _ _ _ _, cell4_far k63 (Nat.ne_of_lt y61) _ _ _ _, cell4_far k64 (Nat.ne_of_lt y62) _ _ _ _⟩ | go_keep)
              (first
                | (go_at_call 19; refine (HM.out _).mono ?_; rintro e w12 ⟨rfl, hb12⟩; have hE12 : Below wr.heap.size wr w12 := below_step (by repeat (first | with_reducible exact Below.refl _ _ | with_reducible assumption | refine Below.drew ?_ | refine Below.alloc ?_ (by first | omega | (simp; done) | (simp; omega)) _)) (by first | omega | (simp; done) | (simp; omega)) hb12; have z12 := hE12.size; have k60 := cellS hE12 b0; have k61 := cellS hE12 b1; have k62 := cellS hE12 b2; have k63 := cellS hE12 b3; have k64 := cellS hE12 hq; have y61 : w.heap.size + 1 < w12.heap.size := Nat.lt_of_lt_of_le zb z12; have y62 : w9.heap.size < w12.heap.size := Nat.lt_of_lt_of_le zQ z12; (first | (have N12 : Bk w12 wr.heap.size 24 #[.int .u64 0, .int .u64 0, .int .u64 0, .int .u64 0] := (by first | exact Bk.keep (Bk.new _ _ _) hb12 | exact Bk.keep (Bk.drew (Bk.new _ _ _)) hb12); obtain ⟨n0, n1, n2, n3, n4, n5, n6, n7, n8⟩ := N12.f4) | skip)))
            · go_wp2_with fail
              go_meet
              exact ⟨w12.heap.size, rfl, rfl, Below.alloc hE12 (by omega) _, z12, Bk.new _ _ _⟩
            · go_wp2_with fail
              go_meet
              exact ⟨wr.heap.size, rfl, rfl, Below.set4 hE12 (Nat.le_refl _) _ _ _ _, Nat.le_refl _, N12.set4 _ _ _ _⟩
          case rest =>
            obtain ⟨gx, rfl, rfl, hbc, hgx, X⟩ := hcut
            have zS := S.lt
            have hbe := below_step hbe (by omega) hbc
            have A := A.keep hbc
            have B := B.keep hbc
            have Q := Q.keep hbc
            have R := R.keep hbc
            have S := S.keep hbc
            clear hbc b0 b1 b2 b3 b4 b5 b6 b7 zb hq HM
            obtain ⟨x0, x1, x2, x3, x4, x5, x6, x7, zx⟩ := X.f4
            obtain ⟨s0, s1, s2, s3, s4, s5, s6, s7, zs⟩ := S.f4
            have n71 : gx ≠ w11.heap.size := by omega
            have n72 : w.heap.size ≠ w11.heap.size := by omega
            have n73 : w.heap.size + 1 ≠ w11.heap.size := by omega
            have n74 : w9.heap.size ≠ w11.heap.size := by omega
            have n75 : w9.heap.size + 1 ≠ w11.heap.size := by omega
            have n76 : w.heap.size ≤ w11.heap.size := by omega
            have n77 : w.heap.size ≤ wc.heap.size := by omega
            have hwk : IntKind.i64.wrap ((k : Int) + 1) = (k : Int) + 1 := by rw [IntKind.wrap_i64]; omega
            have hwm : IntKind.i64.wrap (64 * (k : Int)) = 64 * (k : Int) := by rw [IntKind.wrap_i64]; omega
            clear HC1 HC2 HQ HR HB0 hdm HEA HN0 HNN
            go_upto_region 18 with fail
            go_region_law (first
                | (go_simp; go_at_call 24; refine (HS.out _).mono ?_; rintro e w13 ⟨rfl, hb13⟩; have hE13 : Below wc.heap.size wc w13 := below_step ((Below.refl _ _).drew) (Nat.le_refl _) hb13; have z13 := hE13.size; have k130 := cellS hE13 x0; have k131 := cellS hE13 x1; have k132 := cellS hE13 x2; have k133 := cellS hE13 x3; have y13 : gx < w13.heap.size := Nat.lt_of_lt_of_le zx z13; obtain ⟨p0, p1, p2, p3, p4, p5, p6, p7, zp⟩ := (S.keep hE13).f4)
                | (go_simp; go_at_call 9; refine (HA.out _ _ (by first | exact nums2 _ _ _ | exact nums2' _ _ _ _ (by simp) | exact Nums.alloc_ (nums2 _ _ _) (by simp) _) (by first | (simp; done) | (simp; omega))).mono ?_; rintro e w14 ⟨rfl, hb14⟩; have hE14 : Below wc.heap.size wc w14 := below_step (hE13.alloc z13 _) (Nat.le_trans z13 (by simp)) hb14; have z14 := hE14.size; have S14 := S.keep hE14; obtain ⟨t0, t1, t2, t3, t4, t5, t6, t7, zt⟩ := S14.f4))
            all_goals
              go_wp2_with fail
              exact ⟨⟨k + 1, (p + y) % M256, hk4, by first | rfl | simp, HE.out, Below.set4 (below_step hbe n77 hE14) n76 _ _ _ _, (A.keep hE14).far4 n72 _ _ _ _, (B.keep hE14).far4 n73 _ _ _ _, (Q.keep hE14).far4 n74 _ _ _ _, (R.keep hE14).far4 n75 _ _ _ _, S14.set4 _ _ _ _⟩, by simp [intOf]; omega⟩
        · obtain rfl : k = 4 := by omega
          have hp : p = b * q % M256 := by rw [HP.out, part_4 q hqM]
          obtain ⟨s0, s1, s2, s3, s4, s5, s6, s7, zs⟩ := S.f4
          obtain ⟨r0, r1, r2, r3, r4, r5, r6, r7, zr⟩ := R.f4
          have hpM : p < M256 := by rw [hp]; exact Nat.mod_lt _ M256_pos
          have HA := fun W j hn hj => add2g p r W j hpM hrM hn hj
          have hpa : (p + r) % M256 = a := by
            rw [hp, Nat.mod_add_mod, hdm.out, Nat.mod_eq_of_lt ha]
          rw [hpa] at HA
          have HA := Lib.hid HA
          have HPP := Lib.hid hp
          clear HC1 HC2 HQ HR HB0 HN0 HNN hp hpa
          have n72 : w.heap.size ≠ w11.heap.size := by omega
          have zS := S.lt
          go_wp2_with fail
          refine (HA.out _ _ (nums2 _ _ _) (by simp)).mono ?_
          rintro e w14 ⟨rfl, hb14⟩
          have hbe := below_step (hbe.alloc (by omega) _) (by simp; omega) hb14
          have A := (A.alloc _).keep hb14
          have S := (S.alloc _).keep hb14
          clear hb14 s0 s1 s2 s3 s4 s5 s6 s7 zs r0 r1 r2 r3 r4 r5 r6 r7 zr HA
          obtain ⟨s0, s1, s2, s3, s4, s5, s6, s7, zs⟩ := S.f4
          obtain ⟨a0, a1, a2, a3, a4, a5, a6, a7, za⟩ := A.f4
          have heaa := HEA.out
          go_wp2_with fail
          go_ret
          exact ⟨rfl, Below.set4 hbe (by omega) _ _ _ _⟩

set_option maxRecDepth 100000 in
theorem lifted (os : Os) (started : os.Started) (H : Type) (enc : TypeId × Value → H) :
    ReturnsInHanded {} Try.checked os 7 .any (Rows.numRulesSpec.pre6 enc Try.prog Try.f7 Rows.numRulesRow.domain false) (Rows.numRulesSpec.post enc Try.prog Try.f7 false true false false) := by
  refine returnsInHanded_of_change (C := Try.checked) own started (by kernel_rfl) Try.func7
    (ChangeSpec.witness6 (enc := enc) (C := Try.checked) false ⟨#[], #[I4 0 0 0 0, I4 0 0 0 0], []⟩ 8 (by kernel_rfl) (by kernel_rfl) (by kernel_rfl) (by kernel_rfl)) ?_
  intro W base args ds gs before hval0 hW hcnd _
  have hval : ∀ (j : Nat) t v, Try.f7.params[j]? = some t → args[j]? = some v → Value.okWide Try.prog W .any base t v := hval0
  have hW' := hW
  obtain ⟨p, q, hA0, hV, rfl, hfz, hnd⟩ := hW
  have hA : DataW.TrodAll enc Try.prog W 0 (fun _ => true) true Try.f7.params.toList args.toList ds p := hA0
  rw [Try.params7] at hA hval
  obtain ⟨v0, vs0, d0, ds0, p0, q0, hargs, rfl, rfl, h0, r0⟩ := trodAll_cons hA
  obtain ⟨v1, vs1, d1, ds1, p1, q1, rfl, rfl, rfl, h1, r1⟩ := trodAll_cons r0
  obtain ⟨rfl, rfl, rfl⟩ := trodAll_nil r1
  obtain rfl : args = #[v0, v1] := by cases args; simp_all
  obtain ⟨rfl, rfl⟩ := trodVars_none hV
  have lt0 : ∀ x ∈ p0, x.block < W.heap.size := by obtain ⟨m, hm⟩ := h0; exact DataW.trod_lt m _ _ _ hm
  have lt1 : ∀ x ∈ p1, x.block < W.heap.size := by obtain ⟨m, hm⟩ := h1; exact DataW.trod_lt m _ _ _ hm
  obtain ⟨zs0, hl0, rfl, hz0⟩ := open_ints_arr (n := 4) (k := .u64) Try.underlying24 Try.underlying22 (by kernel_rfl) (by kernel_rfl) (hval 0 24 v0 rfl rfl) h0
  obtain ⟨a0, ha0, ea0⟩ := num_of_words hl0 hz0
  obtain ⟨zs1, hl1, rfl, hz1⟩ := open_ints_arr (n := 4) (k := .u64) Try.underlying24 Try.underlying22 (by kernel_rfl) (by kernel_rfl) (hval 1 24 v1 rfl rfl) h1
  obtain ⟨a1, ha1, ea1⟩ := num_of_words hl1 hz1
  clear hA0 hval0
  have hwalk := walk a0 a1 W ha0 ha1
  rw [← ea0, ← ea1] at hwalk
  refine hwalk.mono fun e W' ⟨he, bel⟩ => ?_
  subst he
  exact ⟨_, rfl, _, _, _, [], _, [], hW', trodAll_mk1 (shut_bool Try.underlying4 _), (trodAll_cons_mk (Below.trod laidOut (by kernel_rfl) (of_decide_eq_true (by kernel_rfl)) h0 bel lt0) (trodAll_cons_mk (Below.trod laidOut (by kernel_rfl) (of_decide_eq_true (by kernel_rfl)) h1 bel lt1) trodAll_mk0)), rfl, bel.frame _, fun h => by cases h⟩

theorem over : Rows.numRulesRow.holds Try.pinned (OpenSpec.ofChange Rows.numRulesSpec) :=
  OpenClaim.holds_of_wide 7 Try.f7 rfl rfl rfl rfl rfl rfl rfl ⟨rfl, rfl, rfl, rfl, rfl⟩ rfl rfl rfl rfl rfl (by kernel_rfl) Try.func7 (by kernel_rfl)
    (of_decide_eq_true (by kernel_rfl)) (by unfold Func.isWrapper; first | (rw [if_pos (by decide +kernel)]; kernel_rfl) | (rw [if_neg (by decide +kernel)]; exact ⟨rfl, rfl⟩))
    (fun os started H enc _ => lifted os started H enc)

theorem proved : Rows.NumRulesSaid := over
#print axioms proved
end Go.Proofs.Ytecbecngdbjagaa.numRules
