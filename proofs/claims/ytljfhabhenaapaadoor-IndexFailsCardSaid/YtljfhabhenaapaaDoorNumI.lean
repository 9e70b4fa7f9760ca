/-
  The contract of package num's Div.
-/
import Derived.Test.YtljfhabhenaapaaDoorNumG
import Derived.Test.YtljfhabhenaapaaDoorDivM
import Derived.Lib.QuietBelow
import Derived.BigQuiet
import Derived.Deep.RegionHeld3
import Derived.Deep.DrawnRows
import Derived.Deep.DeepCutAuto
namespace Go.Proofs.YtljfhabhenaapaaDoor
open Go.RowKit
set_option maxRecDepth 100000
set_option linter.unusedVariables false
attribute [local go_sem ↓] Go.wp_at_zero Go.wp_at_succ

/-- A cell that is there stays. -/
theorem cellS {w w' : World} (h : Below w.heap.size w w') {p : Addr} {v : Value} (hc : w.cell? p = some v) : w'.cell? p = some v := (h.cell (block_lt_of_cell hc)).trans hc

theorem cell4_far {w : World} {p : Addr} {v : Value} {g : Nat} (h : w.cell? p = some v) (hg : p.block ≠ g) (x0 x1 x2 x3 : Value) :
    ((((w.setCell ⟨g, 0, none⟩ x0).setCell ⟨g, 1, none⟩ x1).setCell ⟨g, 2, none⟩ x2).setCell ⟨g, 3, none⟩ x3).cell? p = some v := by
  have hn : ∀ i, (⟨g, i, none⟩ : Addr) ≠ p := fun i e => hg (by rw [← e])
  rw [World.cell?_setCell_other _ _ _ _ (hn 3), World.cell?_setCell_other _ _ _ _ (hn 2), World.cell?_setCell_other _ _ _ _ (hn 1), World.cell?_setCell_other _ _ _ _ (hn 0), h]

/-- Whatever world it is, of which so much is known. -/
theorem wp_abs {P : Program} {c : Code} {Q : Exit → Act → World → Prop} {a : Act} {w : World} (S : World → Prop) (hS : S w) (h : ∀ W, S W → c.wp P Q a W) : c.wp P Q a w := h w hS

theorem bit_int (q k : Nat) (hk : k < 256) (hq : q % 2 ^ (k + 1) = 0) :
    bits BinOp.or IntKind.u64 ((wdi q (k / 64) : Nat) : Int) (IntKind.u64.wrap (2 ^ (k % 64))) = ((wdi (q + 2 ^ k) (k / 64) : Nat) : Int) := by
  obtain ⟨h1, h2⟩ := bit_word q k hk hq
  have e : IntKind.u64.wrap ((2 : Int) ^ (k % 64)) = ((2 ^ (k % 64) : Nat) : Int) := by
    rw [IntKind.wrap_u64]
    have : ((2 : Int) ^ (k % 64)) = ((2 ^ (k % 64) : Nat) : Int) := by rw [Int.natCast_pow]; rfl
    rw [this]
    generalize (2 : Nat) ^ (k % 64) = t at h2
    unfold B64 at h2
    omega
  rw [e, or64 (wdi q (k / 64)) _ (by unfold wdi; exact Nat.mod_lt _ B64_pos) h2, h1]

set_option maxRecDepth 100000 in
set_option maxHeartbeats 2000000 in
theorem div_zero (a : Nat) (w : World) : Calls Tryd.prog 67 #[nv a, nv 0] w fun e w' => e = .returned (.tuple #[nv 0, nv 0, .int .i64 1]) ∧ Below w.heap.size w w' := by
  rw [nv_zero]
  have HZ : ∀ W : World, Calls Tryd.prog 58 #[I4 0 0 0 0] W fun e w' => e = .returned (.bool true) ∧ Below W.heap.size W w' := fun W => by
    have := zero_any 0 W M256_pos
    rw [nv_zero] at this
    exact this
  have HZ := Lib.hid HZ
  go_enter Tryd.func67, Tryd.ntmps67
  go_wp2_with fail
  refine (HZ.out _).mono ?_
  rintro e w1 ⟨rfl, hb1⟩
  have C : Bk w1 (w.heap.size + 2) 43 #[.int .u64 0, .int .u64 0, .int .u64 0, .int .u64 0] := Bk.keep ((Bk.new' _ _ _ (by simp)).alloc _) hb1
  have D : Bk w1 (w.heap.size + 3) 43 #[.int .u64 0, .int .u64 0, .int .u64 0, .int .u64 0] := Bk.keep (Bk.new' _ _ _ (by simp)) hb1
  have hW : Below w.heap.size w w1 := below_step ((((Below.refl _ _).alloc (by simp) _).alloc (by simp) _).alloc (by simp; omega) _ |>.alloc (by simp; omega) _) (by simp; omega) hb1
  clear hb1
  obtain ⟨c0, c1, c2, c3, d0, d1, d2, d3, zc⟩ := C.f4
  obtain ⟨e0, e1, e2, e3, f0, f1, f2, f3, zd⟩ := D.f4
  go_wp2_with fail
  refine bodyPost_ret (v := .tuple #[I4 0 0 0 0, I4 0 0 0 0, .int .i64 1]) (by simp [results, Tryd.results67, go_sem, c0, c1, c2, c3, e0, e1, e2, e3]) rfl ⟨rfl, ?_⟩
  exact Below.set4 (Below.set4 hW (by omega) _ _ _ _) (by omega) _ _ _ _

set_option maxRecDepth 100000 in
set_option maxHeartbeats 4000000 in
theorem div_any (a b : Nat) (w : World) (ha : a < M256) (hb : b < M256) (hb0 : 0 < b) : Calls Tryd.prog 67 #[nv a, nv b] w fun e w' => e = .returned (.tuple #[nv (a / b), nv (a % b), .int .i64 0]) ∧ Below w.heap.size w w' := by
  have HZ : ∀ W : World, Calls Tryd.prog 58 #[nv b] W fun e w' => e = .returned (.bool false) ∧ Below W.heap.size W w' := fun W => by
    have := zero_any b W hb
    rw [decide_eq_false (by omega)] at this
    exact this
  have HZ := Lib.hid HZ
  have la := blen_le a ha
  have lb := blen_le b hb
  go_enter Tryd.func67, Tryd.ntmps67
  go_wp2_with fail
  refine (HZ.out _).mono ?_
  rintro e w1 ⟨rfl, hb1⟩
  have A : Bk w1 w.heap.size 43 (A4 (wd0 a) (wd1 a) (wd2 a) (wd3 a)) := Bk.keep ((((Bk.new _ _ _).alloc _).alloc _).alloc _) hb1
  have B : Bk w1 (w.heap.size + 1) 43 (A4 (wd0 b) (wd1 b) (wd2 b) (wd3 b)) := Bk.keep (((Bk.new' _ _ _ (by simp)).alloc _).alloc _) hb1
  have C : Bk w1 (w.heap.size + 2) 43 #[.int .u64 0, .int .u64 0, .int .u64 0, .int .u64 0] := Bk.keep ((Bk.new' _ _ _ (by simp)).alloc _) hb1
  have D : Bk w1 (w.heap.size + 3) 43 #[.int .u64 0, .int .u64 0, .int .u64 0, .int .u64 0] := Bk.keep (Bk.new' _ _ _ (by simp)) hb1
  have hW : Below w.heap.size w w1 := below_step ((((Below.refl _ _).alloc (by simp) _).alloc (by simp) _).alloc (by simp; omega) _ |>.alloc (by simp; omega) _) (by simp; omega) hb1
  clear hb1
  obtain ⟨a0, a1, a2, a3, a4, a5, a6, a7, za⟩ := A.f4
  go_wp2_with fail
  refine wp_abs (fun W => Below w.heap.size w W ∧ Bk W w.heap.size 43 (A4 (wd0 a) (wd1 a) (wd2 a) (wd3 a)) ∧ Bk W (w.heap.size + 1) 43 (A4 (wd0 b) (wd1 b) (wd2 b) (wd3 b)) ∧
    Bk W (w.heap.size + 2) 43 #[.int .u64 0, .int .u64 0, .int .u64 0, .int .u64 0] ∧ Bk W (w.heap.size + 3) 43 #[.int .u64 0, .int .u64 0, .int .u64 0, .int .u64 0] ∧
    Bk W w1.heap.size 43 #[.int .u64 0, .int .u64 0, .int .u64 0, .int .u64 0] ∧ Bk W (w1.heap.size + 1) 43 (A4 (wd0 a) (wd1 a) (wd2 a) (wd3 a)))
    ⟨(hW.alloc (by omega) _).alloc (by simp; omega) _, (A.alloc _).alloc _, (B.alloc _).alloc _, (C.alloc _).alloc _, (D.alloc _).alloc _, (Bk.new _ _ _).alloc _, Bk.new' _ _ _ (by simp)⟩ ?_
  have hw1 : w.heap.size + 3 < w1.heap.size := D.lt
  clear A B C D hW a0 a1 a2 a3 a4 a5 a6 a7 za
  generalize w1.heap.size = T at *
  rintro W ⟨hW, A, B, C, D, Q, L⟩
  obtain ⟨a0, a1, a2, a3, _, _, _, _, za⟩ := A.f4
  obtain ⟨b0, b1, b2, b3, _, _, _, _, zb⟩ := B.f4
  have q0 := cell_regrown a0
  have q1 := cell_regrown a1
  have q2 := cell_regrown a2
  have q3 := cell_regrown a3
  have q4 := cell_regrown b0
  have q5 := cell_regrown b1
  have q6 := cell_regrown b2
  have q7 := cell_regrown b3
  refine wp_region_quiet_below (by kernel_rfl) (by kernel_rfl) ?_
  quiet_step (fail)
  quiet_step (exact Calls.regrown_of (len_any a _ ha))
  quiet_step (fail)
  quiet_step (exact Calls.regrown_of (len_any b _ hb))
  quiet_step (fail)
  quiet_step (fail)
  refine wpQuiet_nil ?_
  intro _ hw'
  obtain ⟨⟨dq, osq⟩, hw''⟩ := hw'
  subst hw''
  have hG := below_regrown W dq osq
  have hWG : Below w.heap.size w (Go.Sort.grow (redrawn W dq) osq) := below_step hW (by omega) hG
  have A := A.keep hG
  have B := B.keep hG
  have C := C.keep hG
  have D := D.keep hG
  have Q := Q.keep hG
  have L := L.keep hG
  obtain ⟨d, hd⟩ : ∃ d : Int, IntKind.i64.wrap ((blen a : Int) - (blen b : Int)) = d ∧ d = (blen a : Int) - (blen b : Int) := ⟨_, rfl, IntWalk.i64_in _ (by omega)⟩
  rw [hd.1]
  have HD := Lib.hid hd.2
  clear hd a0 a1 a2 a3 b0 b1 b2 b3 q0 q1 q2 q3 q4 q5 q6 q7 za zb hW hG
  show Exit.then _ _ Exit.normal _ (Go.Sort.grow (redrawn W dq) osq)
  generalize Go.Sort.grow (redrawn W dq) osq = W2 at *
  go_wp2_with fail
  go_loopw [9] (fun nn wr => ∃ (d : Int) (q L : Nat), nn = .int .i64 d ∧ -300 ≤ d ∧ d ≤ 300 ∧ Hid (DivAt a b (d + 1).toNat q L) ∧ Below w.heap.size w wr ∧ Bk wr (w.heap.size + 1) 43 (A4 (wd0 b) (wd1 b) (wd2 b) (wd3 b)) ∧
    Bk wr (w.heap.size + 2) 43 #[.int .u64 0, .int .u64 0, .int .u64 0, .int .u64 0] ∧ Bk wr (w.heap.size + 3) 43 #[.int .u64 0, .int .u64 0, .int .u64 0, .int .u64 0] ∧
    Bk wr T 43 (A4 (wd0 q) (wd1 q) (wd2 q) (wd3 q)) ∧ Bk wr (T + 1) 43 (A4 (wd0 L) (wd1 L) (wd2 L) (wd3 L))) (fun nn _ => (intOf nn + 1).toNat)
  case atStart =>
    refine ⟨d, 0, a, rfl, by have := HD.out; omega, by have := HD.out; omega, div_start a b _ ha hb hb0 (by have := HD.out; omega), hWG, B, C, D, Q, L⟩
  case round =>
    obtain ⟨d, q, L, rfl, hd1, hd2, HI, hW, B, C, D, Q, L'⟩ := hrel
    obtain ⟨b0, b1, b2, b3, _, _, _, _, zb⟩ := B.f4
    obtain ⟨l0, l1, l2, l3, l4, l5, l6, l7, zl⟩ := L'.f4
    by_cases h0 : 0 ≤ d
    · obtain ⟨k, rfl⟩ := Int.eq_ofNat_of_zero_le h0
      have HI : Hid (DivAt a b (k + 1) q L) := by
        have := HI.out
        rwa [show ((k : Int) + 1).toNat = k + 1 from by omega] at this
      obtain ⟨hfit, hk⟩ := HI.out.fits hb
      obtain ⟨hql, hLl⟩ := HI.out.le hb0 ha
      have hsh := fun W : World => shl_any b k W hb hk
      rw [Nat.mod_eq_of_lt hfit] at hsh
      have hsu := fun W : World => sub_any L (b * 2 ^ k) W hLl hfit
      have HSH := Lib.hid hsh
      have HSU := Lib.hid hsu
      clear hsh hsu
      go_wp2_with fail
      go_upto_region 8 with fail
      go_cut [10, 11] (fun s10 s11 wx => ∃ g : Nat, s10 = .pointer (some ⟨g, 0, none⟩) ∧ s11 = .bool (decide (L < b * 2 ^ k)) ∧ Below wr.heap.size wr wx ∧ wr.heap.size ≤ g ∧
        Bk wx g 43 (A4 (wd0 ((L + M256 - b * 2 ^ k) % M256)) (wd1 ((L + M256 - b * 2 ^ k) % M256)) (wd2 ((L + M256 - b * 2 ^ k) % M256)) (wd3 ((L + M256 - b * 2 ^ k) % M256))))
      case first =>
        go_region_held3 (fun w' => w'.cell? ⟨w.heap.size + 1, 0, none⟩ = some (.int .u64 (wd0 b : Int)) ∧ w'.cell? ⟨w.heap.size + 1, 1, none⟩ = some (.int .u64 (wd1 b : Int)) ∧ w'.cell? ⟨w.heap.size + 1, 2, none⟩ = some (.int .u64 (wd2 b : Int)) ∧ w'.cell? ⟨w.heap.size + 1, 3, none⟩ = some (.int .u64 (wd3 b : Int)) ∧
          w'.cell? ⟨T + 1, 0, none⟩ = some (.int .u64 (wd0 L : Int)) ∧ w'.cell? ⟨T + 1, 1, none⟩ = some (.int .u64 (wd1 L : Int)) ∧ w'.cell? ⟨T + 1, 2, none⟩ = some (.int .u64 (wd2 L : Int)) ∧ w'.cell? ⟨T + 1, 3, none⟩ = some (.int .u64 (wd3 L : Int))) (first | with_reducible exact ⟨cell4_far k60 (Nat.ne_of_lt y52) _ _ _ _, cell4_far k61 (Nat.ne_of_lt y52) _ _ _ _, cell4_far k62 (Nat.ne_of_lt y52) _ _ _ _, cell4_far k63 (Nat.ne_of_lt y52) _ _ _ _, cell4_far k64 (Nat.ne_of_lt y51) _ _ _ _, cell4_far k65 (Nat.ne_of_lt y51) _ _ _ _, cell4_far k66 (Nat.ne_of_lt y51) _ _ _ _, cell4_far k67 (Nat.ne_of_lt y51) _ _ _ _⟩ | with_reducible exact ⟨cell4_far k60 (Nat.ne_of_lt y32) _ _ _ _, cell4_far k61 (Nat.ne_of_lt y32) _ _ _ _, cell4_far k62 (Nat.ne_of_lt y32) _ _ _ _, cell4_far k63 (Nat.ne_of_lt y32) _ _ _ _, cell4_far k64 (Nat.ne_of_lt y31) _ _ _ _, cell4_far k65 (Nat.ne_of_lt y31) _ _ _ _, cell4_far k66 (Nat.ne_of_lt y31) _ _ _ _, cell4_far k67 (Nat.ne_of_lt y31) _ _ _ _⟩ | go_keep)
          (first
            | (go_at_call 74; refine (HSH.out _).mono ?_; rintro e w5 ⟨rfl, hb5⟩; have hE5 : Below wr.heap.size wr w5 := below_step (by repeat (first | exact Below.refl _ _ | assumption | refine Below.drew ?_ | refine Below.alloc ?_ (by first | omega | (simp; done) | (simp; omega)) _)) (by first | (simp; done) | (simp; omega)) hb5; have z5 := hE5.size; have y31 : T + 1 < wr.heap.size := block_lt_of_cell l0; have y32 : w.heap.size + 1 < wr.heap.size := block_lt_of_cell b0; have y51 : T + 1 < w5.heap.size := Nat.lt_of_lt_of_le (block_lt_of_cell l0) z5; have y52 : w.heap.size + 1 < w5.heap.size := Nat.lt_of_lt_of_le (block_lt_of_cell b0) z5; have k50 := cellS hE5 b0; have k51 := cellS hE5 b1; have k52 := cellS hE5 b2; have k53 := cellS hE5 b3; have k54 := cellS hE5 l0; have k55 := cellS hE5 l1; have k56 := cellS hE5 l2; have k57 := cellS hE5 l3; try (have N5 : Bk w5 wr.heap.size 43 #[.int .u64 0, .int .u64 0, .int .u64 0, .int .u64 0] := (by first | exact Bk.keep (Bk.new _ _ _) hb5 | exact Bk.keep (Bk.drew (Bk.new _ _ _)) hb5); obtain ⟨n0, n1, n2, n3, n4, n5, n6, n7, n8⟩ := N5.f4))
            | (go_at_call 69; refine (HSU.out _).mono ?_; rintro e w6 ⟨rfl, hb6⟩; have hE6 : Below wr.heap.size wr w6 := below_step (by repeat (first | exact Below.refl _ _ | assumption | refine Below.drew ?_ | refine Below.alloc ?_ (by first | omega | (simp; done) | (simp; omega)) _)) (by first | omega | (simp; done) | (simp; omega)) hb6; have z6 := hE6.size; have k60 := cellS hE6 b0; have k61 := cellS hE6 b1; have k62 := cellS hE6 b2; have k63 := cellS hE6 b3; have k64 := cellS hE6 l0; have k65 := cellS hE6 l1; have k66 := cellS hE6 l2; have k67 := cellS hE6 l3; (first | (have N6 : Bk w6 wr.heap.size 43 #[.int .u64 0, .int .u64 0, .int .u64 0, .int .u64 0] := N5.keep hb6; obtain ⟨n0, n1, n2, n3, n4, n5, n6, n7, n8⟩ := N6.f4) | (have N6 : Bk w6 w5.heap.size 43 #[.int .u64 0, .int .u64 0, .int .u64 0, .int .u64 0] := Bk.keep (Bk.new _ _ _) hb6; obtain ⟨n0, n1, n2, n3, n4, n5, n6, n7, n8⟩ := N6.f4) | skip)))
        · go_wp2_with fail
          go_meet
          exact ⟨w6.heap.size, rfl, rfl, Below.alloc hE6 (by omega) _, z6, Bk.new _ _ _⟩
        · go_wp2_with fail
          go_meet
          exact ⟨w5.heap.size, rfl, rfl, Below.set4 hE6 z5 _ _ _ _, z5, N6.set4 _ _ _ _⟩
        · go_wp2_with fail
          go_meet
          exact ⟨wr.heap.size, rfl, rfl, Below.set4 hE6 (Nat.le_refl _) _ _ _ _, Nat.le_refl _, N6.set4 _ _ _ _⟩
      case rest =>
        obtain ⟨g, rfl, rfl, hbx, hg, hR⟩ := hcut
        have hWx : Below w.heap.size w wc := below_step hW (by have := B.lt; omega) hbx
        have ng1 : g ≠ T + 1 := by have := L'.lt; omega
        have ng0 : g ≠ T := by have := L'.lt; omega
        have B := B.keep hbx
        have C := C.keep hbx
        have D := D.keep hbx
        have Q := Q.keep hbx
        have L' := L'.keep hbx
        clear b0 b1 b2 b3 zb l0 l1 l2 l3 l4 l5 l6 l7 zl HSH HSU hbx hW
        by_cases hl : L < b * 2 ^ k
        · rw [decide_eq_true hl]
          have HN : Hid (DivAt a b (((k : Int) - 1) + 1).toNat q L) := by
            rw [show (((k : Int) - 1) + 1).toNat = k from by omega]
            exact HI.out.less hl
          clear hl
          go_wp2_with fail
          go_roundw
          case rel => exact ⟨(k : Int) - 1, q, L, rfl, by omega, by omega, HN, hWx, B, C, D, Q, L'⟩
          case measure => simp [intOf]
        · rw [decide_eq_false hl]
          have hv : (L + M256 - b * 2 ^ k) % M256 = L - b * 2 ^ k := by
            rw [show L + M256 - b * 2 ^ k = (L - b * 2 ^ k) + M256 from by omega, Nat.add_mod_right, Nat.mod_eq_of_lt (by omega)]
          rw [hv] at hR
          have HN : Hid (DivAt a b (((k : Int) - 1) + 1).toNat (q + 2 ^ k) (L - b * 2 ^ k)) := by
            rw [show (((k : Int) - 1) + 1).toNat = k from by omega]
            exact HI.out.more hl
          have hlow := HI.out.low
          clear hl hv
          have hw1 := bit_int q k hk hlow
          obtain ⟨r0, r1, r2, r3, _, _, _, _, zr⟩ := hR.f4
          obtain ⟨l0, l1, l2, l3, l4, l5, l6, l7, zl⟩ := L'.f4
          obtain ⟨q0, q1, q2, q3, q4, q5, q6, q7, zq⟩ := Q.f4
          generalize L - b * 2 ^ k = R at *
          have hj : k / 64 = 0 ∨ k / 64 = 1 ∨ k / 64 = 2 ∨ k / 64 = 3 := by omega
          have o0 := bit_other q k 0 hk hlow
          have o1 := bit_other q k 1 hk hlow
          have o2 := bit_other q k 2 hk hlow
          have o3 := bit_other q k 3 hk hlow
          have hL := Lib.hid hlow
          clear hlow hfit hql hLl
          rcases hj with hj | hj | hj | hj
          · have hd : (k : Int) / 64 = 0 := by omega
            rw [hj, ← wdi_0, ← wdi_0] at hw1
            have O1 : Hid (wd1 (q + 2 ^ k) = wd1 q) := by show _ = _; rw [wdi_1, wdi_1]; exact o1 (by omega)
            have O2 : Hid (wd2 (q + 2 ^ k) = wd2 q) := by show _ = _; rw [wdi_2, wdi_2]; exact o2 (by omega)
            have O3 : Hid (wd3 (q + 2 ^ k) = wd3 q) := by show _ = _; rw [wdi_3, wdi_3]; exact o3 (by omega)
            have HW := Lib.hid hw1
            have HJ := Lib.hid hj
            clear o0 o1 o2 o3 hw1 hj
            go_wp2_with fail
            go_region
            go_wp2_with fail
            refine ⟨⟨(k : Int) - 1, q + 2 ^ k, R, rfl, by omega, by omega, HN, Below.drew (Below.setCell (Below.set4 hWx (by omega) _ _ _ _) (by show w.heap.size ≤ T; omega) _),
              ((B.far4 (by omega) _ _ _ _).far (by show w.heap.size + 1 ≠ T; omega) _).drew, ((C.far4 (by omega) _ _ _ _).far (by show w.heap.size + 2 ≠ T; omega) _).drew, ((D.far4 (by omega) _ _ _ _).far (by show w.heap.size + 3 ≠ T; omega) _).drew, ?_,
              ((L'.set4 _ _ _ _).far (by show T + 1 ≠ T; omega) _).drew⟩, by simp [intOf]⟩
            have e := ((Q.far4 (by omega : T ≠ T + 1) (.int .u64 (wd0 R : Int)) (.int .u64 (wd1 R : Int)) (.int .u64 (wd2 R : Int)) (.int .u64 (wd3 R : Int))).set_ 0 (.int .u64 (wd0 (q + 2 ^ k) : Int))).drew
            rw [← HW.out] at e
            rw [A4, O1.out, O2.out, O3.out, ← HW.out]
            exact e
          · have hd : (k : Int) / 64 = 1 := by omega
            rw [hj, ← wdi_1, ← wdi_1] at hw1
            have O0 : Hid (wd0 (q + 2 ^ k) = wd0 q) := by show _ = _; rw [wdi_0, wdi_0]; exact o0 (by omega)
            have O2 : Hid (wd2 (q + 2 ^ k) = wd2 q) := by show _ = _; rw [wdi_2, wdi_2]; exact o2 (by omega)
            have O3 : Hid (wd3 (q + 2 ^ k) = wd3 q) := by show _ = _; rw [wdi_3, wdi_3]; exact o3 (by omega)
            have HW := Lib.hid hw1
            have HJ := Lib.hid hj
            clear o0 o1 o2 o3 hw1 hj
            go_wp2_with fail
            go_region
            go_wp2_with fail
            refine ⟨⟨(k : Int) - 1, q + 2 ^ k, R, rfl, by omega, by omega, HN, Below.drew (Below.setCell (Below.set4 hWx (by omega) _ _ _ _) (by show w.heap.size ≤ T; omega) _),
              ((B.far4 (by omega) _ _ _ _).far (by show w.heap.size + 1 ≠ T; omega) _).drew, ((C.far4 (by omega) _ _ _ _).far (by show w.heap.size + 2 ≠ T; omega) _).drew, ((D.far4 (by omega) _ _ _ _).far (by show w.heap.size + 3 ≠ T; omega) _).drew, ?_,
              ((L'.set4 _ _ _ _).far (by show T + 1 ≠ T; omega) _).drew⟩, by simp [intOf]⟩
            have e := ((Q.far4 (by omega : T ≠ T + 1) (.int .u64 (wd0 R : Int)) (.int .u64 (wd1 R : Int)) (.int .u64 (wd2 R : Int)) (.int .u64 (wd3 R : Int))).set_ 1 (.int .u64 (wd1 (q + 2 ^ k) : Int))).drew
            rw [← HW.out] at e
            rw [A4, O0.out, O2.out, O3.out, ← HW.out]
            exact e
          · have hd : (k : Int) / 64 = 2 := by omega
            rw [hj, ← wdi_2, ← wdi_2] at hw1
            have O0 : Hid (wd0 (q + 2 ^ k) = wd0 q) := by show _ = _; rw [wdi_0, wdi_0]; exact o0 (by omega)
            have O1 : Hid (wd1 (q + 2 ^ k) = wd1 q) := by show _ = _; rw [wdi_1, wdi_1]; exact o1 (by omega)
            have O3 : Hid (wd3 (q + 2 ^ k) = wd3 q) := by show _ = _; rw [wdi_3, wdi_3]; exact o3 (by omega)
            have HW := Lib.hid hw1
            have HJ := Lib.hid hj
            clear o0 o1 o2 o3 hw1 hj
            go_wp2_with fail
            go_region
            go_wp2_with fail
            refine ⟨⟨(k : Int) - 1, q + 2 ^ k, R, rfl, by omega, by omega, HN, Below.drew (Below.setCell (Below.set4 hWx (by omega) _ _ _ _) (by show w.heap.size ≤ T; omega) _),
              ((B.far4 (by omega) _ _ _ _).far (by show w.heap.size + 1 ≠ T; omega) _).drew, ((C.far4 (by omega) _ _ _ _).far (by show w.heap.size + 2 ≠ T; omega) _).drew, ((D.far4 (by omega) _ _ _ _).far (by show w.heap.size + 3 ≠ T; omega) _).drew, ?_,
              ((L'.set4 _ _ _ _).far (by show T + 1 ≠ T; omega) _).drew⟩, by simp [intOf]⟩
            have e := ((Q.far4 (by omega : T ≠ T + 1) (.int .u64 (wd0 R : Int)) (.int .u64 (wd1 R : Int)) (.int .u64 (wd2 R : Int)) (.int .u64 (wd3 R : Int))).set_ 2 (.int .u64 (wd2 (q + 2 ^ k) : Int))).drew
            rw [← HW.out] at e
            rw [A4, O0.out, O1.out, O3.out, ← HW.out]
            exact e
          · have hd : (k : Int) / 64 = 3 := by omega
            rw [hj, ← wdi_3, ← wdi_3] at hw1
            have O0 : Hid (wd0 (q + 2 ^ k) = wd0 q) := by show _ = _; rw [wdi_0, wdi_0]; exact o0 (by omega)
            have O1 : Hid (wd1 (q + 2 ^ k) = wd1 q) := by show _ = _; rw [wdi_1, wdi_1]; exact o1 (by omega)
            have O2 : Hid (wd2 (q + 2 ^ k) = wd2 q) := by show _ = _; rw [wdi_2, wdi_2]; exact o2 (by omega)
            have HW := Lib.hid hw1
            have HJ := Lib.hid hj
            clear o0 o1 o2 o3 hw1 hj
            go_wp2_with fail
            go_region
            go_wp2_with fail
            refine ⟨⟨(k : Int) - 1, q + 2 ^ k, R, rfl, by omega, by omega, HN, Below.drew (Below.setCell (Below.set4 hWx (by omega) _ _ _ _) (by show w.heap.size ≤ T; omega) _),
              ((B.far4 (by omega) _ _ _ _).far (by show w.heap.size + 1 ≠ T; omega) _).drew, ((C.far4 (by omega) _ _ _ _).far (by show w.heap.size + 2 ≠ T; omega) _).drew, ((D.far4 (by omega) _ _ _ _).far (by show w.heap.size + 3 ≠ T; omega) _).drew, ?_,
              ((L'.set4 _ _ _ _).far (by show T + 1 ≠ T; omega) _).drew⟩, by simp [intOf]⟩
            have e := ((Q.far4 (by omega : T ≠ T + 1) (.int .u64 (wd0 R : Int)) (.int .u64 (wd1 R : Int)) (.int .u64 (wd2 R : Int)) (.int .u64 (wd3 R : Int))).set_ 3 (.int .u64 (wd3 (q + 2 ^ k) : Int))).drew
            rw [← HW.out] at e
            rw [A4, O0.out, O1.out, O2.out, ← HW.out]
            exact e
    · have hd0 : (d + 1).toNat = 0 := by omega
      have HI : Hid (DivAt a b 0 q L) := by
        have := HI.out
        rwa [hd0] at this
      clear hd0
      obtain ⟨c0, c1, c2, c3, c4, c5, c6, c7, zc⟩ := C.f4
      obtain ⟨e0, e1, e2, e3, e4, e5, e6, e7, ze⟩ := D.f4
      obtain ⟨q0, q1, q2, q3, q4, q5, q6, q7, zq⟩ := Q.f4
      obtain ⟨l0, l1, l2, l3, l4, l5, l6, l7, zl⟩ := L'.f4
      go_wp2_with fail
      go_region
      go_wp2_with fail
      obtain ⟨eq, eL⟩ := HI.out.done
      refine bodyPost_ret (v := .tuple #[nv q, nv L, .int .i64 0]) (by simp [results, Tryd.results67, go_sem, c0, c1, c2, c3, e0, e1, e2, e3]) rfl ⟨by rw [eq, eL], ?_⟩
      exact Below.drew (Below.set4 (Below.set4 hW (by omega) _ _ _ _) (by omega) _ _ _ _)
end Go.Proofs.YtljfhabhenaapaaDoor
