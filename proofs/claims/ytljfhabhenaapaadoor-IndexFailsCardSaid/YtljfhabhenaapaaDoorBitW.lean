/-
  Contracts of package bits: Work.
-/
import Derived.Test.YtljfhabhenaapaaDoorBitT
import Derived.Deep.RegionHeld3
import Derived.Deep.DeepCutAuto
import Derived.Deep.DrawnRows
namespace Go.Proofs.YtljfhabhenaapaaDoor
open Go.RowKit
set_option maxRecDepth 100000
set_option linter.unusedVariables false

theorem nums2' (w : World) (x y g : Nat) (hg : g = w.heap.size) : Nums (w.alloc (.cells #[.int .u64 (wd0 x : Int), .int .u64 (wd1 x : Int), .int .u64 (wd2 x : Int), .int .u64 (wd3 x : Int), .int .u64 (wd0 y : Int), .int .u64 (wd1 y : Int), .int .u64 (wd2 y : Int), .int .u64 (wd3 y : Int)] 43)) g 0 [x, y] := by subst hg; exact nums2 w x y
theorem Nums.alloc_ {w : World} {b off : Nat} {xs : List Nat} (h : Nums w b off xs) (hb : b < w.heap.size) (o : Obj) : Nums (w.alloc o) b off xs := fun k x hx => by
  obtain ⟨h0, h1, h2, h3⟩ := h k x hx
  exact ⟨(World.cell?_alloc_lt w o ⟨b, _, none⟩ hb).trans h0, (World.cell?_alloc_lt w o ⟨b, _, none⟩ hb).trans h1, (World.cell?_alloc_lt w o ⟨b, _, none⟩ hb).trans h2, (World.cell?_alloc_lt w o ⟨b, _, none⟩ hb).trans h3⟩
/-- The sum of two numbers, wherever they lie. -/
theorem add2g (x y : Nat) (W : World) (b : Nat) (hx : x < M256) (hy : y < M256) (hn : Nums W b 0 [x, y]) (hb : b < W.heap.size) :
    Calls Tryd.prog 34 #[.slice (some ⟨b, 0, none⟩) 2 2] W fun e w' => e = .returned (.tuple #[nv ((x + y) % M256), .bool (decide (M256 ≤ x + y))]) ∧ Below W.heap.size W w' := by
  have hs : [x, y].sum = x + y := by simp
  refine (nadd_any [x, y] b 0 2 _ (by simp) (by intro z hz; simp at hz; rcases hz with rfl | rfl <;> assumption) hn (.inr hb)).mono ?_
  rintro e w' ⟨rfl, h⟩
  exact ⟨by rw [hs], h⟩
theorem with_fact {p q : Prop} (h : p) (k : p → q) : q := k h
/-- How much work a target means. -/
def workV (t : Nat) : Nat := if M256 ≤ t + 1 then 1 else ((M256 - 1 - t) / (t + 1) + 1) % M256

set_option maxRecDepth 100000 in
set_option maxHeartbeats 3000000 in
theorem work_any (t : Nat) (w : World) (ht : t < M256) :
    Calls Tryd.prog 50 #[nv t] w fun e w' => e = .returned (nv (workV t)) ∧ Below w.heap.size w w' := by
  have h1 : 1 < B64 := by decide
  have h1M : 1 < M256 := by rw [M256_pow]; exact Nat.one_lt_two_pow (by omega)
  have HO := Lib.hid (fun W => of_any 1 W h1)
  have HA := Lib.hid (fun W b hn hb => add2g t 1 W b ht h1M hn hb)
  have HN := Lib.hid (fun W => not_any t W ht)
  have hs : (t + 1) % M256 < M256 := Nat.mod_lt _ M256_pos'
  have HV : Hid (workV t = if M256 ≤ t + 1 then 1 else ((M256 - 1 - t) / (t + 1) + 1) % M256) := rfl
  have hnt : M256 - 1 - t < M256 := by omega
  have HD := Lib.hid (fun (W : World) (h : 0 < (t + 1) % M256) => div_any (M256 - 1 - t) ((t + 1) % M256) W hnt hs h)
  have hq : (M256 - 1 - t) / ((t + 1) % M256) < M256 := Nat.lt_of_le_of_lt (Nat.div_le_self _ _) hnt
  have HB := Lib.hid (fun W b hn hb => add2g ((M256 - 1 - t) / ((t + 1) % M256)) 1 W b hq h1M hn hb)
  have hcase : M256 ≤ t + 1 ∨ (t + 1) % M256 = t + 1 := by
    rcases Nat.lt_or_ge (t + 1) M256 with h | h
    · exact .inr (Nat.mod_eq_of_lt h)
    · exact .inl h
  have HC := Lib.hid hcase
  generalize hr : workV t = r at *
  have hrM : Hid (r < M256) := by
    show r < M256
    rw [← hr]; unfold workV
    split
    · exact h1M
    · exact Nat.mod_lt _ M256_pos'
  clear hr hcase hq hs hnt h1 h1M
  generalize hm : M256 = M at HA HN HV HD HB HC hrM
  generalize M - 1 - t = n at *
  generalize ho : decide (M ≤ t + 1) = o at *
  generalize hs : (t + 1) % M = s at *
  go_enter Tryd.func50, Tryd.ntmps50
  go_upto_region 1 with fail
  refine wp_abs (fun W => Below w.heap.size w W ∧ Bk W w.heap.size 43 (A4 (wd0 t) (wd1 t) (wd2 t) (wd3 t)) ∧ Bk W (w.heap.size + 1) 43 #[.int .u64 0, .int .u64 0, .int .u64 0, .int .u64 0])
    ⟨((Below.refl _ _).alloc (Nat.le_refl _) _).alloc (by simp) _, (Bk.new _ _ _).alloc _, Bk.new' _ _ _ (by simp)⟩ ?_
  rintro W ⟨hW, A, R⟩
  obtain ⟨a0, a1, a2, a3, a4, a5, a6, a7, za⟩ := A.f4
  go_cut [3, 4] (fun s3 s4 wx => ∃ g : Nat, s3 = .pointer (some ⟨g, 0, none⟩) ∧ s4 = .bool o ∧ Below W.heap.size W wx ∧ W.heap.size ≤ g ∧ Bk wx g 43 (A4 (wd0 s) (wd1 s) (wd2 s) (wd3 s)))
  case first =>
    go_region_held3 (fun w' => w'.cell? ⟨w.heap.size, 0, none⟩ = some (.int .u64 (wd0 t : Int)) ∧ w'.cell? ⟨w.heap.size, 1, none⟩ = some (.int .u64 (wd1 t : Int)) ∧ w'.cell? ⟨w.heap.size, 2, none⟩ = some (.int .u64 (wd2 t : Int)) ∧ w'.cell? ⟨w.heap.size, 3, none⟩ = some (.int .u64 (wd3 t : Int)))
      (first | with_reducible exact ⟨cell4_far k60 (Nat.ne_of_lt za) _ _ _ _, cell4_far k61 (Nat.ne_of_lt za) _ _ _ _, cell4_far k62 (Nat.ne_of_lt za) _ _ _ _, cell4_far k63 (Nat.ne_of_lt za) _ _ _ _⟩ | with_reducible exact ⟨cell4_far k60 (Nat.ne_of_lt y5) _ _ _ _, cell4_far k61 (Nat.ne_of_lt y5) _ _ _ _, cell4_far k62 (Nat.ne_of_lt y5) _ _ _ _, cell4_far k63 (Nat.ne_of_lt y5) _ _ _ _⟩ | with_reducible exact ⟨cell4_far k60 (Nat.ne_of_lt y51) _ _ _ _, cell4_far k61 (Nat.ne_of_lt y51) _ _ _ _, cell4_far k62 (Nat.ne_of_lt y51) _ _ _ _, cell4_far k63 (Nat.ne_of_lt y51) _ _ _ _⟩ | go_keep)
      (first
        | (go_at_call 23; refine (HO.out _).mono ?_; rintro e w5 ⟨rfl, hb5⟩; have hE5 : Below W.heap.size W w5 := below_step (by repeat (first | with_reducible exact Below.refl _ _ | with_reducible assumption | refine Below.drew ?_ | refine Below.alloc ?_ (by first | omega | (simp; done) | (simp; omega)) _)) (by first | (simp; done) | (simp; omega)) hb5; have z5 := hE5.size; have y5 : w.heap.size < w5.heap.size := Nat.lt_of_lt_of_le za z5; have y51 : w.heap.size < w5.heap.size + 1 := Nat.lt_succ_of_lt y5; have k50 := cellS hE5 a0; have k51 := cellS hE5 a1; have k52 := cellS hE5 a2; have k53 := cellS hE5 a3; try (have N5 : Bk w5 W.heap.size 43 #[.int .u64 0, .int .u64 0, .int .u64 0, .int .u64 0] := (by first | exact Bk.keep (Bk.new _ _ _) hb5 | exact Bk.keep (Bk.drew (Bk.new _ _ _)) hb5); have tok5 : True := trivial))
        | (go_at_call 34; refine (HA.out _ _ (by first | exact nums2 _ _ _ | exact nums2' _ _ _ _ (by simp) | exact Nums.alloc_ (nums2 _ _ _) (by simp) _) (by first | (simp; done) | (simp; omega))).mono ?_; rintro e w6 ⟨rfl, hb6⟩; have hE6 : Below W.heap.size W w6 := below_step (by repeat (first | with_reducible exact Below.refl _ _ | with_reducible assumption | refine Below.drew ?_ | refine Below.alloc ?_ (by first | omega | (simp; done) | (simp; omega)) _)) (by first | omega | (simp; done) | (simp; omega)) hb6; have z6 := hE6.size; have k60 := cellS hE6 a0; have k61 := cellS hE6 a1; have k62 := cellS hE6 a2; have k63 := cellS hE6 a3; (first | (have N6 : Bk w6 W.heap.size 43 #[.int .u64 0, .int .u64 0, .int .u64 0, .int .u64 0] := (N5.alloc _).keep hb6; obtain ⟨n0, n1, n2, n3, n4, n5, n6, n7, n8⟩ := N6.f4) | (have N6 : Bk w6 w5.heap.size 43 #[.int .u64 0, .int .u64 0, .int .u64 0, .int .u64 0] := ((Bk.new _ _ _).alloc _).keep hb6; obtain ⟨n0, n1, n2, n3, n4, n5, n6, n7, n8⟩ := N6.f4) | (have N6 : Bk w6 (w5.heap.size + 1) 43 #[.int .u64 0, .int .u64 0, .int .u64 0, .int .u64 0] := (Bk.new' _ _ _ (by simp)).keep hb6; obtain ⟨n0, n1, n2, n3, n4, n5, n6, n7, n8⟩ := N6.f4) | skip)))
    all_goals
      go_wp2_with fail
      go_meet
      refine ⟨_, rfl, rfl, ?_, ?_, ?_⟩
      · repeat' (first | with_reducible exact Below.refl _ _ | with_reducible assumption | with_reducible refine Below.drew ?_ | with_reducible refine Below.setCell ?_ ?_ _ | with_reducible refine Below.alloc ?_ ?_ _ | with_reducible exact Nat.le_refl _ | omega | (simp; done) | (simp; omega) | (simp [World.drew]; done) | (simp [World.drew]; omega))
      · first | omega | (simp; done) | (simp; omega) | (simp [World.drew]; done) | (simp [World.drew]; omega)
      · first | with_reducible exact Bk.new _ _ _ | with_reducible exact N6.set4 _ _ _ _
  case rest =>
    obtain ⟨g, rfl, rfl, hbc, hg, N⟩ := hcut
    have hW2 := below_step hW hW.size hbc
    have A := A.keep hbc
    have R := R.keep hbc
    clear hbc a0 a1 a2 a3 a4 a5 a6 a7 HA hW
    by_cases hov : M ≤ t + 1
    · have ho1 : o = true := by rw [← ho]; exact decide_eq_true hov
      have hr1 : r = 1 := by rw [HV.out, if_pos hov]
      subst ho1
      subst hr1
      clear ho hov hs HC HV HD HB HN
      go_wp2_with fail
      refine (HO.out _).mono ?_
      rintro e w3 ⟨rfl, hb⟩
      have R := R.keep hb
      have hW := below_step hW2 hW2.size hb
      clear hb hW2 N A
      obtain ⟨r0, r1, r2, r3, r4, r5, r6, r7, zr⟩ := R.f4
      go_wp2_with fail
      exact num_ret rfl rfl rfl rfl (R.set4 _ _ _ _) (Below.set4 hW (by omega) _ _ _ _)
    · have ho1 : o = false := by rw [← ho]; exact decide_eq_false hov
      have hsv : s = t + 1 := HC.out.resolve_left hov
      have hV2 : r = (n / s + 1) % M := by rw [HV.out, if_neg hov, hsv]
      have HD2 := Lib.hid (fun W => HD.out W (by omega))
      have HV2 := Lib.hid hV2
      subst ho1
      clear ho hov hs HC HV HD hsv hV2
      generalize n % s = rm at *
      generalize n / s = q at *
      rw [← HV2.out] at HB
      generalize decide (M ≤ q + 1) = o2 at *
      go_upto_region 4 with fail
      clear hg
      have hgg : w.heap.size + 1 < wc.heap.size := R.lt
      generalize wc = W at *
      obtain ⟨a0, a1, a2, a3, a4, a5, a6, a7, za⟩ := A.f4
      obtain ⟨n0, n1, n2, n3, n4, n5, n6, n7, zn⟩ := N.f4
      go_cut [5, 6, 7] (fun s5 s6 s7 wx => ∃ g5 g6 : Nat, s5 = .pointer (some ⟨g5, 0, none⟩) ∧ s6 = .pointer (some ⟨g6, 0, none⟩) ∧ s7 = .int .i64 0 ∧ Below W.heap.size W wx ∧ W.heap.size ≤ g5 ∧ Bk wx g5 43 (A4 (wd0 q) (wd1 q) (wd2 q) (wd3 q)))
      case first =>
        go_region_held3 (fun w' => w'.cell? ⟨w.heap.size, 0, none⟩ = some (.int .u64 (wd0 t : Int)) ∧ w'.cell? ⟨w.heap.size, 1, none⟩ = some (.int .u64 (wd1 t : Int)) ∧ w'.cell? ⟨w.heap.size, 2, none⟩ = some (.int .u64 (wd2 t : Int)) ∧ w'.cell? ⟨w.heap.size, 3, none⟩ = some (.int .u64 (wd3 t : Int)) ∧ w'.cell? ⟨g, 0, none⟩ = some (.int .u64 (wd0 s : Int)) ∧ w'.cell? ⟨g, 1, none⟩ = some (.int .u64 (wd1 s : Int)) ∧ w'.cell? ⟨g, 2, none⟩ = some (.int .u64 (wd2 s : Int)) ∧ w'.cell? ⟨g, 3, none⟩ = some (.int .u64 (wd3 s : Int)))
          ((refine ⟨?_, ?_, ?_, ?_, ?_, ?_, ?_, ?_⟩; (focus (refine cellS (w := W) ?_ a0; repeat' (first | with_reducible exact Below.refl _ _ | with_reducible assumption | with_reducible refine Below.drew ?_ | with_reducible refine Below.setCell ?_ ?_ _ | with_reducible refine Below.alloc ?_ ?_ _ | with_reducible exact Nat.le_refl _ | omega | (simp; done) | (simp; omega) | (simp [World.drew]; done) | (simp [World.drew]; omega)))); (focus (refine cellS (w := W) ?_ a1; repeat' (first | with_reducible exact Below.refl _ _ | with_reducible assumption | with_reducible refine Below.drew ?_ | with_reducible refine Below.setCell ?_ ?_ _ | with_reducible refine Below.alloc ?_ ?_ _ | with_reducible exact Nat.le_refl _ | omega | (simp; done) | (simp; omega) | (simp [World.drew]; done) | (simp [World.drew]; omega)))); (focus (refine cellS (w := W) ?_ a2; repeat' (first | with_reducible exact Below.refl _ _ | with_reducible assumption | with_reducible refine Below.drew ?_ | with_reducible refine Below.setCell ?_ ?_ _ | with_reducible refine Below.alloc ?_ ?_ _ | with_reducible exact Nat.le_refl _ | omega | (simp; done) | (simp; omega) | (simp [World.drew]; done) | (simp [World.drew]; omega)))); (focus (refine cellS (w := W) ?_ a3; repeat' (first | with_reducible exact Below.refl _ _ | with_reducible assumption | with_reducible refine Below.drew ?_ | with_reducible refine Below.setCell ?_ ?_ _ | with_reducible refine Below.alloc ?_ ?_ _ | with_reducible exact Nat.le_refl _ | omega | (simp; done) | (simp; omega) | (simp [World.drew]; done) | (simp [World.drew]; omega)))); (focus (refine cellS (w := W) ?_ n0; repeat' (first | with_reducible exact Below.refl _ _ | with_reducible assumption | with_reducible refine Below.drew ?_ | with_reducible refine Below.setCell ?_ ?_ _ | with_reducible refine Below.alloc ?_ ?_ _ | with_reducible exact Nat.le_refl _ | omega | (simp; done) | (simp; omega) | (simp [World.drew]; done) | (simp [World.drew]; omega)))); (focus (refine cellS (w := W) ?_ n1; repeat' (first | with_reducible exact Below.refl _ _ | with_reducible assumption | with_reducible refine Below.drew ?_ | with_reducible refine Below.setCell ?_ ?_ _ | with_reducible refine Below.alloc ?_ ?_ _ | with_reducible exact Nat.le_refl _ | omega | (simp; done) | (simp; omega) | (simp [World.drew]; done) | (simp [World.drew]; omega)))); (focus (refine cellS (w := W) ?_ n2; repeat' (first | with_reducible exact Below.refl _ _ | with_reducible assumption | with_reducible refine Below.drew ?_ | with_reducible refine Below.setCell ?_ ?_ _ | with_reducible refine Below.alloc ?_ ?_ _ | with_reducible exact Nat.le_refl _ | omega | (simp; done) | (simp; omega) | (simp [World.drew]; done) | (simp [World.drew]; omega)))); (focus (refine cellS (w := W) ?_ n3; repeat' (first | with_reducible exact Below.refl _ _ | with_reducible assumption | with_reducible refine Below.drew ?_ | with_reducible refine Below.setCell ?_ ?_ _ | with_reducible refine Below.alloc ?_ ?_ _ | with_reducible exact Nat.le_refl _ | omega | (simp; done) | (simp; omega) | (simp [World.drew]; done) | (simp [World.drew]; omega))))))
          (first
          | (go_at_call 68
             refine (HN.out _).mono ?_
             rintro e w5 ⟨rfl, hb5⟩
             have hE5 : Below W.heap.size W w5 := by
               refine below_step ?_ ?_ hb5
               · repeat' (first | with_reducible exact Below.refl _ _ | with_reducible assumption | with_reducible refine Below.drew ?_ | with_reducible refine Below.setCell ?_ ?_ _ | with_reducible refine Below.alloc ?_ ?_ _ | with_reducible exact Nat.le_refl _ | omega | (simp; done) | (simp; omega) | (simp [World.drew]; done) | (simp [World.drew]; omega))
               · first | omega | (simp; done) | (simp; omega) | (simp [World.drew]; done) | (simp [World.drew]; omega)
             have z5 := hE5.size
             try (refine with_fact (p := Bk w5 (W.heap.size) 43 #[.int .u64 0, .int .u64 0, .int .u64 0, .int .u64 0]) ?_ ?_; (focus (refine Bk.keep ?_ hb5; (first | exact Bk.new _ _ _ | exact (Bk.new _ _ _).drew | exact (Bk.new _ _ _).alloc _ | exact ((Bk.new _ _ _).alloc _).drew); done)); intro N5a; obtain ⟨n5a0, n5a1, n5a2, n5a3, n5a4, n5a5, n5a6, n5a7, n5a8⟩ := N5a.f4)
             try (refine with_fact (p := Bk w5 (W.heap.size + 1) 43 #[.int .u64 0, .int .u64 0, .int .u64 0, .int .u64 0]) ?_ ?_; (focus (refine Bk.keep ?_ hb5; (first | (refine Bk.new' _ _ _ ?_; (simp; done)) | (refine Bk.drew (Bk.new' _ _ _ ?_); (simp; done))); done)); intro N5b; obtain ⟨n5b0, n5b1, n5b2, n5b3, n5b4, n5b5, n5b6, n5b7, n5b8⟩ := N5b.f4))
          | (go_at_call 67
             refine (HD2.out _).mono ?_
             rintro e w6 ⟨rfl, hb6⟩
             have hE6 : Below W.heap.size W w6 := by
               refine below_step ?_ ?_ hb6
               · repeat' (first | with_reducible exact Below.refl _ _ | with_reducible assumption | with_reducible refine Below.drew ?_ | with_reducible refine Below.setCell ?_ ?_ _ | with_reducible refine Below.alloc ?_ ?_ _ | with_reducible exact Nat.le_refl _ | omega | (simp; done) | (simp; omega) | (simp [World.drew]; done) | (simp [World.drew]; omega))
               · first | omega | (simp; done) | (simp; omega) | (simp [World.drew]; done) | (simp [World.drew]; omega)
             have z6 := hE6.size
             try (refine with_fact (p := Bk w6 (W.heap.size) 43 #[.int .u64 0, .int .u64 0, .int .u64 0, .int .u64 0]) ?_ ?_; (focus (refine Bk.keep ?_ hb6; (first | exact N5a | exact N5a.alloc _ | exact (N5a.alloc _).alloc _); done)); intro N6a; obtain ⟨n6a0, n6a1, n6a2, n6a3, n6a4, n6a5, n6a6, n6a7, n6a8⟩ := N6a.f4)
             try (refine with_fact (p := Bk w6 (W.heap.size + 1) 43 #[.int .u64 0, .int .u64 0, .int .u64 0, .int .u64 0]) ?_ ?_; (focus (refine Bk.keep ?_ hb6; (first | exact N5b | exact N5b.alloc _ | exact (N5b.alloc _).alloc _); done)); intro N6b; obtain ⟨n6b0, n6b1, n6b2, n6b3, n6b4, n6b5, n6b6, n6b7, n6b8⟩ := N6b.f4)
             try (refine with_fact (p := Bk w6 (w5.heap.size) 43 #[.int .u64 0, .int .u64 0, .int .u64 0, .int .u64 0]) ?_ ?_; (focus (refine Bk.keep ?_ hb6; (first | exact Bk.new _ _ _ | exact (Bk.new _ _ _).alloc _); done)); intro N6c; obtain ⟨n6c0, n6c1, n6c2, n6c3, n6c4, n6c5, n6c6, n6c7, n6c8⟩ := N6c.f4)
             try (refine with_fact (p := Bk w6 (w5.heap.size + 1) 43 #[.int .u64 0, .int .u64 0, .int .u64 0, .int .u64 0]) ?_ ?_; (focus (refine Bk.keep ?_ hb6; (refine Bk.new' _ _ _ ?_; (simp; done)); done)); intro N6d; obtain ⟨n6d0, n6d1, n6d2, n6d3, n6d4, n6d5, n6d6, n6d7, n6d8⟩ := N6d.f4)))
        all_goals
          go_wp2_with fail
          go_meet
          refine ⟨_, _, rfl, rfl, rfl, ?_, ?_, ?_⟩
          · repeat' (first | with_reducible exact Below.refl _ _ | with_reducible assumption | with_reducible refine Below.drew ?_ | with_reducible refine Below.setCell ?_ ?_ _ | with_reducible refine Below.alloc ?_ ?_ _ | with_reducible exact Nat.le_refl _ | omega | (simp; done) | (simp; omega) | (simp [World.drew]; done) | (simp [World.drew]; omega))
          · first | omega | (simp; done) | (simp; omega) | (simp [World.drew]; done) | (simp [World.drew]; omega)
          · change Bk _ _ _ #[Value.int .u64 (wd0 q : Int), .int .u64 (wd1 q : Int), .int .u64 (wd2 q : Int), .int .u64 (wd3 q : Int)]
            first
              | with_reducible exact Bk.new _ _ _
              | (with_reducible refine Bk.new' _ _ _ ?_; (simp; done))
              | repeat' (first | with_reducible exact Bk.new _ _ _ | with_reducible exact N6a.set4 _ _ _ _ | with_reducible exact N6b.set4 _ _ _ _ | with_reducible exact N6c.set4 _ _ _ _ | with_reducible exact N6d.set4 _ _ _ _ | with_reducible refine Bk.far4 ?_ ?_ _ _ _ _ | with_reducible refine Bk.alloc ?_ _ | omega | (simp; done) | (simp; omega))
      case rest =>
        obtain ⟨g5, g6, rfl, rfl, rfl, hbc, hg, X⟩ := hcut
        have hW3 := below_step hW2 hW2.size hbc
        have R := R.keep hbc
        clear hbc a0 a1 a2 a3 a4 a5 a6 a7 n0 n1 n2 n3 n4 n5 n6 n7 zn HD2 HN hW2 A N hg za
        go_upto_region 5 with fail
        generalize wc = W at *
        obtain ⟨a0, a1, a2, a3, a4, a5, a6, a7, za⟩ := X.f4
        go_cut [8, 9] (fun s8 s9 wx => ∃ g : Nat, s8 = .pointer (some ⟨g, 0, none⟩) ∧ s9 = .bool o2 ∧ Below W.heap.size W wx ∧ W.heap.size ≤ g ∧ Bk wx g 43 (A4 (wd0 r) (wd1 r) (wd2 r) (wd3 r)))
        case first =>
              go_region_held3 (fun w' => w'.cell? ⟨g5, 0, none⟩ = some (.int .u64 (wd0 q : Int)) ∧ w'.cell? ⟨g5, 1, none⟩ = some (.int .u64 (wd1 q : Int)) ∧ w'.cell? ⟨g5, 2, none⟩ = some (.int .u64 (wd2 q : Int)) ∧ w'.cell? ⟨g5, 3, none⟩ = some (.int .u64 (wd3 q : Int)))
                (first | with_reducible exact ⟨cell4_far k60 (Nat.ne_of_lt za) _ _ _ _, cell4_far k61 (Nat.ne_of_lt za) _ _ _ _, cell4_far k62 (Nat.ne_of_lt za) _ _ _ _, cell4_far k63 (Nat.ne_of_lt za) _ _ _ _⟩ | with_reducible exact ⟨cell4_far k60 (Nat.ne_of_lt y5) _ _ _ _, cell4_far k61 (Nat.ne_of_lt y5) _ _ _ _, cell4_far k62 (Nat.ne_of_lt y5) _ _ _ _, cell4_far k63 (Nat.ne_of_lt y5) _ _ _ _⟩ | with_reducible exact ⟨cell4_far k60 (Nat.ne_of_lt y51) _ _ _ _, cell4_far k61 (Nat.ne_of_lt y51) _ _ _ _, cell4_far k62 (Nat.ne_of_lt y51) _ _ _ _, cell4_far k63 (Nat.ne_of_lt y51) _ _ _ _⟩ | go_keep)
                (first
                  | (go_at_call 23; refine (HO.out _).mono ?_; rintro e w5 ⟨rfl, hb5⟩; have hE5 : Below W.heap.size W w5 := below_step (by repeat (first | with_reducible exact Below.refl _ _ | with_reducible assumption | refine Below.drew ?_ | refine Below.alloc ?_ (by first | omega | (simp; done) | (simp; omega)) _)) (by first | (simp; done) | (simp; omega)) hb5; have z5 := hE5.size; have y5 : g5 < w5.heap.size := Nat.lt_of_lt_of_le za z5; have y51 : g5 < w5.heap.size + 1 := Nat.lt_succ_of_lt y5; have k50 := cellS hE5 a0; have k51 := cellS hE5 a1; have k52 := cellS hE5 a2; have k53 := cellS hE5 a3; try (have N5 : Bk w5 W.heap.size 43 #[.int .u64 0, .int .u64 0, .int .u64 0, .int .u64 0] := (by first | exact Bk.keep (Bk.new _ _ _) hb5 | exact Bk.keep (Bk.drew (Bk.new _ _ _)) hb5); have tok5 : True := trivial))
                  | (go_at_call 34; refine (HB.out _ _ (by first | exact nums2 _ _ _ | exact nums2' _ _ _ _ (by simp) | exact Nums.alloc_ (nums2 _ _ _) (by simp) _) (by first | (simp; done) | (simp; omega))).mono ?_; rintro e w6 ⟨rfl, hb6⟩; have hE6 : Below W.heap.size W w6 := below_step (by repeat (first | with_reducible exact Below.refl _ _ | with_reducible assumption | refine Below.drew ?_ | refine Below.alloc ?_ (by first | omega | (simp; done) | (simp; omega)) _)) (by first | omega | (simp; done) | (simp; omega)) hb6; have z6 := hE6.size; have k60 := cellS hE6 a0; have k61 := cellS hE6 a1; have k62 := cellS hE6 a2; have k63 := cellS hE6 a3; (first | (have N6 : Bk w6 W.heap.size 43 #[.int .u64 0, .int .u64 0, .int .u64 0, .int .u64 0] := (N5.alloc _).keep hb6; obtain ⟨n0, n1, n2, n3, n4, n5, n6, n7, n8⟩ := N6.f4) | (have N6 : Bk w6 w5.heap.size 43 #[.int .u64 0, .int .u64 0, .int .u64 0, .int .u64 0] := ((Bk.new _ _ _).alloc _).keep hb6; obtain ⟨n0, n1, n2, n3, n4, n5, n6, n7, n8⟩ := N6.f4) | (have N6 : Bk w6 (w5.heap.size + 1) 43 #[.int .u64 0, .int .u64 0, .int .u64 0, .int .u64 0] := (Bk.new' _ _ _ (by simp)).keep hb6; obtain ⟨n0, n1, n2, n3, n4, n5, n6, n7, n8⟩ := N6.f4) | skip)))
              all_goals
                go_wp2_with fail
                go_meet
                refine ⟨_, rfl, rfl, ?_, ?_, ?_⟩
                · repeat' (first | with_reducible exact Below.refl _ _ | with_reducible assumption | with_reducible refine Below.drew ?_ | with_reducible refine Below.setCell ?_ ?_ _ | with_reducible refine Below.alloc ?_ ?_ _ | with_reducible exact Nat.le_refl _ | omega | (simp; done) | (simp; omega) | (simp [World.drew]; done) | (simp [World.drew]; omega))
                · first | omega | (simp; done) | (simp; omega) | (simp [World.drew]; done) | (simp [World.drew]; omega)
                · first | with_reducible exact Bk.new _ _ _ | with_reducible exact N6.set4 _ _ _ _
        case rest =>
          obtain ⟨g8, rfl, rfl, hbc, hg, Y⟩ := hcut
          have hW4 := below_step hW3 hW3.size hbc
          have R := R.keep hbc
          clear hbc a0 a1 a2 a3 a4 a5 a6 a7 X za hW3
          obtain ⟨y0, y1, y2, y3, y4, y5, y6, y7, zy⟩ := Y.f4
          obtain ⟨r0, r1, r2, r3, r4, r5, r6, r7, zr⟩ := R.f4
          go_wp2_with fail
          exact num_ret rfl rfl rfl rfl (R.set4 _ _ _ _) (Below.set4 hW4 (by omega) _ _ _ _)
end Go.Proofs.YtljfhabhenaapaaDoor
