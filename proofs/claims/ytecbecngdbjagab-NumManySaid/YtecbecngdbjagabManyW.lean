/-
  What is proved: the way of NumMany over a slice of at most 50 numbers that lies in one block: it returns true.
-/
import Derived.Test.YtecbecngdbjagabCnt
import Derived.Test.YtecbecngdbjagabOpen
import Derived.Deep.RegionHeld3
import Derived.Deep.DeepCutAuto
import Derived.Deep.RegionLaw
namespace Go.Proofs.Ytecbecngdbjagab.numMany
open Go.ChangeShapes Go.WideShapes Go.ChangeAt Go.RowKit
set_option linter.unusedVariables false

theorem own : ownKnob Try.prog.godebug = none := by kernel_rfl
theorem laidOut : laidOutB Try.prog = true := by kernel_rfl

theorem nums2' (w : World) (x y g : Nat) (hg : g = w.heap.size) : Nums (w.alloc (.cells #[.int .u64 (wd0 x : Int), .int .u64 (wd1 x : Int), .int .u64 (wd2 x : Int), .int .u64 (wd3 x : Int), .int .u64 (wd0 y : Int), .int .u64 (wd1 y : Int), .int .u64 (wd2 y : Int), .int .u64 (wd3 y : Int)] 26)) g 0 [x, y] := by subst hg; exact nums2 w x y
theorem Nums.alloc_ {w : World} {b off : Nat} {xs : List Nat} (h : Nums w b off xs) (hb : b < w.heap.size) (o : Obj) : Nums (w.alloc o) b off xs := fun k x hx => by
  obtain ⟨h0, h1, h2, h3⟩ := h k x hx
  exact ⟨(World.cell?_alloc_lt w o ⟨b, _, none⟩ hb).trans h0, (World.cell?_alloc_lt w o ⟨b, _, none⟩ hb).trans h1, (World.cell?_alloc_lt w o ⟨b, _, none⟩ hb).trans h2, (World.cell?_alloc_lt w o ⟨b, _, none⟩ hb).trans h3⟩
/-- The sum of two numbers, wherever they lie. -/
theorem add2g (x y : Nat) (W : World) (b : Nat) (hx : x < M256) (hy : y < M256) (hn : Nums W b 0 [x, y]) (hb : b < W.heap.size) :
    Calls Try.prog 7 #[.slice (some ⟨b, 0, none⟩) 2 2] W fun e w' => e = .returned (.tuple #[nv ((x + y) % M256), .bool (decide (M256 ≤ x + y))]) ∧ Below W.heap.size W w' := by
  have hs : [x, y].sum = x + y := by simp
  refine (add_any [x, y] b 0 2 _ (by simp) (by intro z hz; simp at hz; rcases hz with rfl | rfl <;> assumption) hn (.inr hb)).mono ?_
  rintro e w' ⟨rfl, h⟩
  exact ⟨by rw [hs], h⟩

theorem drop_step (xs : List Nat) (n k y : Nat) (hl : xs.length = n) (hk : k < n) (h : xs[n - (k + 1)]? = some y) : (xs.drop (n - (k + 1))).sum = y + (xs.drop (n - k)).sum := by
  obtain ⟨h1, h2⟩ := List.getElem?_eq_some_iff.mp h
  rw [List.drop_eq_getElem_cons h1, h2, List.sum_cons, show n - (k + 1) + 1 = n - k from by omega]

set_option maxRecDepth 100000 in
set_option maxHeartbeats 600000 in
theorem walk_inn (xs : List Nat) (b off cap : Nat) (w : World) (hl : xs.length ≤ 50) (hlt : ∀ x ∈ xs, x < M256) (hn : Nums w b off xs) (hb : b < w.heap.size) :
    Calls Try.prog 3 #[.slice (some ⟨b, off, none⟩) xs.length cap] w fun e w' => e = .returned (.bool true) ∧ Below w.heap.size w w' := by
  obtain ⟨n, hln⟩ : ∃ n, xs.length = n := ⟨_, rfl⟩
  have HA : Hid (∀ W, Below w.heap.size w W → Calls Try.prog 7 #[.slice (some ⟨b, off, none⟩) n cap] W fun e w' => e = .returned (.tuple #[nv (xs.sum % M256), .bool (decide (M256 ≤ xs.sum))]) ∧ Below W.heap.size W w') := by
    intro W hW
    have h := add_any xs b off cap W (by omega) hlt (fun k x hx => by
      obtain ⟨h0, h1, h2, h3⟩ := hn k x hx
      exact ⟨(hW.cell (p := ⟨b, _, none⟩) hb).trans h0, (hW.cell (p := ⟨b, _, none⟩) hb).trans h1, (hW.cell (p := ⟨b, _, none⟩) hb).trans h2, (hW.cell (p := ⟨b, _, none⟩) hb).trans h3⟩) (.inr (Nat.lt_of_lt_of_le hb hW.size))
    rw [hln] at h
    exact h
  rw [hln]
  rw [hln] at hl
  have HLN := Lib.hid hln
  have HLT := Lib.hid hlt
  have HNN := Lib.hid hn
  clear hln hlt hn
  have n0 : (0 : Int) ≤ (n : Int) := by omega
  have n1 : (n : Int) ≤ 50 := by omega
  go_enter Try.func3, Try.ntmps3
  go_wp2_with fail
  refine (counts_any _).mono ?_
  rintro e w1 ⟨rfl, hb1⟩
  have hW : Below w.heap.size w w1 := by
    first
    | exact hb1
    | exact below_step (Below.refl _ _) (Nat.le_refl _) hb1
    | exact below_step ((Below.refl _ _).alloc (Nat.le_refl _) _) (by simp) hb1
  go_wp2_with fail
  refine (HA.out _ hW).mono ?_
  rintro e w2 ⟨rfl, hb2⟩
  have hW := below_step hW hW.size hb2
  clear hb1 hb2 HA
  have hpM : xs.sum % M256 < M256 := Nat.mod_lt _ M256_pos
  generalize hp : xs.sum % M256 = p at *
  have HP := Lib.hid hp
  clear hp
  generalize ho : decide (M256 ≤ xs.sum) = ov at *
  have HO := Lib.hid ho
  clear ho
  have hwW := hW.size
  go_wp2_with fail
  go_loopw [6, 25] (fun o i wr => ∃ k : Nat, k ≤ n ∧ i = .int .i64 k ∧ (∃ ob : Bool, o = .bool ob ∧ Hid (ob = decide (M256 ≤ (xs.take k).sum))) ∧ Below w.heap.size w wr ∧ Bk wr w2.heap.size 26 (A4 (wd0 p) (wd1 p) (wd2 p) (wd3 p)) ∧
    (∃ q : Nat, Hid (q = (xs.take k).sum % M256) ∧ Bk wr (w2.heap.size + 1) 26 (A4 (wd0 q) (wd1 q) (wd2 q) (wd3 q))) ∧ (∃ r : Nat, Hid (r = (xs.drop (n - k)).sum % M256) ∧ Bk wr (w2.heap.size + 1 + 1) 26 (A4 (wd0 r) (wd1 r) (wd2 r) (wd3 r)))) (fun _ i _ => n - (intOf i).toNat)
  case atStart =>
    refine ⟨0, Nat.zero_le _, rfl, ⟨false, rfl, by have := M256_pos; simp [Hid]; omega⟩, ((hW.alloc (by omega) _).alloc (by simp; omega) _).alloc (by simp; omega) _, ((Bk.new _ _ _).alloc _).alloc _, ⟨0, by simp [Hid], (Bk.new' _ _ _ (by simp)).alloc _⟩, ⟨0, ?_, Bk.new' _ _ _ (by simp)⟩⟩
    have hd : (xs.drop (n - 0)).sum = 0 := by rw [Nat.sub_zero, ← HLN.out, List.drop_length, List.sum_nil]
    show _ = _
    rw [hd, Nat.zero_mod]
  case round =>
    obtain ⟨k, hk, rfl, ⟨ob, rfl, HB⟩, hbe, P, ⟨q, HQ, S⟩, ⟨r, HR, T⟩⟩ := hrel
    have hq : q < M256 := by rw [HQ.out]; exact Nat.mod_lt _ M256_pos
    have hr : r < M256 := by rw [HR.out]; exact Nat.mod_lt _ M256_pos
    obtain ⟨s0, s1, s2, s3, s4, s5, s6, s7, zs⟩ := S.f4
    rcases Nat.lt_or_ge k n with hlt | hge
    · obtain ⟨x, hx⟩ : ∃ x, xs[k]? = some x := ⟨_, List.getElem?_eq_getElem (by rw [HLN.out]; exact hlt)⟩
      obtain ⟨m, hm⟩ : ∃ m, m = n - (k + 1) := ⟨_, rfl⟩
      obtain ⟨y, hy⟩ : ∃ y, xs[m]? = some y := ⟨_, List.getElem?_eq_getElem (by rw [HLN.out]; omega)⟩
      have hxM := HLT.out x (List.mem_of_getElem? hx)
      have hyM := HLT.out y (List.mem_of_getElem? hy)
      obtain ⟨g0, g1, g2, g3⟩ := HNN.out k x hx
      obtain ⟨j0, j1, j2, j3⟩ := HNN.out m y hy
      have hc0 : wr.cell? ⟨b, off + k * 4, none⟩ = _ := (hbe.cell (p := ⟨b, _, none⟩) hb).trans g0
      have hc1 : wr.cell? ⟨b, off + k * 4 + 1, none⟩ = _ := (hbe.cell (p := ⟨b, _, none⟩) hb).trans g1
      have hc2 : wr.cell? ⟨b, off + k * 4 + 2, none⟩ = _ := (hbe.cell (p := ⟨b, _, none⟩) hb).trans g2
      have hc3 : wr.cell? ⟨b, off + k * 4 + 3, none⟩ = _ := (hbe.cell (p := ⟨b, _, none⟩) hb).trans g3
      have J0 := Lib.hid j0
      have J1 := Lib.hid j1
      have J2 := Lib.hid j2
      have J3 := Lib.hid j3
      have hadd := fun W b hn hb => add2g q x W b hq hxM hn hb
      have e1 : (q + x) % M256 = (xs.take (k + 1)).sum % M256 := by rw [HQ.out, Nat.mod_add_mod, take_sum_succ xs k x hx]
      rw [e1] at hadd
      have HA1 := Lib.hid hadd
      have hadd2 := fun W b hn hb => add2g y r W b hyM hr hn hb
      have e2 : (y + r) % M256 = (xs.drop (n - (k + 1))).sum % M256 := by rw [HR.out, Nat.add_mod_mod, drop_step xs n k y HLN.out hlt (by rw [← hm]; exact hy)]
      rw [e2] at hadd2
      have HA2 := Lib.hid hadd2
      have HN : Hid ((ob || decide (M256 ≤ q + x)) = decide (M256 ≤ (xs.take (k + 1)).sum)) := by
        show _ = _
        rw [HB.out, HQ.out, over_step, take_sum_succ xs k x hx]
      clear hadd hadd2 e1 e2 g0 g1 g2 g3 j0 j1 j2 j3 hx hy
      generalize decide (M256 ≤ q + x) = oc at *
      generalize decide (M256 ≤ y + r) = od at *
      generalize hq' : (xs.take (k + 1)).sum % M256 = q' at *
      have HQ' := Lib.hid hq'
      generalize hr' : (xs.drop (n - (k + 1))).sum % M256 = r' at *
      have HR' := Lib.hid hr'
      clear hq' hr'
      have hk1 : k + 1 ≤ n := hlt
      have m0 : (0 : Int) ≤ (m : Int) := by omega
      have m1 : (m : Int) < (n : Int) := by omega
      have k0 : (0 : Int) ≤ (k : Int) := by omega
      have k1 : (k : Int) < (n : Int) := by omega
      have hmz : (n : Int) - 1 - (k : Int) = (m : Int) := by omega
      have hm1 : IntKind.i64.wrap ((n : Int) - 1) = (n : Int) - 1 := by rw [IntKind.wrap_i64]; omega
      have hm2 : IntKind.i64.wrap ((n : Int) - 1 - (k : Int)) = (m : Int) := by rw [IntKind.wrap_i64]; omega
      have hwk : IntKind.i64.wrap ((k : Int) + 1) = (k : Int) + 1 := by rw [IntKind.wrap_i64]; omega
      have hm3 : IntKind.i64.wrap (m : Int) = (m : Int) := by rw [IntKind.wrap_i64]; omega
      have HM := Lib.hid (And.intro hm3 (And.intro hmz (And.intro hm1 (And.intro hm2 hwk))))
      clear hm3 hmz hm1 hm2 hm hwk
      have zP := P.lt
      have zT := T.lt
      go_wp2_with fail
      refine (HA1.out _ _ (nums2' _ _ _ _ (by simp)) (by simp)).mono ?_
      rintro e w5 ⟨rfl, hb5⟩
      have hbe5 := below_step ((hbe.alloc (by omega) _).alloc (by simp; omega) _) (by simp; omega) hb5
      have P := ((P.alloc _).alloc _).keep hb5
      have S := ((S.alloc _).alloc _).keep hb5
      have T := ((T.alloc _).alloc _).keep hb5
      clear hb5 s0 s1 s2 s3 s4 s5 s6 s7 zs HA1 hbe hc0 hc1 hc2 hc3
      obtain ⟨s0, s1, s2, s3, s4, s5, s6, s7, zs⟩ := S.f4
      cases ob
      all_goals go_wp2_with fail
      all_goals
        refine wp_abs (fun W => Below w.heap.size w W ∧ Bk W w2.heap.size 26 (A4 (wd0 p) (wd1 p) (wd2 p) (wd3 p)) ∧ Bk W (w2.heap.size + 1) 26 (A4 (wd0 q') (wd1 q') (wd2 q') (wd3 q')) ∧ Bk W (w2.heap.size + 1 + 1) 26 (A4 (wd0 r) (wd1 r) (wd2 r) (wd3 r)))
          ⟨Below.set4 hbe5 (by omega) _ _ _ _, P.far4 (by omega) _ _ _ _, S.set4 _ _ _ _, T.far4 (by omega) _ _ _ _⟩ ?_
        have nP : w2.heap.size ≠ w2.heap.size + 1 + 1 := by omega
        have nS : w2.heap.size + 1 ≠ w2.heap.size + 1 + 1 := by omega
        have gB : w.heap.size ≤ w2.heap.size + 1 + 1 := by omega
        clear hbe5 P S T s0 s1 s2 s3 s4 s5 s6 s7 zs zP zT
        rintro W ⟨hW9, P, S, T⟩
        have c0 : W.cell? ⟨b, off + m * 4, none⟩ = _ := (hW9.cell (p := ⟨b, _, none⟩) hb).trans J0.out
        have c1 : W.cell? ⟨b, off + m * 4 + 1, none⟩ = _ := (hW9.cell (p := ⟨b, _, none⟩) hb).trans J1.out
        have c2 : W.cell? ⟨b, off + m * 4 + 2, none⟩ = _ := (hW9.cell (p := ⟨b, _, none⟩) hb).trans J2.out
        have c3 : W.cell? ⟨b, off + m * 4 + 3, none⟩ = _ := (hW9.cell (p := ⟨b, _, none⟩) hb).trans J3.out
        obtain ⟨t0, t1, t2, t3, t4, t5, t6, t7, zt⟩ := T.f4
        obtain ⟨hm3, hmz, hm1, hm2, hwk⟩ := HM.out
        go_region_law (first
          | (go_simp; go_at_call 7; refine (HA2.out _ _ (by first | exact nums2 _ _ _ | exact nums2' _ _ _ _ (by simp)) (by simp)).mono ?_; rintro e w6 ⟨rfl, hb6⟩; have hE6 : Below W.heap.size W w6 := below_step (by repeat (first | with_reducible exact Below.refl _ _ | refine Below.drew ?_ | refine Below.alloc ?_ (by simp) _)) (by simp) hb6; have T6 := T.keep hE6; obtain ⟨t0, t1, t2, t3, t4, t5, t6, t7, zt⟩ := T6.f4))
        all_goals
          go_wp2_with fail
          go_roundw
          case rel => exact ⟨k + 1, hk1, by go_num, ⟨_, rfl, HN⟩, Below.set4 (below_step hW9 hW9.size hE6) gB _ _ _ _, (P.keep hE6).far4 nP _ _ _ _, ⟨q', HQ'.out.symm, (S.keep hE6).far4 nS _ _ _ _⟩, ⟨r', HR'.out.symm, T6.set4 _ _ _ _⟩⟩
          case measure =>
            clear hm3 hmz hm1 hm2 hwk
            simp [intOf]; omega
    · have hkn : k = n := by omega
      have hlt : ¬ k < n := by omega
      have e1 : q = p := by rw [HQ.out, hkn, ← HLN.out, List.take_length]; exact HP.out
      have e2 : ob = ov := by rw [HB.out, hkn, ← HLN.out, List.take_length]; exact HO.out
      have e3 : r = p := by rw [HR.out, hkn, Nat.sub_self, List.drop_zero]; exact HP.out
      subst e1
      subst e2
      subst e3
      have he := nv_eql r r hr hr
      simp only [decide_true] at he
      have HK := Lib.hid hkn
      clear hkn hge s0 s1 s2 s3 s4 s5 s6 s7 zs
      obtain ⟨s0, s1, s2, s3, _, _, _, _, zs⟩ := S.f4
      obtain ⟨p0, p1, p2, p3, _, _, _, _, zp⟩ := P.f4
      obtain ⟨t0, t1, t2, t3, _, _, _, _, zt⟩ := T.f4
      go_wp2_with fail
      go_ret
      exact ⟨by simp, hbe⟩
end Go.Proofs.Ytecbecngdbjagab.numMany
