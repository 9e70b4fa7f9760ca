/-
  Contracts of the document's Sub, Add.
-/
import Derived.Test.YtkkkfcdoilojmaaRbD
namespace Go.Proofs.Ytkkkfcdoilojmaa
open Go.RowKit
set_option linter.unusedVariables false

def bor (x y c : Bool) : Bool := (!x && (y || c)) || (y && c)
def car (x y c : Bool) : Bool := (x && y) || (c && (x || y))
def sumb (x y c : Bool) : Bool := (x != y) != c
theorem sub_arith (vo Ym Xm P : Nat) (x y c : Bool) (h : vo + Ym = Xm + P * c.toNat) : vo + P * (sumb x y c).toNat + (Ym + P * y.toNat) = Xm + P * x.toNat + P * 2 * (bor x y c).toNat := by
  unfold sumb bor
  cases x <;> cases y <;> cases c <;> simp at * <;> omega
theorem add_arith (vo Ym Xm P : Nat) (x y c : Bool) (h : vo + P * c.toNat = Xm + Ym) : vo + P * (sumb x y c).toNat + P * 2 * (car x y c).toNat = Xm + P * x.toNat + (Ym + P * y.toNat) := by
  unfold sumb car
  cases x <;> cases y <;> cases c <;> simp at * <;> omega
theorem mod_next (X k : Nat) : X % 2 ^ (k + 1) = X % 2 ^ k + 2 ^ k * (bit X k).toNat := by
  rw [bit_toNat, Nat.pow_succ, Nat.mod_mul]
theorem valB_last (o : List Bool) (d : Bool) (k : Nat) (h : o.length = k) : valB (o ++ [d]) = valB o + 2 ^ k * d.toNat := by
  rw [valB_append, h]
  simp [valB]
theorem sub_next (X Y k : Nat) (o : List Bool) (c : Bool) (hl : o.length = k) (h : valB o + Y % 2 ^ k = X % 2 ^ k + 2 ^ k * c.toNat) :
    valB (o ++ [sumb (bit X k) (bit Y k) c]) + Y % 2 ^ (k + 1) = X % 2 ^ (k + 1) + 2 ^ (k + 1) * (bor (bit X k) (bit Y k) c).toNat := by
  rw [valB_last o _ k hl, mod_next, mod_next, Nat.pow_succ]
  exact sub_arith _ _ _ _ _ _ _ h
theorem add_next (X Y k : Nat) (o : List Bool) (c : Bool) (hl : o.length = k) (h : valB o + 2 ^ k * c.toNat = X % 2 ^ k + Y % 2 ^ k) :
    valB (o ++ [sumb (bit X k) (bit Y k) c]) + 2 ^ (k + 1) * (car (bit X k) (bit Y k) c).toNat = X % 2 ^ (k + 1) + Y % 2 ^ (k + 1) := by
  rw [valB_last o _ k hl, mod_next, mod_next, Nat.pow_succ]
  exact add_arith _ _ _ _ _ _ _ h
theorem sub_end (X Y : Nat) (o : List Bool) (c : Bool) (hl : o.length = 256) (hX : X < M256) (hY : Y < M256) (h : valB o + Y % 2 ^ 256 = X % 2 ^ 256 + 2 ^ 256 * c.toNat) :
    valB o = (X + (M256 - Y)) % M256 ∧ c = decide (X < Y) := by
  have ho := valB_lt o
  rw [hl, ← M256_pow] at ho
  rw [← M256_pow, Nat.mod_eq_of_lt hX, Nat.mod_eq_of_lt hY] at h
  cases c
  · have h : valB o + Y = X := by simpa using h
    refine ⟨?_, by rw [decide_eq_false (by omega)]⟩
    rw [show X + (M256 - Y) = valB o + M256 by omega, Nat.add_mod_right, Nat.mod_eq_of_lt ho]
  · have h : valB o + Y = X + M256 := by simpa using h
    refine ⟨?_, by rw [decide_eq_true (by omega)]⟩
    rw [show X + (M256 - Y) = valB o by omega, Nat.mod_eq_of_lt ho]
theorem add_end (X Y P : Nat) (o : List Bool) (c : Bool) (hl : o.length = P + 1) (hX : X < 2 ^ P) (hY : Y < 2 ^ P) (h : valB o + 2 ^ (P + 1) * c.toNat = X % 2 ^ (P + 1) + Y % 2 ^ (P + 1)) : valB o = X + Y := by
  have hp : 2 ^ (P + 1) = 2 ^ P * 2 := Nat.pow_succ 2 P
  rw [Nat.mod_eq_of_lt (by omega), Nat.mod_eq_of_lt (by omega)] at h
  cases c
  · simpa using h
  · simp at h
    omega
set_option maxRecDepth 100000 in
set_option maxHeartbeats 4000000 in
theorem sub2_any (u v : Value) (X Y m n : Nat) (w : World) (hx : BX w u X m) (hy : BX w v Y n) (hm : m ≤ 100000) (hn : n ≤ 100000) (hX : X < M256) (hY : Y < M256) :
    Calls Try.prog 39 #[u, v] w fun e w' => ∃ v', e = .returned (.tuple #[v', .bool (decide (X < Y))]) ∧ BX w' v' ((X + (M256 - Y)) % M256) 256 ∧ Below w.heap.size w w' := by
  have HX := Lib.hid hx
  have HY := Lib.hid hy
  have HEND : Hid (∀ (o : List Bool) (c : Bool) (k : Nat), k = 256 → o.length = k → valB o + Y % 2 ^ k = X % 2 ^ k + 2 ^ k * c.toNat → valB o = (X + (M256 - Y)) % M256 ∧ c = decide (X < Y)) := fun o c k hk hl h => by subst hk; exact sub_end X Y o c hl hX hY h
  generalize (X + (M256 - Y)) % M256 = Z at *
  clear hX hY
  obtain ⟨s, c, rfl, hmc⟩ := hx.slice
  obtain ⟨s', c', rfl, hmc'⟩ := hy.slice
  clear hx hy
  go_enter Try.func39, Try.ntmps39
  go_wp2_with fail
  go_loopw [8, 7, 6] (fun i b out wr => ∃ (k : Nat) (c : Bool) (o : List Bool), k ≤ 256 ∧ i = .int .i64 k ∧ b = .bool c ∧ Hid (o.length = k) ∧ Hid (valB o + Y % 2 ^ k = X % 2 ^ k + 2 ^ k * c.toNat) ∧ Hid (Below w.heap.size w wr) ∧ Hid (MineO wr w.heap.size out o)) (fun i _ _ _ => 256 - (intOf i).toNat)
  case atStart => exact ⟨0, false, [], Nat.zero_le _, rfl, rfl, rfl, by show _ = _; simp [valB, Nat.mod_one], Below.refl _ _, .inl ⟨rfl, rfl⟩⟩
  case round =>
    obtain ⟨k, cc, o, hk, rfl, rfl, Hl, He, hWr, Mr⟩ := hrel
    obtain ⟨s5, c5, e5⟩ := Mr.out.slice
    rw [Hl.out] at e5
    subst e5
    by_cases hlt : k < 256
    · have hd : decide ((k : Int) < 256) = true := decide_eq_true (by omega)
      have HA := at_any _ X m (k : Int) wr (HX.out.keep hWr.out)
      have HB := at_any _ Y n (k : Int) wr (HY.out.keep hWr.out)
      rw [atI_nat] at HA HB
      have hn2 := sub_next X Y k o cc Hl.out He.out
      have happ := fun d => appO o d _ w.heap.size wr Mr.out hWr.out.size (by have := Hl.out; omega)
      rw [Hl.out] at happ
      have HAPP := Lib.hid happ
      have hl2 : ∀ d, (o ++ [d]).length = k + 1 := fun d => by rw [List.length_append, Hl.out]; rfl
      have HL2 := Lib.hid hl2
      clear happ hl2
      generalize bit X k = x at *
      generalize bit Y k = y at *
      have HN := Lib.hid hn2
      have HA := Lib.hid HA
      have HB := Lib.hid HB
      obtain ⟨d, hdd⟩ : ∃ d, d = sumb x y cc := ⟨_, rfl⟩
      obtain ⟨r, hr⟩ : ∃ r, r = bor x y cc := ⟨_, rfl⟩
      rw [← hdd, ← hr] at hn2
      have HN := Lib.hid hn2
      clear hn2
      obtain ⟨s6, c6, W6, hrun, M6, B6⟩ := HAPP.out d
      have hW6 := Lib.hid (hWr.out.trans B6)
      have M6 := Lib.hid M6
      have HL3 := Lib.hid (HL2.out d)
      clear HAPP HL2 Mr He
      cases x <;> cases y <;> cases cc <;> cases d <;> cases r
      all_goals try (exact absurd hdd (by decide))
      all_goals try (exact absurd hr (by decide))
      all_goals
        clear hdd hr
        go_wp2_with fail
        refine HA.out.mono ?_
        rintro e w5 ⟨rfl, h5⟩
        subst h5
        go_wp2_with fail
        refine HB.out.mono ?_
        rintro e w6 ⟨rfl, h6⟩
        subst h6
        go_wp2_with (at_builtin; refine wpList_appO (v1 := .slice s5 k c5) (v2 := .slice (some ⟨w6.heap.size, 0, none⟩) 1 1) (v := .slice s6 (k + 1) c6) rfl (.tmp 21) (.tmp 27) rfl rfl rfl rfl hrun ?_)
        go_roundw
        case rel =>
          have hi : Value.int .i64 ((k : Int) + 1) = .int .i64 ((k + 1 : Nat) : Int) := by go_num
          first | exact ⟨k + 1, _, _, by omega, hi, rfl, HL3, HN, hW6, M6⟩ | ((repeat apply Exists.intro); exact ⟨⟨k + 1, _, _, by omega, hi, rfl, HL3, HN, hW6, M6⟩, rfl⟩)
        case measure => simp [intOf] <;> omega
    · have hkm : k = 256 := by omega
      have hd : decide ((k : Int) < 256) = false := decide_eq_false (by omega)
      have HKM := Lib.hid hkm
      clear hlt hkm
      go_wp2_with fail
      obtain ⟨e1, e2⟩ := HEND.out o cc k HKM.out Hl.out He.out
      have h := Mr.out.bx
      rw [Hl.out, e1] at h
      rw [← e2]
      refine bodyPost_ret (results_tmp2 rfl _ _ _) rfl ⟨_, rfl, ?_, hWr.out⟩
      have h2 : BX wr (.slice s5 k c5) Z 256 := by
        have hk2 := HKM.out
        rw [hk2] at h ⊢
        exact h
      exact h2
set_option maxRecDepth 100000 in
set_option maxHeartbeats 4000000 in
theorem add2_any (u v : Value) (X Y m n : Nat) (w : World) (hx : BX w u X m) (hy : BX w v Y n) (hm : m ≤ 100000) (hn : n ≤ 100000) :
    Calls Try.prog 35 #[u, v] w fun e w' => ∃ v', e = .returned v' ∧ BX w' v' (X + Y) (max m n + 1) ∧ Below w.heap.size w w' := by
  have HX := Lib.hid hx
  have HY := Lib.hid hy
  have HEND : Hid (∀ (o : List Bool) (c : Bool) (k : Nat), k = max m n + 1 → o.length = k → valB o + 2 ^ k * c.toNat = X % 2 ^ k + Y % 2 ^ k → valB o = X + Y) := fun o c k hk hl h => by
    subst hk
    exact add_end X Y (max m n) o c hl (Nat.lt_of_lt_of_le hx.lt (Nat.pow_le_pow_right (by omega) (Nat.le_max_left _ _))) (Nat.lt_of_lt_of_le hy.lt (Nat.pow_le_pow_right (by omega) (Nat.le_max_right _ _))) h
  have q0 : IntKind.i64.wrap (max (m : Int) (n : Int) + 1) = max (m : Int) (n : Int) + 1 := IntWalk.i64_in _ (by omega)
  obtain ⟨K, hK⟩ : ∃ K, K = max m n + 1 := ⟨_, rfl⟩
  rw [← hK]
  have HK := Lib.hid hK
  have hKl : K ≤ 100001 := by omega
  clear hK
  obtain ⟨s, c, rfl, hmc⟩ := hx.slice
  obtain ⟨s', c', rfl, hmc'⟩ := hy.slice
  clear hx hy
  go_enter Try.func35, Try.ntmps35
  go_wp2_with fail
  go_loopw [8, 7, 6] (fun i b out wr => ∃ (k : Nat) (c : Bool) (o : List Bool), k ≤ K ∧ i = .int .i64 k ∧ b = .bool c ∧ Hid (o.length = k) ∧ Hid (valB o + 2 ^ k * c.toNat = X % 2 ^ k + Y % 2 ^ k) ∧ Hid (Below w.heap.size w wr) ∧ Hid (MineO wr w.heap.size out o)) (fun i _ _ _ => K - (intOf i).toNat)
  case atStart => exact ⟨0, false, [], Nat.zero_le _, rfl, rfl, rfl, by show _ = _; simp [valB, Nat.mod_one], Below.refl _ _, .inl ⟨rfl, rfl⟩⟩
  case round =>
    obtain ⟨k, cc, o, hk, rfl, rfl, Hl, He, hWr, Mr⟩ := hrel
    obtain ⟨s5, c5, e5⟩ := Mr.out.slice
    rw [Hl.out] at e5
    subst e5
    by_cases hlt : k < K
    · have hd : decide ((k : Int) < max (m : Int) (n : Int) + 1) = true := decide_eq_true (by have := HK.out; omega)
      have HA := at_any _ X m (k : Int) wr (HX.out.keep hWr.out)
      have HB := at_any _ Y n (k : Int) wr (HY.out.keep hWr.out)
      rw [atI_nat] at HA HB
      have hn2 := add_next X Y k o cc Hl.out He.out
      have happ := fun d => appO o d _ w.heap.size wr Mr.out hWr.out.size (by have := Hl.out; have := HK.out; omega)
      rw [Hl.out] at happ
      have HAPP := Lib.hid happ
      have hl2 : ∀ d, (o ++ [d]).length = k + 1 := fun d => by rw [List.length_append, Hl.out]; rfl
      have HL2 := Lib.hid hl2
      clear happ hl2
      generalize bit X k = x at *
      generalize bit Y k = y at *
      have HN := Lib.hid hn2
      have HA := Lib.hid HA
      have HB := Lib.hid HB
      obtain ⟨d, hdd⟩ : ∃ d, d = sumb x y cc := ⟨_, rfl⟩
      obtain ⟨r, hr⟩ : ∃ r, r = car x y cc := ⟨_, rfl⟩
      rw [← hdd, ← hr] at hn2
      have HN := Lib.hid hn2
      clear hn2
      obtain ⟨s6, c6, W6, hrun, M6, B6⟩ := HAPP.out d
      have hW6 := Lib.hid (hWr.out.trans B6)
      have M6 := Lib.hid M6
      have HL3 := Lib.hid (HL2.out d)
      clear HAPP HL2 Mr He
      cases x <;> cases y <;> cases cc <;> cases d <;> cases r
      all_goals try (exact absurd hdd (by decide))
      all_goals try (exact absurd hr (by decide))
      all_goals
        clear hdd hr
        go_wp2_with fail
        refine HA.out.mono ?_
        rintro e w5 ⟨rfl, h5⟩
        subst h5
        go_wp2_with fail
        refine HB.out.mono ?_
        rintro e w6 ⟨rfl, h6⟩
        subst h6
        go_wp2_with (at_builtin; refine wpList_appO (v1 := .slice s5 k c5) (v2 := .slice (some ⟨w6.heap.size, 0, none⟩) 1 1) (v := .slice s6 (k + 1) c6) rfl (.tmp 28) (.tmp 34) rfl rfl rfl rfl hrun ?_)
        go_roundw
        case rel =>
          have hi : Value.int .i64 ((k : Int) + 1) = .int .i64 ((k + 1 : Nat) : Int) := by go_num
          first | exact ⟨k + 1, _, _, by omega, hi, rfl, HL3, HN, hW6, M6⟩ | ((repeat apply Exists.intro); exact ⟨⟨k + 1, _, _, by omega, hi, rfl, HL3, HN, hW6, M6⟩, rfl⟩)
        case measure => simp [intOf] <;> omega
    · have hkm : k = K := by omega
      have hd : decide ((k : Int) < max (m : Int) (n : Int) + 1) = false := decide_eq_false (by have := HK.out; omega)
      have HKM := Lib.hid hkm
      clear hlt hkm
      go_wp2_with fail
      have e1 := HEND.out o cc k (HKM.out.trans HK.out) Hl.out He.out
      have h := Mr.out.bx
      rw [Hl.out, e1] at h
      go_ret
      refine ⟨_, rfl, ?_, hWr.out⟩
      have h2 : BX wr (.slice s5 k c5) (X + Y) K := by
        have hk2 := HKM.out
        rw [hk2] at h ⊢
        exact h
      exact h2
end Go.Proofs.Ytkkkfcdoilojmaa
