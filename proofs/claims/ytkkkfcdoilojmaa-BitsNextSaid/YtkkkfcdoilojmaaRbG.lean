/-
  Contracts of the document's Sub, of a number of any size; of its Shift, whose slice is the call's own.
-/
import Derived.Test.YtkkkfcdoilojmaaRbE
namespace Go.Proofs.Ytkkkfcdoilojmaa
open Go.RowKit
set_option linter.unusedVariables false

set_option maxRecDepth 100000 in
set_option maxHeartbeats 4000000 in
theorem sub2w_any (u v : Value) (X Y m n : Nat) (w : World) (hx : BX w u X m) (hy : BX w v Y n) (hm : m ≤ 100000) (hn : n ≤ 100000) (hY : Y < M256) :
    Calls Try.prog 39 #[u, v] w fun e w' => ∃ v', e = .returned (.tuple #[v', .bool (decide (X % M256 < Y))]) ∧ BX w' v' ((X % M256 + (M256 - Y)) % M256) 256 ∧ Below w.heap.size w w' := by
  have HX := Lib.hid hx
  have HY := Lib.hid hy
  have HEND : Hid (∀ (o : List Bool) (c : Bool) (k : Nat), k = 256 → o.length = k → valB o + Y % 2 ^ k = X % 2 ^ k + 2 ^ k * c.toNat → valB o = (X % M256 + (M256 - Y)) % M256 ∧ c = decide (X % M256 < Y)) := fun o c k hk hl h => by subst hk; exact sub_end (X % M256) Y o c hl (Nat.mod_lt _ M256_pos) hY (by rw [show X % M256 % 2 ^ 256 = X % 2 ^ 256 from by rw [← M256_pow, Nat.mod_mod]]; exact h)
  generalize (X % M256 + (M256 - Y)) % M256 = Z at *
  clear hY
  obtain ⟨s, c, rfl, hmc⟩ := hx.slice
  obtain ⟨s', c', rfl, hmc'⟩ := hy.slice
  clear hx hy
  go_enter Try.func39, Try.ntmps39
  go_wp2_with fail
  go_loopw [8, 7, 6] (fun i b out wr => ∃ (k : Nat) (c : Bool) (o : List Bool), k ≤ 256 ∧ i = .int .i64 k ∧ b = .bool c ∧ Hid (o.length = k) ∧ Hid (valB o + Y % 2 ^ k = X % 2 ^ k + 2 ^ k * c.toNat) ∧ Hid (Below w.heap.size w wr) ∧ Hid (MineO wr w.heap.size out o)) (fun i _ _ _ => 256 - (intOf i).toNat)
  case atStart => exact ⟨0, false, [], Nat.zero_le _, rfl, rfl, rfl, by show _ = _; simp [valB, Nat.mod_one], Below.refl _ _, .inl ⟨rfl, rfl⟩⟩
  case round =>
    obtain ⟨k, cc, o, hk, rfl, rfl, Hl, He, hWr, Mr⟩ := hrel
    obtain ⟨s5, c5, e5⟩ := Mr.out.slice
    rw [Hl.out] at e5
    subst e5
    by_cases hlt : k < 256
    · have hd : decide ((k : Int) < 256) = true := decide_eq_true (by omega)
      have HA := at_any _ X m (k : Int) wr (HX.out.keep hWr.out)
      have HB := at_any _ Y n (k : Int) wr (HY.out.keep hWr.out)
      rw [atI_nat] at HA HB
      have hn2 := sub_next X Y k o cc Hl.out He.out
      have happ := fun d => appO o d _ w.heap.size wr Mr.out hWr.out.size (by have := Hl.out; omega)
      rw [Hl.out] at happ
      have HAPP := Lib.hid happ
      have hl2 : ∀ d, (o ++ [d]).length = k + 1 := fun d => by rw [List.length_append, Hl.out]; rfl
      have HL2 := Lib.hid hl2
      clear happ hl2
      generalize bit X k = x at *
      generalize bit Y k = y at *
      have HN := Lib.hid hn2
      have HA := Lib.hid HA
      have HB := Lib.hid HB
      obtain ⟨d, hdd⟩ : ∃ d, d = sumb x y cc := ⟨_, rfl⟩
      obtain ⟨r, hr⟩ : ∃ r, r = bor x y cc := ⟨_, rfl⟩
      rw [← hdd, ← hr] at hn2
      have HN := Lib.hid hn2
      clear hn2
      obtain ⟨s6, c6, W6, hrun, M6, B6⟩ := HAPP.out d
      have hW6 := Lib.hid (hWr.out.trans B6)
      have M6 := Lib.hid M6
      have HL3 := Lib.hid (HL2.out d)
      clear HAPP HL2 Mr He
      cases x <;> cases y <;> cases cc <;> cases d <;> cases r
      all_goals try (exact absurd hdd (by decide))
      all_goals try (exact absurd hr (by decide))
      all_goals
        clear hdd hr
        go_wp2_with fail
        refine HA.out.mono ?_
        rintro e w5 ⟨rfl, h5⟩
        subst h5
        go_wp2_with fail
        refine HB.out.mono ?_
        rintro e w6 ⟨rfl, h6⟩
        subst h6
        go_wp2_with (at_builtin; refine wpList_appO (v1 := .slice s5 k c5) (v2 := .slice (some ⟨w6.heap.size, 0, none⟩) 1 1) (v := .slice s6 (k + 1) c6) rfl (.tmp 21) (.tmp 27) rfl rfl rfl rfl hrun ?_)
        go_roundw
        case rel =>
          have hi : Value.int .i64 ((k : Int) + 1) = .int .i64 ((k + 1 : Nat) : Int) := by go_num
          first | exact ⟨k + 1, _, _, by omega, hi, rfl, HL3, HN, hW6, M6⟩ | ((repeat apply Exists.intro); exact ⟨⟨k + 1, _, _, by omega, hi, rfl, HL3, HN, hW6, M6⟩, rfl⟩)
        case measure => simp [intOf] <;> omega
    · have hkm : k = 256 := by omega
      have hd : decide ((k : Int) < 256) = false := decide_eq_false (by omega)
      have HKM := Lib.hid hkm
      clear hlt hkm
      go_wp2_with fail
      obtain ⟨e1, e2⟩ := HEND.out o cc k HKM.out Hl.out He.out
      have h := Mr.out.bx
      rw [Hl.out, e1] at h
      rw [← e2]
      refine bodyPost_ret (results_tmp2 rfl _ _ _) rfl ⟨_, rfl, ?_, hWr.out⟩
      have h2 : BX wr (.slice s5 k c5) Z 256 := by
        have hk2 := HKM.out
        rw [hk2] at h ⊢
        exact h
      exact h2
set_option maxRecDepth 100000 in
set_option maxHeartbeats 2000000 in
theorem shiftM_any (v : Value) (X m : Nat) (n : Int) (w : World) (h : BX w v X m) (hm : m ≤ 100000) (h0 : -100000 ≤ n) (h1 : n ≤ 100000) :
    Calls Try.prog 36 #[v, .int .i64 n] w fun e w' => ∃ v', e = .returned v' ∧ MineO w' w.heap.size v' (bitL (shN X n) ((m : Int) + n).toNat) ∧ Below w.heap.size w w' := by
  have HB := Lib.hid h
  obtain ⟨s, c, rfl, hmc⟩ := h.slice
  have HL := Lib.hid (shN_lt X m n h.lt)
  have HBI := Lib.hid (fun k => shN_bit X k n)
  generalize shN X n = Y at *
  obtain ⟨M, hM⟩ : ∃ M, M = ((m : Int) + n).toNat := ⟨_, rfl⟩
  rw [← hM] at HL ⊢
  have HMM := Lib.hid hM
  have hMl : M ≤ 200000 := by omega
  have q0 : IntKind.i64.wrap ((m : Int) + n) = (m : Int) + n := IntWalk.i64_in _ (by omega)
  clear h hM
  go_enter Try.func36, Try.ntmps36
  go_wp2_with fail
  go_loopw [6, 5] (fun i out wr => ∃ k : Nat, k ≤ M ∧ i = .int .i64 k ∧ Hid (Below w.heap.size w wr) ∧ Hid (MineO wr w.heap.size out (bitL Y k))) (fun i _ _ => M - (intOf i).toNat)
  case atStart => exact ⟨0, Nat.zero_le _, rfl, Below.refl _ _, .inl ⟨rfl, rfl⟩⟩
  case round =>
    obtain ⟨k, hk, rfl, hWr, Mr⟩ := hrel
    obtain ⟨s5, c5, e5⟩ := Mr.out.slice
    rw [bitL_length] at e5
    subst e5
    by_cases hlt : k < M
    · have hd : decide ((k : Int) < (m : Int) + n) = true := decide_eq_true (by have := HMM.out; omega)
      have q1 : IntKind.i64.wrap ((k : Int) - n) = (k : Int) - n := IntWalk.i64_in _ (by omega)
      have HAT := Lib.hid (at_any _ X m ((k : Int) - n) wr (HB.out.keep hWr.out))
      have hbi := HBI.out k
      obtain ⟨s6, c6, W6, hrun, M6, B6⟩ := appO _ (bit Y k) _ w.heap.size wr Mr.out hWr.out.size (by rw [bitL_length]; omega)
      rw [bitL_length] at hrun M6
      rw [← bitL_succ] at M6
      have hW6 := Lib.hid (hWr.out.trans B6)
      have M6 := Lib.hid M6
      have HAT : Hid (Calls Try.prog 47 #[.slice s m c, .int .i64 ((k : Int) - n)] wr fun e w' => e = .returned (.bool (bit Y k)) ∧ w' = wr) := by rw [← hbi]; exact HAT
      generalize bit Y k = β at *
      clear hbi Mr
      go_wp2_with fail
      refine HAT.out.mono ?_
      rintro e w5 ⟨rfl, h5⟩
      subst h5
      go_wp2_with (at_builtin; refine wpList_appO (v1 := .slice s5 k c5) (v2 := .slice (some ⟨w5.heap.size, 0, none⟩) 1 1) (v := .slice s6 (k + 1) c6) rfl (.tmp 15) (.tmp 21) rfl rfl rfl rfl hrun ?_)
      go_roundw
      case rel =>
        have hi : Value.int .i64 ((k : Int) + 1) = .int .i64 ((k + 1 : Nat) : Int) := by go_num
        first | exact ⟨k + 1, by omega, hi, hW6, M6⟩ | ((repeat apply Exists.intro); exact ⟨⟨k + 1, by omega, hi, hW6, M6⟩, rfl⟩)
      case measure => simp [intOf] <;> omega
    · have hkm : k = M := by omega
      have hd : decide ((k : Int) < (m : Int) + n) = false := decide_eq_false (by have := HMM.out; omega)
      have HK := Lib.hid hkm
      clear hlt hkm
      go_wp2_with fail
      go_ret
      refine ⟨_, rfl, ?_, hWr.out⟩
      have h := Mr.out
      rw [HK.out] at h
      rw [← HK.out] at h ⊢
      exact h
end Go.Proofs.Ytkkkfcdoilojmaa
