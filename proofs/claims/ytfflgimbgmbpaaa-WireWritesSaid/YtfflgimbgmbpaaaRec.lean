/-
  Contracts of package wire's Reader: Num.
-/
import Derived.Test.YtfflgimbgmbpaaaReb
namespace Go.Proofs.Ytfflgimbgmbpaaa
open Go.RowKit
set_option linter.unusedVariables false

theorem take_any (p : Nat) (n : Int) (v : Value) (s : St) (w : World) (hR : RdS w p v s) (hok : StOk s) :
    Calls Try.prog 24 #[.pointer (some ⟨p, 0, none⟩), .int .i64 n] w fun r w' => ∃ u, r = .returned u ∧ BsN w' (fun k => k = p) u (rdTake s n).1 ∧ ∃ v', Took p v (rdTake s n).2 w w' v' := by
  by_cases h : 0 ≤ n ∧ n ≤ s.1.length
  · obtain ⟨k, rfl⟩ : ∃ k : Nat, n = (k : Int) := ⟨n.toNat, by omega⟩
    have e : rdTake s (k : Int) = (s.1.take k, (s.1.drop k, s.2)) := by
      unfold rdTake
      rw [if_pos h]
      rfl
    rw [e]
    exact take_good p k v s w hR (by omega) hok.1
  · have e : rdTake s n = ([], rdFail s 6) := by
      unfold rdTake
      rw [if_neg h]
    rw [e]
    refine (take_bad p n v s w hR (by omega)).mono ?_
    rintro r w' ⟨rfl, h⟩
    exact ⟨_, rfl, bsn_nil _ _ none 0 (by omega), _, h⟩
theorem rdTake_lt {w : World} {p : Nat} {v : Value} {s : St} (hR : RdS w p v s) (n : Int) : ∀ x ∈ (rdTake s n).1, x < 256 := by
  obtain ⟨_, ⟨_, _, _, _, _, h, _⟩, _⟩ := hR
  unfold rdTake
  split
  · exact fun x hx => h x (List.mem_of_mem_take hx)
  · intro x hx
    cases hx
theorem rdTake_len (s : St) (n : Int) : (rdTake s n).1.length ≤ s.1.length := by
  unfold rdTake
  split
  · rw [List.length_take]; omega
  · exact Nat.zero_le _
/-- One byte more of a number. -/
theorem num_step (ys : List Nat) (k : Nat) (hk : k < ys.length) (hl : ys.length ≤ 1000000) (hx : ∀ x ∈ ys, x < 256) :
    bits BinOp.or IntKind.u64 ((ofL ((ys.take k).take 8) : Nat) : Int) (IntKind.u64.wrap (((nth ys k : Nat) : Int) * 2 ^ min (8 * k) 64)) = ((ofL ((ys.take (k + 1)).take 8) : Nat) : Int) := by
  have hy : nth ys k < 256 := by
    unfold nth
    rw [List.getD, List.getElem?_eq_getElem hk]
    exact hx _ (List.getElem_mem _)
  have hB : ∀ j, j ≤ 8 → ofL ((ys.take k).take j) < B64 := by
    intro j hj
    have h := ofL_lt ((ys.take k).take j) (fun x h => hx x (List.mem_of_mem_take (List.mem_of_mem_take h)))
    refine Nat.lt_of_lt_of_le h ?_
    rw [B64_pow', show (2 : Nat) ^ 64 = 256 ^ 8 by decide]
    exact Nat.pow_le_pow_right (by omega) (by rw [List.length_take, List.length_take]; omega)
  by_cases h8 : k < 8
  · have e1 : (ys.take k).take 8 = ys.take k := List.take_of_length_le (by rw [List.length_take]; omega)
    have e2 : (ys.take (k + 1)).take 8 = ys.take (k + 1) := List.take_of_length_le (by rw [List.length_take]; omega)
    have h1 := hB 8 (Nat.le_refl _)
    rw [e1] at h1
    rw [e1, e2, ofL_take_succ ys k hk]
    have hlt : ofL (ys.take k) < 256 ^ k := by
      have h := ofL_lt (ys.take k) (fun x h => hx x (List.mem_of_mem_take h))
      rwa [List.length_take, Nat.min_eq_left (by omega)] at h
    have hp : 256 ^ k * nth ys k < B64 := by
      rw [B64_pow', show (2 : Nat) ^ 64 = 256 ^ 7 * 256 by decide]
      have h1 : 256 ^ k ≤ 256 ^ 7 := Nat.pow_le_pow_right (by omega) (by omega)
      exact Nat.lt_of_le_of_lt (Nat.mul_le_mul_right _ h1) (Nat.mul_lt_mul_of_pos_left hy (by decide))
    have e3 : IntKind.u64.wrap (((nth ys k : Nat) : Int) * 2 ^ min (8 * k) 64) = ((256 ^ k * nth ys k : Nat) : Int) := by
      rw [Nat.min_eq_left (by omega)]
      have e : (((nth ys k : Nat) : Int) * 2 ^ (8 * k)) = ((256 ^ k * nth ys k : Nat) : Int) := by
        rw [pow256]
        push_cast
        rw [Int.mul_comm]
      rw [e, IntKind.wrap_u64]
      rw [B64_pow'] at hp
      omega
    rw [e3, or64 _ _ h1 hp]
    congr 1
    rw [Nat.or_comm, or_join (8 * k) (256 ^ k * nth ys k) (ofL (ys.take k)) (by rw [pow256]; exact Nat.mul_mod_right _ _) (by rw [← pow256]; exact hlt), Nat.add_comm]
    rfl
  · have e1 : (ys.take (k + 1)).take 8 = (ys.take k).take 8 := by
      rw [List.take_take, List.take_take, Nat.min_eq_left (by omega), Nat.min_eq_left (by omega)]
    have e3 : IntKind.u64.wrap (((nth ys k : Nat) : Int) * 2 ^ min (8 * k) 64) = ((0 : Nat) : Int) := by
      rw [Nat.min_eq_right (by omega), show (2 : Int) ^ 64 = 18446744073709551616 by decide, IntKind.wrap_u64]
      omega
    rw [e3, or64 _ _ (hB 8 (Nat.le_refl _)) (by decide), e1, Nat.or_zero]
set_option maxRecDepth 100000 in
set_option maxHeartbeats 1000000 in
theorem num_any (p : Nat) (n : Int) (v : Value) (s : St) (w : World) (hR : RdS w p v s) (hok : StOk s) :
    Calls Try.prog 16 #[.pointer (some ⟨p, 0, none⟩), .int .i64 n] w fun r w' => r = .returned (.int .u64 ((rdNum s n).1 : Nat)) ∧ ∃ v', Took p v (rdNum s n).2 w w' v' := by
  have HT := Lib.hid (take_any p n v s w hR hok)
  have HX := Lib.hid (rdTake_lt hR n)
  have HLn := Lib.hid (show (rdTake s n).1.length ≤ 1000000 from Nat.le_trans (rdTake_len s n) hok.1)
  have HE := Lib.hid (show rdNum s n = (ofL ((rdTake s n).1.take 8), (rdTake s n).2) from rfl)
  generalize (rdTake s n).1 = ys at *
  generalize (rdTake s n).2 = t at *
  clear hR hok
  rw [HE.out]
  obtain ⟨A0, hA0⟩ : ∃ A0, A0 = ofL (ys.take 8) := ⟨_, rfl⟩
  show Calls _ _ _ _ fun r w' => r = .returned (.int .u64 ((ofL (ys.take 8) : Nat) : Int)) ∧ ∃ v', Took p v t w w' v'
  rw [← hA0]
  have HA0 := Lib.hid hA0
  clear hA0
  go_enter Try.func16, Try.ntmps16
  go_wp2_with fail
  refine HT.out.mono ?_
  rintro r w1 ⟨u, rfl, hu, v', hT⟩
  have HTT := Lib.hid hT
  obtain ⟨su, cu, rfl, h1, h2, h3, h4⟩ := hu
  have H4 := Lib.hid h4
  generalize hm : ys.length = m at *
  have HM := Lib.hid hm
  clear hT h3 h4 hm
  have hm6 : m ≤ 1000000 := HLn.out
  go_wp2_with fail
  go_loopw [12, 5] (fun i a wr => ∃ k : Nat, k ≤ m ∧ i = .int .i64 k ∧ a = .int .u64 ((ofL ((ys.take k).take 8) : Nat) : Int) ∧ wr = w1) (fun i _ _ => m - (intOf i).toNat)
  case atStart => exact ⟨0, Nat.zero_le _, rfl, rfl, rfl⟩
  case round =>
    obtain ⟨k, hk, rfl, rfl, rfl⟩ := hrel
    by_cases hlt : k < m
    · obtain ⟨b, o, rfl, hb, _, hc⟩ := H4.out (by intro e; have := HM.out; rw [e] at this; simp at this; omega)
      have c0 := hc k hlt
      have HS := num_step ys k (by rw [HM.out]; exact hlt) (by rw [HM.out]; exact hm6) HX.out
      have hy : nth ys k < 256 := by
        have h := HX.out
        unfold nth
        rw [List.getD, List.getElem?_eq_getElem (by rw [HM.out]; exact hlt)]
        exact h _ (List.getElem_mem _)
      generalize ofL ((ys.take k).take 8) = A at *
      have HS := Lib.hid HS
      generalize nth ys k = y at *
      have q0 : IntKind.i64.wrap (8 * (k : Int)) = 8 * (k : Int) := IntWalk.i64_in _ (by omega)
      have q1 : IntKind.u64.wrap (y : Int) = (y : Int) := by rw [IntKind.wrap_u64]; omega
      have n0 : (8 * (k : Int)).toNat = 8 * k := by omega
      have j0 : (0 : Int) ≤ 8 * (k : Int) := by omega
      clear hc hy
      go_wp2_with fail
      go_roundw
      case rel =>
        first | exact ⟨k + 1, by omega, by go_num, rfl, trivial⟩ | exact ⟨k + 1, by omega, by go_num, congrArg (Value.int .u64) HS.out, trivial⟩
      case measure => simp [intOf]; omega
    · have hkm : k = m := by omega
      have hdk : decide (k < m) = false := decide_eq_false (by omega)
      have e1 : ys.take k = ys := List.take_of_length_le (by have := HM.out; omega)
      rw [e1, ← HA0.out]
      clear hlt hkm e1
      go_wp2_with fail
      go_ret
      exact ⟨rfl, v', HTT.out⟩
end Go.Proofs.Ytfflgimbgmbpaaa
