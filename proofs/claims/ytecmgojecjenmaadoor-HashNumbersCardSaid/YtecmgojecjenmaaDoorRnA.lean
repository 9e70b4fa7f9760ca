/-
  The document's prime and digits (package of the numbers of the hash): what they answer, step by step.
-/
import Derived.Test.YtecmgojecjenmaaDoorRow
import Derived.Test.YtecmgojecjenmaaDoorHashZ
namespace Go.Proofs.YtecmgojecjenmaaDoor
open Go.RowKit
set_option linter.unusedVariables false

def ddR : RowT Nat := ⟨46, 61, 1, 8, fun x => [.int .u64 (x : Int)], 0⟩
theorem dd_facts : (Tryd.prog.info? 46).map (fun i => (i.zero, i.size, i.bytes)) = some (some (.int .u64 0), 1, 8) := by kernel_rfl
theorem ddR_ok : ddR.Ok where
  ht := Tryd.underlying61
  info := by
    have h := dd_facts
    show ∃ i v, Tryd.prog.info? 46 = some i ∧ _
    revert h
    cases Tryd.prog.info? 46 with
    | none => intro h; cases h
    | some i =>
      intro h
      have h' : (i.zero, i.size, i.bytes) = (some (Value.int .u64 0), 1, 8) := Option.some.inj h
      simp only [Prod.mk.injEq] at h'
      exact ⟨i, _, rfl, h'.1, h'.2.1, h'.2.2, by kernel_rfl⟩
  len := fun _ => rfl
  one := fun x v hv => by simp only [ddR, List.mem_singleton] at hv; subst hv; rfl
  pos := by decide
  bys := by decide
/-- An append whose outcome is known, in a plain region. -/
theorem wpList_appD {ops : Array Oper} {rest : List Oper} {o : Oper} {a : Act} {w W : World} {Q : Exit → Act → World → Prop} {v1 v2 v : Value} (t : TypeId) (hg : o.guard = none) (s x : Operand)
    (hop : o.op = Op.call { callee := Callee.builtin Builtin.append, args := #[s, x], argTypes := #[t, t] }) (hty : o.type = t) (hs : a.eval s = v1) (hx : a.eval x = v2)
    (hrun : (Builtin.append_ #[t, t] t #[v1, v2]).run Tryd.prog w = .ok v W) (hK : wpList Tryd.prog ops Q rest (a.put o.dst v) W) : wpList Tryd.prog ops Q (o :: rest) a w := by
  refine wpList_plain hg fun K hK' => ?_
  unfold Oper.wp
  simp [execOp, hop, resolve, invoke, builtin, hs, hx, hty, hrun, Result.andThen]
  exact hK' _ _ hK
/-- A number onto a slice of the call's own. -/
theorem appD1 (xs : List Nat) (x : Nat) (v : Value) (lo : Nat) (w : World) (hm : MineR ddR w lo v xs) (hlo : lo ≤ w.heap.size) (hlt : xs.length ≤ 1000) :
    ∃ v' W, (Builtin.append_ #[61, 61] 61 #[v, .slice (some ⟨w.heap.size, 0, none⟩) 1 1]).run Tryd.prog (w.alloc (.cells #[.int .u64 (x : Int)] 46)) = .ok v' W ∧ MineR ddR W lo v' (xs ++ [x]) ∧ Below lo w W := by
  have hu : RowV ddR (w.alloc (.cells #[.int .u64 (x : Int)] 46)) (w.alloc (.cells #[.int .u64 (x : Int)] 46)).heap.size (.slice (some ⟨w.heap.size, 0, none⟩) 1 1) [x] := row_built ddR_ok (t := 46) (Bk.new w 46 #[.int .u64 (x : Int)]) rfl (by omega)
  obtain ⟨v', W, h1, h2, h3, h4⟩ := appR ddR_ok xs [x] v (.slice (some ⟨w.heap.size, 0, none⟩) 1 1) lo _ (hm.keep ((Below.refl _ _).alloc (Nat.le_refl _) _)) (by simp; omega) hu (by simp; omega)
  exact ⟨v', W, h1, h2, ((Below.refl lo w).alloc hlo _).trans h3⟩

/-! ### prime -/
def pmF (n d : Nat) : Nat → Bool
  | 0 => decide (1 < n)
  | k + 1 => if d * d ≤ n then (if n % d = 0 then false else pmF n (d + 1) k) else decide (1 < n)
def pmN (n : Nat) : Bool := pmF n 2 n
theorem pmF_out (n d k : Nat) (h : ¬ d * d ≤ n) : pmF n d k = decide (1 < n) := by
  cases k with
  | zero => rfl
  | succ k => rw [pmF, if_neg h]
set_option maxRecDepth 100000 in
set_option maxHeartbeats 2000000 in
theorem prime_any (n : Nat) (w : World) (hn : n ≤ 1000) :
    Calls Tryd.prog 20 #[.int .i64 (n : Int)] w fun e w' => e = .returned (.bool (pmN n)) ∧ w' = w := by
  obtain ⟨P, hP⟩ : ∃ P, P = pmN n := ⟨_, rfl⟩
  rw [← hP]
  have HP := Lib.hid hP
  clear hP
  go_enter Tryd.func20, Tryd.ntmps20
  go_wp2_with fail
  go_loopw [3] (fun dv wr => ∃ d k : Nat, d + k = n + 2 ∧ 2 ≤ d ∧ dv = .int .i64 (d : Int) ∧ wr = w ∧ Hid (P = pmF n d k)) (fun dv _ => n + 3 - (intOf dv).toNat)
  case atStart => exact ⟨2, n, by omega, Nat.le_refl _, rfl, rfl, HP.out⟩
  case round =>
    obtain ⟨d, k, hk, h2, rfl, rfl, He⟩ := hrel
    have hdd : d * d ≤ 1010000 := by
      have h : d * d ≤ 1002 * 1002 := Nat.mul_le_mul (by omega) (by omega)
      omega
    have q0 : ((d : Int) * (d : Int)) = ((d * d : Nat) : Int) := by simp
    obtain ⟨s, hs⟩ : ∃ s, s = d * d := ⟨_, rfl⟩
    rw [← hs] at q0 hdd
    have q1 : IntKind.i64.wrap ((d : Int) * (d : Int)) = (s : Int) := by rw [q0]; exact IntWalk.i64_in _ (by omega)
    by_cases hlt : s ≤ n
    · have hd : decide ((s : Int) ≤ (n : Int)) = true := decide_eq_true (by omega)
      have hk0 : 1 ≤ k := by
        have h : 2 * d ≤ d * d := Nat.mul_le_mul_right d h2
        omega
      obtain ⟨j, rfl⟩ : ∃ j, k = j + 1 := ⟨k - 1, by omega⟩
      have he := He.out
      rw [pmF, if_pos (by omega)] at he
      have q2 : IntKind.i64.wrap ((d : Int) + 1) = (d : Int) + 1 := IntWalk.i64_in _ (by omega)
      have hdz : ¬ ((d : Int) = 0) := by omega
      have HS := Lib.hid hs
      clear hs
      by_cases hm : n % d = 0
      · rw [if_pos hm] at he
        have hmi : ((n : Int) % (d : Int) == 0) = true := by
          rw [beq_iff_eq]
          omega
        have HM := Lib.hid hm
        have HE := Lib.hid he
        clear hm he
        go_wp2_with fail
        go_ret
        exact ⟨by rw [HE.out]; rfl, rfl⟩
      · rw [if_neg hm] at he
        have hmi : ((n : Int) % (d : Int) == 0) = false := by
          rw [beq_eq_false_iff_ne]
          omega
        have HM := Lib.hid hm
        have HE := Lib.hid he
        clear hm he
        go_wp2_with fail
        go_roundw
        case rel => exact ⟨d + 1, j, by omega, by omega, by go_num, trivial, HE.out⟩
        case measure => simp [intOf]; omega
    · have hd : decide ((s : Int) ≤ (n : Int)) = false := decide_eq_false (by omega)
      have he := He.out
      rw [pmF_out _ _ _ (by omega)] at he
      have he2 : decide ((1 : Int) < (n : Int)) = P := by
        rw [he]
        exact decide_eq_decide.2 (by omega)
      have HS := Lib.hid hs
      clear he hs
      go_wp2_with fail
      go_ret
      exact ⟨rfl, rfl⟩
def d24 : Nat := 16777216
def dgF : Nat → Nat → List Nat
  | _, 0 => []
  | a, k + 1 => if 0 < a then (a % d24) :: dgF (a / d24) k else []
def dgN (a : Nat) : List Nat := dgF a 3
theorem dgF_none (k : Nat) : dgF 0 k = [] := by cases k <;> rfl
set_option maxRecDepth 100000 in
set_option maxHeartbeats 2000000 in
theorem digits_any (a : Nat) (w : World) (ha : a < 18446744073709551616) :
    Calls Tryd.prog 33 #[.int .u64 (a : Int)] w fun e w' => ∃ v', e = .returned v' ∧ MineR ddR w' w.heap.size v' (dgN a) ∧ Below w.heap.size w w' := by
  obtain ⟨L, hL⟩ : ∃ L, L = dgN a := ⟨_, rfl⟩
  rw [← hL]
  have HL := Lib.hid hL
  clear hL
  go_enter Tryd.func33, Tryd.ntmps33
  go_wp2_with fail
  go_loopw [3, 0] (fun dv av wr => ∃ (x k : Nat) (acc : List Nat), av = .int .u64 (x : Int) ∧ x < 18446744073709551616 ∧ Hid (x < d24 ^ k) ∧ Hid (acc.length + k = 3) ∧ Hid (L = acc ++ dgF x k) ∧ Hid (Below w.heap.size w wr) ∧ Hid (MineR ddR wr w.heap.size dv acc)) (fun _ av _ => (intOf av).toNat)
  case atStart => exact ⟨a, 3, [], rfl, ha, by show a < d24 ^ 3; unfold d24; omega, rfl, HL.out, Below.refl _ _, .inl ⟨rfl, rfl⟩⟩
  case round =>
    obtain ⟨x, k, acc, rfl, hx, Hx, Hl, He, hWr, Mr⟩ := hrel
    by_cases h0 : 0 < x
    · have hd : decide ((0 : Int) < (x : Int)) = true := decide_eq_true (by omega)
      have hk0 : 1 ≤ k := by
        rcases Nat.eq_zero_or_pos k with h | h
        · have := Hx.out; rw [h] at this; simp at this; omega
        · exact h
      obtain ⟨j, rfl⟩ : ∃ j, k = j + 1 := ⟨k - 1, by omega⟩
      have he := He.out
      rw [dgF, if_pos h0] at he
      obtain ⟨y, hy⟩ : ∃ y, y = x % d24 := ⟨_, rfl⟩
      rw [← hy] at he
      have hyi : (x : Int) % 16777216 = (y : Int) := by rw [hy]; unfold d24; omega
      obtain ⟨s5, c5, e5⟩ := Mr.out.slice
      subst e5
      obtain ⟨v', W, hrun, M2, B2⟩ := appD1 acc y _ w.heap.size wr Mr.out hWr.out.size (by have := Hl.out; omega)
      have M2 := Lib.hid M2
      have B2 := Lib.hid B2
      have HE := Lib.hid he
      have HY := Lib.hid hy
      clear he hy
      go_wp2_with (refine wpList_appD (v1 := .slice s5 acc.length c5) (v2 := .slice (some ⟨wr.heap.size, 0, none⟩) 1 1) 61 rfl (.tmp 6) (.tmp 9) rfl rfl rfl rfl hrun ?_)
      go_roundw
      case rel =>
        refine ⟨x / d24, j, acc ++ [y], congrArg (Value.int .u64) (by unfold d24; omega), by unfold d24; omega, ?_, ?_, ?_, hWr.out.trans B2.out, M2.out⟩
        · show x / d24 < d24 ^ j
          rw [Nat.div_lt_iff_lt_mul (by decide), ← Nat.pow_succ]
          exact Hx.out
        · show _ = _
          rw [List.length_append, List.length_singleton, Nat.add_assoc, Nat.add_comm 1 j]
          exact Hl.out
        · show _ = _
          rw [HE.out, List.append_assoc]
          rfl
      case measure => simp [intOf]; omega
    · have hd : decide ((0 : Int) < (x : Int)) = false := decide_eq_false (by omega)
      have hx0 : x = 0 := by omega
      have he := He.out
      rw [hx0, dgF_none, List.append_nil] at he
      have HE := Lib.hid he
      clear he hx0
      go_wp2_with fail
      go_ret
      exact ⟨_, rfl, by rw [HE.out]; exact Mr.out, hWr.out⟩
end Go.Proofs.YtecmgojecjenmaaDoor
