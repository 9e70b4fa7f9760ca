/-
  The contract of the document's Div.
-/
import Derived.Test.YtkkkfcdoilojmaaRbF
import Derived.Test.YtkkkfcdoilojmaaRbG
import Derived.Laws.MakeOwn
namespace Go.Proofs.Ytkkkfcdoilojmaa
open Go.RowKit
set_option linter.unusedVariables false

theorem made_bools (k : Nat) : madeCells (Value.bool false).cells k = boA (falses k) := by
  have hc : (Value.bool false).cells = #[.bool false] := rfl
  rw [hc]
  unfold madeCells boA falses boV
  apply Array.ext
  · simp
  · intro i h1 h2
    simp [Nat.mod_one]
theorem run_makeO (w : World) (m : Nat) (hm : m ≤ 1000000) :
    (Instr.makeSlice 30 (.int .i64 (m : Int)) (.int .i64 (m : Int))).run Try.prog w = .ok (.slice (some ⟨w.heap.size, 0, none⟩) m m) (w.alloc (.cells (boA (falses m)) 4)) := by
  obtain ⟨i, hi, hz, hs, hby⟩ := bool_info
  have h := run_make (P := Try.prog) w 30 4 i _ Try.underlying30 hi hz .i64 .i64 (m : Int) (m : Int) (by omega) (Int.le_refl _) (by rw [hby]; omega) (by omega)
  rw [Int.toNat_natCast, hs, Nat.mul_one, made_bools] at h
  exact h
theorem wpList_mk {ops : Array Oper} {rest : List Oper} {o : Oper} {a : Act} {w W : World} {Q : Exit → Act → World → Prop} {v1 v2 v : Value} (t : TypeId) (hg : o.guard = none) (l c : Operand)
    (hop : o.op = Op.makeSlice t l c) (hs : a.eval l = v1) (hx : a.eval c = v2)
    (hrun : (Instr.makeSlice t v1 v2).run Try.prog w = .ok v W) (hK : wpList Try.prog ops Q rest (a.put o.dst v) W) : wpList Try.prog ops Q (o :: rest) a w := by
  refine wpList_plain hg fun K hK' => ?_
  unfold Oper.wp
  simp [execOp, hop, hs, hx, hrun, Result.andThen]
  exact hK' _ _ hK
theorem boA_set (l : List Bool) (i : Nat) (x : Bool) : (boA l).setIfInBounds i (.bool x) = boA (l.set i x) := by
  apply Array.ext_getElem?
  intro j
  rw [boA_opt, Array.getElem?_setIfInBounds, List.getElem?_set, boA_opt]
  have hs : (boA l).size = l.length := by simp [boA]
  rw [hs]
  by_cases h : i = j
  · subst h
    rw [if_pos rfl, if_pos rfl]
    by_cases h2 : i < l.length
    · rw [if_pos h2, if_pos h2]; rfl
    · rw [if_neg h2, if_neg h2]; rfl
  · rw [if_neg h, if_neg h]
/-- The first bit of a slice of the call's own is laid. -/
theorem MineO.head {W : World} {lo L : Nat} {v : Value} {bs : List Bool} (h : MineO W lo v bs) (hL : bs.length = L + 1) (y : Bool) :
    ∃ T c, v = .slice (some ⟨T, 0, none⟩) (L + 1) c ∧ lo ≤ T ∧ T < W.heap.size ∧ L + 1 ≤ c ∧ (∃ x, W.cell? ⟨T, 0, none⟩ = some (.bool x)) ∧ W.frozen? ⟨T, 0, none⟩ = false ∧
      MineO (W.setCell ⟨T, 0, none⟩ (.bool y)) lo v (bs.set 0 y) := by
  rcases h with ⟨rfl, rfl⟩ | ⟨T, cap, z, rfl, hc, hc2, hT, K⟩
  · simp at hL
  · refine ⟨T, cap, by rw [hL], hT, K.lt, by omega, ?_, K.frozen 0, .inr ⟨T, cap, z, by rw [List.length_set], by rw [List.length_set]; exact hc, hc2, hT, ?_⟩⟩
    · obtain ⟨x, r, rfl⟩ : ∃ x r, bs = x :: r := by
        cases bs with
        | nil => simp at hL
        | cons x r => exact ⟨x, r, rfl⟩
      exact ⟨x, (K.cell 0).trans rfl⟩
    · have h1 := K.set_ 0 (.bool y)
      rw [boA_set] at h1
      have e : (bs ++ falses z).set 0 y = bs.set 0 y ++ falses z := by
        cases bs with
        | nil => simp at hL
        | cons x r => rfl
      rwa [e] at h1
theorem MineO.far {W : World} {lo n c T g : Nat} {bs : List Bool} (h : MineO W lo (.slice (some ⟨T, 0, none⟩) n c) bs) (j : Nat) (u : Value) (hg : T ≠ g) : MineO (W.setCell ⟨g, j, none⟩ u) lo (.slice (some ⟨T, 0, none⟩) n c) bs := by
  rcases h with ⟨h, _⟩ | ⟨T', cap, z, e, hc, hc2, hT, K⟩
  · cases h
  · cases e
    exact .inr ⟨T, _, z, rfl, hc, hc2, hT, K.far hg u⟩
theorem bitL_head (l L : Nat) (y : Bool) (h : 2 * l < 2 ^ (L + 1)) : valB ((bitL (shN l ((1 : Nat) : Int)) (L + 1)).set 0 y) = 2 * l + y.toNat := by
  rw [shN_nat, Nat.pow_one, Nat.mul_comm l 2]
  have h1 := valB_bitL (2 * l) (L + 1)
  rw [Nat.mod_eq_of_lt h] at h1
  have hl := bitL_length (2 * l) (L + 1)
  revert h1 hl
  generalize bitL (2 * l) (L + 1) = bs
  intro h1 hl
  cases bs with
  | nil => simp at hl
  | cons x r =>
    rw [List.set_cons_zero, valB]
    rw [valB] at h1
    have : x.toNat ≤ 1 := by cases x <;> decide
    omega
theorem subw_end (Y A : Nat) (hY : Y < M256) (h1 : Y ≤ A) (h2 : A - Y < Y) : (A % M256 + (M256 - Y)) % M256 = A - Y := by
  by_cases h : A < M256
  · rw [Nat.mod_eq_of_lt h, show A + (M256 - Y) = A - Y + M256 by omega, Nat.add_mod_right, Nat.mod_eq_of_lt (by omega)]
  · rw [show A = (A - M256) + M256 by omega, Nat.add_mod_right, Nat.mod_eq_of_lt (show A - M256 < M256 by omega), show A - M256 + (M256 - Y) = A - Y by omega, Nat.mod_eq_of_lt (by omega)]
    omega
set_option maxRecDepth 100000 in
set_option maxHeartbeats 4000000 in
theorem div2_any (u v : Value) (X Y m n : Nat) (w : World) (hx : BX w u X m) (hy : BX w v Y n) (hm : m ≤ 10000) (hn : n ≤ 10000) (hY0 : 0 < Y) (hYM : Y < M256) :
    Calls Try.prog 15 #[u, v] w fun e w' => ∃ q l L, e = .returned (.tuple #[q, l]) ∧ L ≤ 256 + m ∧ BX w' q (X / Y) m ∧ BX w' l (X % Y) L ∧ Below w.heap.size w w' := by
  have HX := Lib.hid hx
  have HY := Lib.hid hy
  have HDN : Hid (∀ i l q, l = X / 2 ^ (i + 1) % Y → q = X / 2 ^ (i + 1) / Y → _) := fun i l q h1 h2 => div_next X Y i l q hY0 h1 h2
  have HSE := Lib.hid (fun A => subw_end Y A hYM)
  have HS0 : Hid (X / 2 ^ m = 0) := Nat.div_eq_of_lt hx.lt
  have HYM := Lib.hid hYM
  obtain ⟨s, c, rfl, hmc⟩ := hx.slice
  obtain ⟨s', c', rfl, hmc'⟩ := hy.slice
  have hmk := run_makeO w m (by omega)
  have K0 : Bk (w.alloc (.cells (boA (falses m)) 4)) w.heap.size 4 (boA (falses m)) := Bk.new _ _ _
  have hW0 : Below w.heap.size w (w.alloc (.cells (boA (falses m)) 4)) := (Below.refl _ _).alloc (Nat.le_refl _) _
  generalize w.alloc (.cells (boA (falses m)) 4) = w0 at *
  have q0 : IntKind.i64.wrap ((m : Int) - 1) = (m : Int) - 1 := IntWalk.i64_in _ (by omega)
  clear hx hy hY0 hYM
  go_enter Try.func15, Try.ntmps15
  go_wp2_with (at_make; refine wpList_mk 30 rfl _ _ rfl rfl rfl hmk ?_)
  go_loopw [8, 7] (fun i left wr => ∃ (p l L : Nat) (qs : List Bool), p ≤ m ∧ i = .int .i64 ((p : Int) - 1) ∧ Hid (L ≤ 256 + (m - p)) ∧ Hid (l = X / 2 ^ p % Y) ∧ Hid (Below w.heap.size w wr) ∧ Hid (BX wr left l L) ∧ Hid (qs.length = m) ∧ Hid (valB qs = X / 2 ^ p / Y * 2 ^ p) ∧ Bk wr w.heap.size 4 (boA qs)) (fun i _ _ => (intOf i + 1).toNat)
  case atStart =>
    refine ⟨m, 0, 0, falses m, Nat.le_refl _, rfl, Nat.zero_le _, ?_, hW0, BX.nil _, by show _ = _; simp [falses], ?_, K0⟩
    · show _ = _; rw [HS0.out, Nat.zero_mod]
    · show _ = _; rw [valB_falses, HS0.out, Nat.zero_div, Nat.zero_mul]
  case round =>
    obtain ⟨p, l, L, qs, hp, rfl, HL, Hl, hWr, Mr, Hq, Hv, Kr⟩ := hrel
    clear q0 K0 hW0 hmk
    obtain ⟨s5, c5, rfl, _⟩ := Mr.out.slice
    cases p with
    | zero =>
      rw [show (((0 : Nat) : Int) - 1) = -1 from rfl]
      have hd : decide ((0 : Int) ≤ -1) = false := by decide
      go_wp2_with fail
      have hk := Kr
      refine bodyPost_ret (results_tmp2 rfl _ _ _) rfl ⟨_, _, L, rfl, by have := HL.out; omega, ?_, ?_, hWr.out⟩
      · have e := Hv.out
        rw [Nat.pow_zero, Nat.div_one, Nat.mul_one] at e
        rw [← e]
        have hqm := Hq.out
        have hl := Kr.lt
        refine ⟨qs, hqm, rfl, some ⟨w.heap.size, 0, none⟩, m, by rw [hqm]; rfl, by omega, by omega, fun _ => ⟨w.heap.size, 0, rfl, hl, fun i hi => ?_⟩⟩
        rw [Nat.zero_add, Kr.cell, boA_opt, List.getElem?_eq_getElem hi, List.getD, List.getElem?_eq_getElem hi]
        rfl
      · have e := Hl.out
        rw [Nat.pow_zero, Nat.div_one] at e
        rw [← e]
        exact Mr.out
    | succ k =>
      rw [show (((k + 1 : Nat) : Int) - 1) = (k : Int) by omega]
      have hd : decide ((0 : Int) ≤ (k : Int)) = true := decide_eq_true (by omega)
      have q1 : IntKind.i64.wrap ((k : Int) - 1) = (k : Int) - 1 := IntWalk.i64_in _ (by omega)
      have HS := Lib.hid (shiftM_any _ l L ((1 : Nat) : Int) wr Mr.out (by have := HL.out; omega) (by omega) (by omega))
      have HLM := Lib.hid (show l < 2 ^ L from Mr.out.lt)
      have HDN2 := Lib.hid (HDN.out k l _ Hl.out rfl)
      have hqm := Hq.out
      have hlr := Kr.lt
      go_wp2_with fail
      refine HS.out.mono ?_
      rintro e w5 ⟨v5, rfl, M5, hb5⟩
      rw [show ((L : Int) + ((1 : Nat) : Int)).toNat = L + 1 by omega] at M5
      have Kr := Kr.keep hb5
      have hsz := hWr.out.size
      have hW5 := Lib.hid (hWr.out.trans (hb5.mono hWr.out.size))
      obtain ⟨bb, oo, rfl, hbl, hcell⟩ := (HX.out.keep hW5.out).at_ k (by omega)
      obtain ⟨T, cT, rfl, hT1, hT2, hT3, ⟨x0, hT4⟩, hT5, M6⟩ := M5.head (bitL_length _ _) (bit X k)
      have HV := Lib.hid (bitL_head l L (bit X k) (by rw [Nat.pow_succ]; have := HLM.out; omega))
      have hTw : T ≠ w.heap.size := by omega
      have hTr : w.heap.size ≤ T := by omega
      have Kr := Kr.far (p := ⟨T, 0, none⟩) (fun e => hTw e.symm) (.bool (bit X k))
      have hW6 := Lib.hid (hW5.out.setCell (p := ⟨T, 0, none⟩) hTr (.bool (bit X k)))
      have hL0 : decide (L + 1 = 0) = false := decide_eq_false (by omega)
      have B6 := M6.bx
      rw [HV.out, List.length_set, bitL_length] at B6
      have M9 : ∀ (g j : Nat) (u : Value), T ≠ g → BX ((w5.setCell ⟨T, 0, none⟩ (.bool (bit X k))).setCell ⟨g, j, none⟩ u) (.slice (some ⟨T, 0, none⟩) (L + 1) cT) (2 * l + (bit X k).toNat) (L + 1) := fun g j u hg => by
        have h := (M6.far j u hg).bx
        rw [HV.out, List.length_set, bitL_length] at h
        exact h
      have M9 := Lib.hid M9
      have HLE := Lib.hid (less_any _ _ _ Y _ n _ B6 (HY.out.keep hW6.out) (by have := HL.out; omega) (by omega))
      have B6 := Lib.hid B6
      clear HS hb5 M5 M6 HLM Mr
      obtain ⟨l', hl'⟩ : ∃ l', l' = 2 * l + (bit X k).toNat := ⟨_, rfl⟩
      rw [← hl'] at HLE B6 HDN2 M9
      generalize bit X k = β at *
      clear hl' HV hWr hW5
      by_cases hlt : l' < Y
      · have hdl : decide (l' < Y) = true := decide_eq_true hlt
        rw [hdl] at HLE
        obtain ⟨e1, e2⟩ := HDN2.out.1 hlt
        have E1 := Lib.hid e1
        have E2 := Lib.hid e2
        clear HDN2 hlt hdl e1 e2
        go_wp2_with fail
        refine HLE.out.mono ?_
        rintro e w7 ⟨rfl, h7⟩
        subst h7
        go_wp2_with fail
        go_roundw
        case rel =>
          have h1 : Hid (L + 1 ≤ 256 + (m - k)) := by have := HL.out; show _ ≤ _; omega
          have h3 : Hid (valB qs = X / 2 ^ k / Y * 2 ^ k) := by
            show _ = _
            rw [Hv.out, E2.out, Nat.pow_succ, Nat.mul_comm (2 ^ k) 2, ← Nat.mul_assoc, Nat.mul_comm 2 (X / (2 * 2 ^ k) / Y)]
          first | exact ⟨k, l', L + 1, qs, by omega, rfl, h1, E1.out.symm, hW6, B6, Hq, h3, Kr⟩ | ((repeat apply Exists.intro); exact ⟨⟨k, l', L + 1, qs, by omega, rfl, h1, E1.out.symm, hW6, B6, Hq, h3, Kr⟩, rfl⟩)
        case measure => simp [intOf] <;> omega
      · have hdl : decide (l' < Y) = false := decide_eq_false hlt
        rw [hdl] at HLE
        obtain ⟨e1, e2, e3⟩ := HDN2.out.2 (by omega)
        have E1 := Lib.hid e1
        have E2 := Lib.hid e2
        have E4 := Lib.hid (HSE.out l' (by omega) e3)
        have hqk := Kr.cell k
        have hqf := Kr.frozen k
        have hqb : valB qs = X / 2 ^ (k + 1) / Y * 2 ^ (k + 1) := Hv.out
        have hqv : qs.getD k false = false := by rw [getD_bit, hqb, bit_high]
        have hset := valB_set qs k (by omega) hqv
        have hcellq : (boA qs)[k]? = some (.bool false) := by
          rw [boA_opt, List.getElem?_eq_getElem (by omega)]
          rw [List.getD, List.getElem?_eq_getElem (by omega)] at hqv
          simp only [Option.getD_some] at hqv
          rw [hqv]
          rfl
        rw [hcellq] at hqk
        have K8 := Kr.set_ k (.bool true)
        rw [boA_set] at K8
        have HSET := Lib.hid hset
        have HQB := Lib.hid hqb
        have hTw2 : w.heap.size ≠ T := fun e => hTw e.symm
        have hkr := Kr.lt
        have hk8 : k < m := by omega
        have B8 := B6
        clear HDN2 hlt hdl e1 e2 e3 hcellq hqv hset hqb
        go_wp2_with fail
        refine HLE.out.mono ?_
        rintro e w7 ⟨rfl, h7⟩
        subst h7
        go_wp2_with fail
        have hW8 := Lib.hid (hW6.out.setCell (p := ⟨w.heap.size, k, none⟩) (Nat.le_refl _) (.bool true))
        have BL : BX ((w5.setCell ⟨T, 0, none⟩ (.bool β)).setCell ⟨w.heap.size, k, none⟩ (.bool true)) (.slice (some ⟨T, 0, none⟩) (L + 1) cT) l' (L + 1) := M9.out _ _ _ hTw
        have HSU := Lib.hid (sub2w_any _ _ l' Y _ n _ BL (HY.out.keep hW8.out) (by have := HL.out; omega) (by omega) HYM.out)
        clear hqk hqf
        go_wp2_with fail
        refine HSU.out.mono ?_
        rintro e w9 ⟨v9, rfl, B9, hb9⟩
        rw [E4.out] at B9
        obtain ⟨s9, c9, rfl, _⟩ := B9.slice
        have K9 := K8.keep hb9
        have hW9 := Lib.hid (hW8.out.trans (hb9.mono hW8.out.size))
        have B9 := Lib.hid B9
        clear HSU hb9
        go_wp2_with fail
        go_roundw
        case rel =>
          have h1 : Hid (256 ≤ 256 + (m - k)) := by show _ ≤ _; omega
          have h3 : Hid (valB (qs.set k true) = X / 2 ^ k / Y * 2 ^ k) := by
            show _ = _
            rw [HSET.out, HQB.out, E2.out, Nat.pow_succ, Nat.add_mul, Nat.one_mul, Nat.mul_comm (2 ^ k) 2, ← Nat.mul_assoc, Nat.mul_comm 2 (X / (2 * 2 ^ k) / Y)]
          have hql : Hid ((qs.set k true).length = m) := by show _ = _; rw [List.length_set]; exact Hq.out
          have B9 : Hid (BX w9 (.slice s9 256 c9) (l' - Y) 256) := B9
          first | exact ⟨k, _, 256, _, by omega, rfl, h1, E1.out.symm, hW9, B9, hql, h3, K9⟩ | ((repeat apply Exists.intro); exact ⟨⟨k, _, 256, _, by omega, rfl, h1, E1.out.symm, hW9, B9, hql, h3, K9⟩, rfl⟩)
        case measure => simp [intOf] <;> omega
end Go.Proofs.Ytkkkfcdoilojmaa
