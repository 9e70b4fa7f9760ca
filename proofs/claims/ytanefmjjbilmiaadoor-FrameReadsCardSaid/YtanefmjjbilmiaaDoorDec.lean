/-
  The contract of the document's Decode, whole.
-/
import Derived.Test.YtanefmjjbilmiaaDoorDecR
namespace Go.Proofs.YtanefmjjbilmiaaDoor
open Go.RowKit
set_option linter.unusedVariables false
set_option linter.unusedSimpArgs false
set_option maxRecDepth 100000
structure DecInv (w wr : World) (S : List Nat) (k : Nat) (ov : Value) (L : List WdM) : Prop where
  st : FZ (S.take k) = ⟨[], 0, L⟩
  row : MineR wdR wr w.heap.size ov L
  bel : Below w.heap.size w wr
  few : L.length ≤ k
  kle : k ≤ S.length
def DecPost (w w' : World) (S : List Nat) (r : Ending) : Prop := ∃ ov, r = .returned (.tuple #[ov, .string (strN (FZ S).h), .int .i64 (((FZ S).e : Nat) : Int)]) ∧ MineR wdR w' w.heap.size ov (FZ S).out ∧ Below w.heap.size w w'
theorem DecInv.rest {w wr : World} {S : List Nat} {k : Nat} {ov : Value} {L : List WdM} (i : DecInv w wr S k ov L) : FZ S = feedL ⟨[], 0, L⟩ (S.drop k) := by
  conv => lhs; rw [← List.take_append_drop k S]
  rw [FZ_app, i.st]
theorem DecInv.keep {w wr w' : World} {S : List Nat} {k : Nat} {ov : Value} {L : List WdM} (i : DecInv w wr S k ov L) (hb : Below wr.heap.size wr w') : DecInv w w' S k ov L := ⟨i.st, i.row.keep hb, below_step i.bel i.bel.size hb, i.few, i.kle⟩
theorem DecInv.done {w wr : World} {S : List Nat} {k e : Nat} {ov : Value} {L : List WdM} {h : List Nat} {x : ByteArray} (i : DecInv w wr S k ov L) (hf : feedL ⟨[], 0, L⟩ (S.drop k) = ⟨h, e, L⟩) (hx : x = strN h) : DecPost w wr S (.returned (.tuple #[ov, .string x, .int .i64 (e : Int)])) := by
  have hr := i.rest.trans hf
  refine ⟨ov, ?_, ?_, i.bel⟩
  · rw [hr, hx]
  · rw [hr]; exact i.row
theorem field_nth (t : List Nat) (j : Nat) (hj : j < 12) (hl : 16 ≤ t.length) : nth t (4 + j) = nth (fieldN t) j := by
  unfold nth fieldN
  rw [List.getD_eq_getElem?_getD, List.getD_eq_getElem?_getD, List.getElem?_take_of_lt hj, List.getElem?_drop]
theorem tw_lt (l : List Nat) (j : Nat) (h : j < (l.takeWhile (fun x => x != 0)).length) : nth l j ≠ 0 := by
  induction l generalizing j with
  | nil => cases h
  | cons x l ih =>
    by_cases hx : x = 0
    · subst hx
      cases h
    · rw [List.takeWhile_cons_of_pos (by simpa using hx), List.length_cons] at h
      cases j with
      | zero => exact hx
      | succ j => exact ih j (by omega)
theorem tw_at (l : List Nat) (h : (l.takeWhile (fun x => x != 0)).length < l.length) : nth l (l.takeWhile (fun x => x != 0)).length = 0 := by
  induction l with
  | nil => cases h
  | cons x l ih =>
    by_cases hx : x = 0
    · subst hx
      rfl
    · rw [List.takeWhile_cons_of_pos (by simpa using hx), List.length_cons, List.length_cons] at h
      rw [List.takeWhile_cons_of_pos (by simpa using hx), List.length_cons]
      exact ih (by omega)
theorem word_field (t : List Nat) (hl : 16 ≤ t.length) : wordN t ++ zeros (12 - (wordN t).length) = fieldN t ↔ ∀ j, (wordN t).length ≤ j → j < 12 → nth t (4 + j) = 0 := by
  have hf := fieldN_len t hl
  have hw := wordN_len t
  have hwt : wordN t = (fieldN t).take (wordN t).length := takeW_take (fieldN t)
  constructor
  · intro h j h1 h2
    rw [field_nth t j h2 hl, ← h]
    unfold nth zeros
    rw [List.getD_eq_getElem?_getD, List.getElem?_append_right h1, List.getElem?_replicate]
    split <;> rfl
  · intro h
    apply List.ext_getElem (by rw [List.length_append, zeros_length, hf]; omega)
    intro i h1 h2
    rw [hf] at h2
    by_cases hi : i < (wordN t).length
    · rw [List.getElem_append_left hi]
      have e1 : (wordN t)[i]? = ((fieldN t).take (wordN t).length)[i]? := by rw [← hwt]
      rw [List.getElem?_take_of_lt hi, List.getElem?_eq_getElem hi, List.getElem?_eq_getElem (by omega)] at e1
      injection e1
    · have h3 := h i (by omega) h2
      rw [field_nth t i h2 hl] at h3
      unfold nth at h3
      rw [List.getD_eq_getElem?_getD, List.getElem?_eq_getElem (by omega)] at h3
      rw [List.getElem_append_right (by omega)]
      unfold zeros
      rw [List.getElem_replicate]
      exact h3.symm
theorem wpList_appG2 {ops : Array Oper} {rest : List Oper} {o : Oper} {a : Act} {w W : World} {Q : Exit → Act → World → Prop} {v1 v2 v : Value} (t : TypeId) (hg : o.guard = none) (s x : Operand)
    (hop : o.op = Op.call { callee := Callee.builtin Builtin.append, args := #[s, x], argTypes := #[t, t] }) (hty : o.type = t) (hs : a.eval s = v1) (hx : a.eval x = v2)
    (hrun : (Builtin.append_ #[t, t] t #[v1, v2]).run Tryd.prog w = .ok v W) (hK : wpList Tryd.prog ops Q rest (a.put o.dst v) W) : wpList Tryd.prog ops Q (o :: rest) a w := by
  refine wpList_plain hg fun K hK' => ?_
  unfold Oper.wp
  simp [execOp, hop, resolve, invoke, builtin, hs, hx, hty, hrun, Result.andThen]
  exact hK' _ _ hK
set_option maxHeartbeats 16000000 in
theorem r8decode_any (S : List Nat) (w : World) (hx : ∀ x ∈ S, x < 256) (hl : S.length ≤ 100000) :
    Calls Tryd.prog 24 #[.string (strN S)] w fun r w' => DecPost w w' S r := by
  have HX := Lib.hid hx
  have HL := Lib.hid hl
  have HNM : Hid (∀ W, Calls Tryd.prog 59 #[.int .i64 4, .int .u64 1413565529] W fun r w' => r = .returned (.string (strN magL)) ∧ Below W.heap.size W w') := fun W => rfnum_any 4 1413565529 W (by omega) (by decide)
  have HSTART : Hid (DecInv w w S 0 (.slice none 0 0) []) := ⟨rfl, .inl ⟨rfl, rfl⟩, Below.refl _ _, Nat.le_refl _, Nat.zero_le _⟩
  have hd0 : strN S = strN (S.drop 0) := by rw [List.drop_zero]
  obtain ⟨u0, hu0⟩ : ∃ u, u = strN S := ⟨_, rfl⟩
  rw [← hu0] at hd0 ⊢
  have HD0 := Lib.hid hd0
  clear hx hl hu0 hd0
  go_enter Tryd.func24, Tryd.ntmps24
  go_wp2_with fail
  go_loopw [0, 5] (fun sv ov wr => ∃ (k : Nat) (L : List WdM) (so : Option Addr) (lo co : Nat), sv = .string (strN (S.drop k)) ∧ ov = .slice so lo co ∧ Hid (DecInv w wr S k (.slice so lo co) L)) (fun sv _ _ => match sv with | .string s => s.size | _ => 0)
  case atStart => exact ⟨0, [], none, 0, 0, by rw [HD0.out], rfl, HSTART.out⟩
  case round =>
    obtain ⟨k, L, so, lo, co, rfl, rfl, HI⟩ := hrel
    clear HSTART HD0
    obtain ⟨t, ht⟩ : ∃ t, t = S.drop k := ⟨_, rfl⟩
    rw [← ht]
    have HT := Lib.hid ht
    have htx : ∀ x ∈ t, x < 256 := fun x h => by rw [ht] at h; exact HX.out x (List.mem_of_mem_drop h)
    have htl : t.length ≤ 100000 := by rw [ht, List.length_drop]; have := HL.out; omega
    have HTX := Lib.hid htx
    have HTL := Lib.hid htl
    have hzu := strN_size t
    obtain ⟨n, hn⟩ : ∃ n, n = t.length := ⟨_, rfl⟩
    rw [← hn] at hzu
    have HN := Lib.hid hn
    have HRD : Hid (∀ W h e (x : ByteArray), DecInv w W S k (.slice so lo co) L → feedL ⟨[], 0, L⟩ t = ⟨h, e, L⟩ → x = strN h → DecPost w W S (.returned (.tuple #[.slice so lo co, .string x, .int .i64 (e : Int)]))) := fun W h e x hi hf hx => hi.done (by rw [← ht]; exact hf) hx
    have HS4 : Hid (4 ≤ n → ∀ W, (Instr.slice 9 (.string (strN t)) none (some (.int .i64 4)) none).run Tryd.prog W = .ok (.string (strN (t.take 4))) W) := fun h W => str_take t 4 (by omega) W
    have HSB : Hid (∀ a b : Nat, a ≤ b → b ≤ n → ∀ W, (Instr.slice 9 (.string (strN t)) (some (.int .i64 (a : Int))) (some (.int .i64 (b : Int))) none).run Tryd.prog W = .ok (.string (strN ((t.drop a).take (b - a)))) W) := fun a b h1 h2 W => str_sub t a b h1 (by omega) W
    have HSD : Hid (∀ a : Nat, a ≤ n → ∀ W, (Instr.slice 9 (.string (strN t)) (some (.int .i64 (a : Int))) none none).run Tryd.prog W = .ok (.string (strN (t.drop a))) W) := fun a h W => str_drop t a (by omega) W
    have HAT : Hid (∀ i, i < n → ∀ W, (Instr.index 9 (.string (strN t)) (.int .i64 (i : Int))).run Tryd.prog W = .ok (.int .u8 ((nth t i : Nat) : Int)) W) := fun i h W => str_at t htx i (by omega) W
    obtain ⟨u, hu⟩ : ∃ u, u = strN t := ⟨_, rfl⟩
    rw [← hu] at hzu HS4 HSB HSD HAT ⊢
    have HU := Lib.hid hu
    have hms := str_eqb (t.take 4) magL (take_in htx 4) magL_lt
    clear ht htx htl hn hu
    go_upto_region 2 with fail
    -- the parts behind the look at the magic
    by_cases h4 : 4 ≤ n
    · have q4 : decide ((4 : Int) ≤ (n : Int)) = true := decide_eq_true (by omega)
      refine decR2G n u wr _ _ _ _ _ _ _ _ _ _ _ _ _ _ _ _ _ _ _ _ _ _ _ _ _ _ _ _ _ _ _ _ _ _ _ _ _ _ _ _ _ _ _ _ _ _ _ _ _ _ _ _ _ _ _ _ _ _ _ _ _ _ _ _ _ _ _ _ _ _ _ _ _ _ _ _ _ _ _ _ _ _ _ _ _ _ _ _ _ hzu q4 (strN (t.take 4)) (strN magL) (decide (t.take 4 = magL)) hms (HS4.out h4) (Lib.hid (fun W _ => HNM.out W)) (Lib.hid (fun _ _ _ _ _ _ _ _ w2 hb2 => ?_))
      have HI2 := Lib.hid (HI.out.keep hb2)
      have H4 := Lib.hid h4
      clear hb2 HI q4 h4 hms
      by_cases hm : t.take 4 = magL
      · have q5 : (!decide (t.take 4 = magL)) = false := by rw [decide_eq_true hm]; rfl
        rw [q5]
        have HMG := Lib.hid hm
        clear hm q5
        by_cases h24 : n < 24
        · have q24 : decide ((n : Int) < 24) = true := decide_eq_true (by omega)
          have q24n : decide (n < 24) = true := decide_eq_true (by omega)
          have HE := Lib.hid (HRD.out w2 t 0 u HI2.out (deco_short t L (by have := H4.out; have := HN.out; omega) (by have := HN.out; omega) HTX.out HMG.out) HU.out)
          clear h24 HRD HI2 HSB HSD HAT HS4 HNM
          go_wp2_with fail
          go_ret3
          exact HE.out
        have q24 : decide ((n : Int) < 24) = false := decide_eq_false (by omega)
        have q24n : decide (n < 24) = false := decide_eq_false (by omega)
        have H24 := Lib.hid (show 24 ≤ n by omega)
        have HCK : Hid (∀ W, Calls Tryd.prog 20 #[.string (strN (wordN t))] W fun r w' => r = .returned (.int .i64 ((wordE (wordN t) : Nat) : Int)) ∧ Below W.heap.size W w') := fun W => r8check_any (wordN t) W (wordN_lt t HTX.out)
        have HLW : Hid (∀ W, Calls Tryd.prog 66 #[.string (strN ((t.drop 16).take 4))] W fun r w' => r = .returned (.int .u64 ((dataN t : Nat) : Int)) ∧ w' = W) := fun W => by
          have h := rflow_any ((t.drop 16).take 4) W (fun x h => HTX.out x (List.mem_of_mem_drop (List.mem_of_mem_take h))) (by rw [List.length_take]; omega)
          rw [List.take_of_length_le (show ((t.drop 16).take 4).length ≤ 8 by rw [List.length_take]; omega)] at h
          exact h
        have HSM : Hid (∀ xs : List Nat, (∀ x ∈ xs, x < 256) → xs.length ≤ 100000 → ∀ W, Calls Tryd.prog 60 #[.string (strN xs)] W fun r w' => r = .returned (.string (strN (sum4 xs))) ∧ Below W.heap.size W w') := fun xs h1 h2 W => r8sum_any xs W h1 h2
        obtain ⟨wl, hwl⟩ : ∃ wl, wl = (wordN t).length := ⟨_, rfl⟩
        have HWL := Lib.hid hwl
        have HW12 : Hid (wl ≤ 12) := by show _ ≤ _; rw [hwl]; exact wordN_len t
        have HWT : Hid (wordN t = (t.drop 4).take wl) := by
          show _ = _
          have h2 : wordN t = (fieldN t).take wl := by rw [hwl]; exact takeW_take (fieldN t)
          conv => lhs; rw [h2]
          unfold fieldN
          rw [List.take_take, Nat.min_eq_left HW12.out]
        have HNZ : Hid (∀ j, j < wl → nth t (4 + j) ≠ 0) := fun j hj => by
          rw [field_nth t j (by have := HW12.out; omega) (by have := H24.out; have := HN.out; omega)]
          exact tw_lt (fieldN t) j (by have := HWL.out; unfold wordN at this; omega)
        have HAZ : Hid (wl < 12 → nth t (4 + wl) = 0) := fun h => by
          rw [field_nth t wl h (by have := H24.out; have := HN.out; omega), hwl]
          exact tw_at (fieldN t) (by
            have h3 := fieldN_len t (by have := H24.out; have := HN.out; omega)
            have h4 := HWL.out
            unfold wordN at h4
            omega)
        clear h24 hwl
        go_wp2_with fail
        go_loopw [6] (fun kv wi => ∃ j : Nat, j ≤ wl ∧ kv = .int .i64 ((4 + j : Nat) : Int) ∧ wi = w2) (fun kv _ => 16 - (intOf kv).toNat)
        case atStart => exact ⟨0, Nat.zero_le _, rfl, by first | rfl | trivial⟩
        case round =>
          obtain ⟨j, hj, rfl, rfl⟩ := hrel
          by_cases hlt : j < wl
          · have p1 : decide (((4 + j : Nat) : Int) < 16) = true := decide_eq_true (by have := HW12.out; omega)
            have p1n : decide (4 + j < 16) = true := decide_eq_true (by have := HW12.out; omega)
            have hix := HAT.out (4 + j) (by have := H24.out; have := HW12.out; omega)
            have hnz := HNZ.out j hlt
            obtain ⟨y, hy⟩ : ∃ y, y = nth t (4 + j) := ⟨_, rfl⟩
            rw [← hy] at hix hnz
            have p2 : ((y : Int) != 0) = true := by rw [bne_iff_ne]; omega
            obtain ⟨q, hq⟩ : ∃ q, q = 4 + j := ⟨_, rfl⟩
            have hq1 : IntKind.i64.wrap ((q : Int) + 1) = ((q + 1 : Nat) : Int) := by
              have := HW12.out
              simp [IntKind.wrap, IntKind.signed, IntKind.bits]
              omega
            have HQQ := Lib.hid hq
            have HJL := Lib.hid hlt
            rw [← hq] at hix p1 p1n
            rw [← hq]
            clear hy hq hlt hj hnz
            go_wp2_with fail
            go_roundw
            case rel =>
              refine ⟨j + 1, HJL.out, ?_, by first | rfl | trivial⟩
              have : q + 1 = 4 + (j + 1) := by have := HQQ.out; omega
              rw [← this]
              first | rfl | (push_cast; rfl)
            case measure => have := HQQ.out; have := HJL.out; have := HW12.out; simp [intOf]; omega
          · have hjw : wl = j := by omega
            subst hjw
            clear hlt hj
            by_cases hw12 : wl < 12
            · have p1 : decide (((4 + wl : Nat) : Int) < 16) = true := decide_eq_true (by omega)
              have p1n : decide (4 + wl < 16) = true := decide_eq_true (by omega)
              have hix := HAT.out (4 + wl) (by have := H24.out; omega)
              rw [HAZ.out hw12] at hix
              clear hw12
              have hsw := HSB.out 4 (4 + wl) (by omega) (by have := HW12.out; have := H24.out; omega) 
              have hcut : (t.drop 4).take (4 + wl - 4) = wordN t := by
                rw [show 4 + wl - 4 = wl by omega]
                exact HWT.out.symm
              rw [hcut] at hsw
              clear hcut
              have HSW : Hid (∀ W, (Instr.slice 9 (.string u) (some (.int .i64 4)) (some (.int .i64 ((4 + wl : Nat) : Int))) none).run Tryd.prog W = .ok (.string (strN (wordN t))) W) := hsw
              clear hsw
              have hsw2 := HSW.out
              obtain ⟨uw, huw⟩ : ∃ uw, uw = strN (wordN t) := ⟨_, rfl⟩
              rw [← huw] at hsw2 HCK
              have HUW := Lib.hid huw
              clear huw HSW
              obtain ⟨kw, hkw⟩ : ∃ kw, kw = 4 + wl := ⟨_, rfl⟩
              rw [← hkw] at hsw2 p1 p1n ⊢
              try rw [← hkw] at hix
              have HKW := Lib.hid hkw
              clear hkw
              go_wp2_with fail
              go_loopw [8] (fun iv wi => ∃ j : Nat, wl ≤ j ∧ j ≤ 12 ∧ iv = .int .i64 ((4 + j : Nat) : Int) ∧ wi = wr ∧ Hid (∀ i, wl ≤ i → i < j → nth t (4 + i) = 0)) (fun iv _ => 16 - (intOf iv).toNat)
              case atStart => exact ⟨wl, Nat.le_refl _, HW12.out, by rw [HKW.out], by first | rfl | trivial, fun i h1 h2 => absurd h2 (by omega)⟩
              case round =>
                obtain ⟨j, hj1, hj2, rfl, rfl, HZ⟩ := hrel
                have HJ1 := Lib.hid hj1
                by_cases hlt : j < 12
                · have p1 : decide (((4 + j : Nat) : Int) < 16) = true := decide_eq_true (by omega)
                  have p1n : decide (4 + j < 16) = true := decide_eq_true (by omega)
                  have hix := HAT.out (4 + j) (by have := H24.out; omega)
                  obtain ⟨y, hy⟩ : ∃ y, y = nth t (4 + j) := ⟨_, rfl⟩
                  rw [← hy] at hix
                  have HY := Lib.hid hy
                  obtain ⟨q, hq⟩ : ∃ q, q = 4 + j := ⟨_, rfl⟩
                  have hq1 : IntKind.i64.wrap ((q : Int) + 1) = ((q + 1 : Nat) : Int) := by
                    simp [IntKind.wrap, IntKind.signed, IntKind.bits]
                    omega
                  have HQQ := Lib.hid hq
                  have HJL := Lib.hid hlt
                  rw [← hq] at hix p1 p1n
                  have hq16 : (q : Int) < 16 := by omega
                  rw [← hq]
                  clear hy hq hlt hj1 hj2
                  by_cases hy0 : y = 0
                  · have p2 : ((y : Int) != 0) = false := by rw [hy0]; rfl
                    have HY0 := Lib.hid hy0
                    clear hy0
                    go_wp2_with fail
                    go_roundw
                    case rel =>
                      refine ⟨j + 1, by have := HJ1.out; omega, HJL.out, ?_, by first | rfl | trivial, ?_⟩
                      · have : q + 1 = 4 + (j + 1) := by have := HQQ.out; omega
                        rw [← this]
                        first | rfl | (push_cast; rfl)
                      · show ∀ i, wl ≤ i → i < j + 1 → _
                        intro i h1 h2
                        rcases Nat.lt_or_ge i j with h | h
                        · exact HZ.out i h1 h
                        · obtain rfl : i = j := by omega
                          rw [← HY.out]; exact HY0.out
                    case measure => have := HQQ.out; have := HJL.out; simp [intOf]; omega
                  · have p2 : ((y : Int) != 0) = true := by rw [bne_iff_ne]; omega
                    have hbad : headE t = 70 := by
                      unfold headE
                      rw [if_pos]
                      refine Or.inr (fun hc => hy0 ?_)
                      rw [HY.out]
                      refine (word_field t (by have := H24.out; have := HN.out; omega)).1 hc j ?_ HJL.out
                      rw [← HWL.out]; exact HJ1.out
                    have hE := deco_bad t L (by have := H24.out; have := HN.out; omega) HTX.out HMG.out (by rw [hbad]; decide)
                    rw [hbad] at hE
                    have HE := Lib.hid (HRD.out _ [] 70 ⟨#[]⟩ HI2.out hE strN_nil.symm)
                    clear hy0 hbad hE HRD HI2 HSB HSD HAT HS4 HNM HCK HLW HSM
                    go_wp2_with fail
                    go_ret3
                    exact HE.out
                · have hj12 : j = 12 := by omega
                  subst hj12
                  have HFLD := Lib.hid ((word_field t (by have := H24.out; have := HN.out; omega)).2 (fun i h1 h2 => HZ.out i (by rw [HWL.out]; exact h1) h2))
                  clear hlt hj1 hj2 HJ1 HZ
                  go_wp2_with fail
                  refine (HCK.out _).mono ?_
                  rintro r w3 ⟨rfl, hb3⟩
                  have HI3 := Lib.hid (HI2.out.keep hb3)
                  clear hb3 HCK HI2
                  obtain ⟨we, hwe⟩ : ∃ we, we = wordE (wordN t) := ⟨_, rfl⟩
                  rw [← hwe]
                  have HWE := Lib.hid hwe
                  clear hwe
                  by_cases h0 : we ≠ 0
                  · have p3 : ((we : Int) != 0) = true := by rw [bne_iff_ne]; omega
                    have hbad : headE t = 70 := by
                      unfold headE
                      rw [if_pos (Or.inl (by rw [← HWE.out]; exact h0))]
                    have hE := deco_bad t L (by have := H24.out; have := HN.out; omega) HTX.out HMG.out (by rw [hbad]; decide)
                    rw [hbad] at hE
                    have HE := Lib.hid (HRD.out _ [] 70 ⟨#[]⟩ HI3.out hE strN_nil.symm)
                    clear h0 hbad hE HRD HI3 HSB HSD HAT HS4 HNM HLW HSM
                    go_wp2_with fail
                    go_ret3
                    exact HE.out
                  have h0 : we = 0 := by omega
                  have p3 : ((we : Int) != 0) = false := by rw [h0]; rfl
                  have HW0 : Hid (wordE (wordN t) = 0) := HWE.out.symm.trans h0
                  have hs16 : ∀ W, (Instr.slice 9 (.string u) (some (.int .i64 16)) (some (.int .i64 20)) none).run Tryd.prog W = .ok (.string (strN ((t.drop 16).take 4))) W := HSB.out 16 20 (by omega) (by have := H24.out; omega)
                  have HLC := Lib.hid (HLW.out w3)
                  clear h0 HLW
                  obtain ⟨ul, hul⟩ : ∃ ul, ul = strN ((t.drop 16).take 4) := ⟨_, rfl⟩
                  rw [← hul] at hs16 HLC
                  clear hul
                  go_wp2_with fail
                  refine HLC.out.mono ?_
                  rintro r w4 ⟨rfl, rfl⟩
                  clear HLC hs16
                  have hdb : dataN t < 4294967296 := dataN_lt t HTX.out
                  obtain ⟨dn, hdn⟩ : ∃ dn, dn = dataN t := ⟨_, rfl⟩
                  rw [← hdn] at hdb ⊢
                  have HDN := Lib.hid hdn
                  clear hdn
                  by_cases hbig : 16384 < dn
                  · have p4 : decide ((16384 : Int) < (dn : Int)) = true := decide_eq_true (by omega)
                    have hbad : headE t = 2 := by
                      unfold headE
                      rw [if_neg (by rintro (h | h); exact h HW0.out; exact h HFLD.out), if_pos (by rw [← HDN.out]; exact hbig)]
                    have hE := deco_bad t L (by have := H24.out; have := HN.out; omega) HTX.out HMG.out (by rw [hbad]; decide)
                    rw [hbad] at hE
                    have HE := Lib.hid (HRD.out _ [] 2 ⟨#[]⟩ HI3.out hE strN_nil.symm)
                    clear hbig hbad hE HRD HI3 HSB HSD HAT HS4 HNM HSM
                    go_wp2_with fail
                    go_ret3
                    exact HE.out
                  have p4 : decide ((16384 : Int) < (dn : Int)) = false := decide_eq_false (by omega)
                  have HH0 : Hid (headE t = 0) := by
                    show _ = _
                    unfold headE
                    rw [if_neg (by rintro (h | h); exact h HW0.out; exact h HFLD.out), if_neg (by rw [← HDN.out]; exact hbig)]
                  have HDB := Lib.hid (show dn ≤ 16384 by omega)
                  have hwd : IntKind.i64.wrap (dn : Int) = (dn : Int) := by
                    simp [IntKind.wrap, IntKind.signed, IntKind.bits]
                    omega
                  have hwn : IntKind.i64.wrap ((n : Int) - 24) = (n : Int) - 24 := by
                    have := HN.out
                    have := HTL.out
                    have := H24.out
                    simp [IntKind.wrap, IntKind.signed, IntKind.bits]
                    omega
                  obtain ⟨m24, hm24⟩ : ∃ m, m = 24 + dn := ⟨_, rfl⟩
                  have hw24 : IntKind.i64.wrap (24 + (dn : Int)) = (m24 : Int) := by
                    simp [IntKind.wrap, IntKind.signed, IntKind.bits]
                    omega
                  have HM24 := Lib.hid hm24
                  clear hm24
                  clear hbig hdb
                  by_cases hsh : n < 24 + dn
                  · have p5 : decide ((n : Int) - 24 < (dn : Int)) = true := decide_eq_true (by omega)
                    have HE := Lib.hid (HRD.out _ t 0 u HI3.out (deco_part t L (by have := H24.out; have := HN.out; omega) HTX.out HMG.out HH0.out (by rw [← HDN.out, ← HN.out]; exact hsh)) HU.out)
                    clear hsh HRD HI3 HSB HSD HAT HS4 HNM HSM
                    go_wp2_with fail
                    go_ret3
                    exact HE.out
                  have p5 : decide ((n : Int) - 24 < (dn : Int)) = false := decide_eq_false (by omega)
                  have HSH := Lib.hid (show 24 + dn ≤ n by omega)
                  have hs24 := HSB.out 24 (24 + dn) (by omega) (by omega)
                  rw [show 24 + dn - 24 = dn by omega] at hs24
                  rw [← HM24.out] at hs24
                  have hs24' : ∀ W, (Instr.slice 9 (.string u) (some (.int .i64 24)) (some (.int .i64 (m24 : Int))) none).run Tryd.prog W = .ok (.string (strN ((t.drop 24).take dn))) W := hs24
                  have hs20 : ∀ W, (Instr.slice 9 (.string u) (some (.int .i64 20)) (some (.int .i64 24)) none).run Tryd.prog W = .ok (.string (strN ((t.drop 20).take 4))) W := HSB.out 20 24 (by omega) (by have := H24.out; omega)
                  have hdx : ∀ x ∈ (t.drop 24).take dn, x < 256 := fun x h => HTX.out x (List.mem_of_mem_drop (List.mem_of_mem_take h))
                  have hsd := HSD.out (24 + dn) HSH.out
                  rw [← HM24.out] at hsd
                  have HSMC := Lib.hid (HSM.out ((t.drop 24).take dn) hdx (by rw [List.length_take]; have := HDB.out; omega))
                  have hcmp := str_eqb (sum4 ((t.drop 24).take dn)) ((t.drop 20).take 4) (sum4_lt _) (fun x h => HTX.out x (List.mem_of_mem_drop (List.mem_of_mem_take h)))
                  obtain ⟨ud, hud⟩ : ∃ ud, ud = strN ((t.drop 24).take dn) := ⟨_, rfl⟩
                  rw [← hud] at hs24' HSMC
                  have HUD := Lib.hid hud
                  clear hs24 hsh hdx hud HSM
                  go_upto_region 23 with fail
                  refine decR23 u ud w4 _ _ _ _ _ _ _ _ _ _ _ _ _ _ _ _ _ _ _ _ _ _ _ _ _ _ _ _ _ _ _ _ _ _ _ _ _ _ _ _ _ _ _ _ _ _ _ _ _ _ _ _ _ _ _ _ _ _ _ _ _ _ _ _ _ _ _ _ _ _ _ _ _ _ _ _ _ _ _ _ _ _ _ _ _ _ _ _ (strN ((t.drop 20).take 4)) (strN (sum4 ((t.drop 24).take dn))) (decide (sum4 ((t.drop 24).take dn) = (t.drop 20).take 4)) hcmp hs20 (Lib.hid (fun W _ => HSMC.out W)) (Lib.hid (fun _ _ _ _ w5 hb5 => ?_))
                  have HI5 := Lib.hid (HI3.out.keep hb5)
                  have htf : tailF t L = if sum4 ((t.drop 24).take dn) = (t.drop 20).take 4 then ⟨[], 0, L ++ [(wordN t, (t.drop 24).take dn)]⟩ else ⟨[], 81, L⟩ := by
                    unfold tailF
                    rw [← HDN.out]
                  have HTF := Lib.hid htf
                  have hwh := deco_whole t L HTX.out HMG.out HH0.out (by rw [← HDN.out, ← HN.out]; exact HSH.out)
                  rw [← HDN.out] at hwh
                  have HWH := Lib.hid hwh
                  clear hb5 HI3 hcmp hs20 hs24' htf hwh HSMC
                  by_cases hsm : sum4 ((t.drop 24).take dn) = (t.drop 20).take 4
                  · have p6 : (!decide (sum4 ((t.drop 24).take dn) = (t.drop 20).take 4)) = false := by rw [decide_eq_true hsm]; rfl
                    rw [p6]
                    have htl2 := HTF.out
                    rw [if_pos hsm] at htl2
                    have HT2 := Lib.hid htl2
                    have hA : Below w5.heap.size w5 (w5.alloc (.cells #[.string uw, .string ud] 32)) := (Below.refl _ _).alloc (Nat.le_refl _) _
                    have hrow1 : RowV wdR (w5.alloc (.cells #[.string uw, .string ud] 32)) (w5.alloc (.cells #[.string uw, .string ud] 32)).heap.size (.slice (some ⟨w5.heap.size, 0, none⟩) 1 1) [(wordN t, (t.drop 24).take dn)] := row_built wdR_ok (L := [(wordN t, (t.drop 24).take dn)]) (t := 32) (by
                      have h := Bk.new w5 32 #[.string uw, .string ud]
                      rw [HUW.out, HUD.out] at h
                      rw [HUW.out, HUD.out]
                      exact h) rfl (by omega)
                    obtain ⟨lsz, hlsz⟩ : ∃ lsz, lsz = L.length := ⟨_, rfl⟩
                    obtain ⟨s5, c5, hse⟩ := HI5.out.row.slice
                    injection hse with e1 e2 e3
                    have HLO := Lib.hid e2
                    clear e2 e3 e1 hlsz
                    obtain ⟨v6, W6, hr6, hM6, hb6, hB6⟩ := appR wdR_ok L [(wordN t, (t.drop 24).take dn)] (.slice so lo co) (.slice (some ⟨w5.heap.size, 0, none⟩) 1 1) w.heap.size (w5.alloc (.cells #[.string uw, .string ud] 32)) (HI5.out.row.keep hA) (Nat.le_trans HI5.out.bel.size hA.size) hrow1 (by have := HI5.out.few; have := HI5.out.kle; have := HL.out; simp; omega)
                    obtain ⟨s6, c6, rfl⟩ := hM6.slice
                    have HINV : Hid (DecInv w W6 S (k + (24 + dn)) (.slice s6 (L ++ [(wordN t, (t.drop 24).take dn)]).length c6) (L ++ [(wordN t, (t.drop 24).take dn)])) := by
                      refine ⟨?_, hM6, (HI5.out.bel.trans (hA.mono HI5.out.bel.size)).trans hb6, ?_, ?_⟩
                      · rw [List.take_add, FZ_app, HI5.out.st]
                        have htk : (S.drop k).take (24 + dn) = t.take (24 + dn) := by rw [HT.out]
                        rw [htk]
                        have h1 := deco_whole (t.take (24 + dn)) L (take_in HTX.out _) (by rw [List.take_take, Nat.min_eq_left (by omega)]; exact HMG.out) (by rw [headE_take t _ (by omega)]; exact HH0.out) (by rw [dataN_take t _ (by omega), ← HDN.out, List.length_take]; have := HSH.out; have := HN.out; omega)
                        rw [dataN_take t _ (by omega), ← HDN.out] at h1
                        rw [h1, List.drop_eq_nil_of_le (by rw [List.length_take]; omega), feedL_nil]
                        unfold tailF
                        rw [dataN_take t _ (by omega), ← HDN.out, take_dt t (24 + dn) 24 dn (by omega), take_dt t (24 + dn) 20 4 (by omega), if_pos hsm, wordN_take t _ (by omega)]
                      · rw [List.length_append]
                        have := HI5.out.few
                        simp
                        omega
                      · have := HSH.out
                        have := HN.out
                        have h2 : t.length = S.length - k := by rw [HT.out, List.length_drop]
                        have := HI5.out.kle
                        omega
                    have HDD : Hid (t.drop m24 = S.drop (k + (24 + dn))) := by
                      show _ = _
                      rw [HT.out, List.drop_drop, HM24.out]
                    have HSZ : Hid ((strN (t.drop m24)).size < u.size) := by
                      show _ < _
                      rw [strN_size, List.length_drop, hzu, HN.out]
                      have := HSH.out
                      have := HN.out
                      have := HM24.out
                      omega
                    rw [HDD.out] at hsd HSZ
                    obtain ⟨us, hus⟩ : ∃ us, us = strN (S.drop (k + (24 + dn))) := ⟨_, rfl⟩
                    rw [← hus] at hsd HSZ
                    have HUS := Lib.hid hus
                    obtain ⟨n6, hn6⟩ : ∃ n6, n6 = (L ++ [(wordN t, (t.drop 24).take dn)]).length := ⟨_, rfl⟩
                    rw [← hn6] at hr6 HINV
                    clear hrow1 hA hM6 hb6 hB6 hus hn6 htl2 hsm p6 HRD
                    go_wp2_with (refine wpList_appG2 (v1 := .slice so lo co) (v2 := .slice (some ⟨w5.heap.size, 0, none⟩) 1 1) 45 rfl (.tmp 78) (.tmp 82) rfl rfl rfl rfl hr6 ?_)
                    go_roundw
                    case rel => exact ⟨k + (24 + dn), _, s6, n6, c6, by rw [HUS.out], rfl, HINV.out⟩
                    case measure => exact HSZ.out
                  · have p6 : (!decide (sum4 ((t.drop 24).take dn) = (t.drop 20).take 4)) = true := by rw [decide_eq_false hsm]; rfl
                    rw [p6]
                    have hE := HWH.out
                    rw [HTF.out, if_neg hsm, feedL_bad ⟨[], 81, L⟩ (by show (81 : Nat) ≠ 0; decide)] at hE
                    have HE := Lib.hid (HRD.out _ [] 81 ⟨#[]⟩ HI5.out hE strN_nil.symm)
                    clear hsm p6 hE HRD HI5 HSB HSD HAT HS4 HNM
                    go_wp2_with fail
                    go_ret3
                    exact HE.out
            · have p1 : decide (((4 + wl : Nat) : Int) < 16) = false := decide_eq_false (by omega)
              have p1n : decide (4 + wl < 16) = false := decide_eq_false (by omega)
              clear hw12
              have hsw := HSB.out 4 (4 + wl) (by omega) (by have := HW12.out; have := H24.out; omega) 
              have hcut : (t.drop 4).take (4 + wl - 4) = wordN t := by
                rw [show 4 + wl - 4 = wl by omega]
                exact HWT.out.symm
              rw [hcut] at hsw
              clear hcut
              have HSW : Hid (∀ W, (Instr.slice 9 (.string u) (some (.int .i64 4)) (some (.int .i64 ((4 + wl : Nat) : Int))) none).run Tryd.prog W = .ok (.string (strN (wordN t))) W) := hsw
              clear hsw
              have hsw2 := HSW.out
              obtain ⟨uw, huw⟩ : ∃ uw, uw = strN (wordN t) := ⟨_, rfl⟩
              rw [← huw] at hsw2 HCK
              have HUW := Lib.hid huw
              clear huw HSW
              obtain ⟨kw, hkw⟩ : ∃ kw, kw = 4 + wl := ⟨_, rfl⟩
              rw [← hkw] at hsw2 p1 p1n ⊢
              try rw [← hkw] at hix
              have HKW := Lib.hid hkw
              clear hkw
              go_wp2_with fail
              go_loopw [8] (fun iv wi => ∃ j : Nat, wl ≤ j ∧ j ≤ 12 ∧ iv = .int .i64 ((4 + j : Nat) : Int) ∧ wi = wr ∧ Hid (∀ i, wl ≤ i → i < j → nth t (4 + i) = 0)) (fun iv _ => 16 - (intOf iv).toNat)
              case atStart => exact ⟨wl, Nat.le_refl _, HW12.out, by rw [HKW.out], by first | rfl | trivial, fun i h1 h2 => absurd h2 (by omega)⟩
              case round =>
                obtain ⟨j, hj1, hj2, rfl, rfl, HZ⟩ := hrel
                have HJ1 := Lib.hid hj1
                by_cases hlt : j < 12
                · have p1 : decide (((4 + j : Nat) : Int) < 16) = true := decide_eq_true (by omega)
                  have p1n : decide (4 + j < 16) = true := decide_eq_true (by omega)
                  have hix := HAT.out (4 + j) (by have := H24.out; omega)
                  obtain ⟨y, hy⟩ : ∃ y, y = nth t (4 + j) := ⟨_, rfl⟩
                  rw [← hy] at hix
                  have HY := Lib.hid hy
                  obtain ⟨q, hq⟩ : ∃ q, q = 4 + j := ⟨_, rfl⟩
                  have hq1 : IntKind.i64.wrap ((q : Int) + 1) = ((q + 1 : Nat) : Int) := by
                    simp [IntKind.wrap, IntKind.signed, IntKind.bits]
                    omega
                  have HQQ := Lib.hid hq
                  have HJL := Lib.hid hlt
                  rw [← hq] at hix p1 p1n
                  have hq16 : (q : Int) < 16 := by omega
                  rw [← hq]
                  clear hy hq hlt hj1 hj2
                  by_cases hy0 : y = 0
                  · have p2 : ((y : Int) != 0) = false := by rw [hy0]; rfl
                    have HY0 := Lib.hid hy0
                    clear hy0
                    go_wp2_with fail
                    go_roundw
                    case rel =>
                      refine ⟨j + 1, by have := HJ1.out; omega, HJL.out, ?_, by first | rfl | trivial, ?_⟩
                      · have : q + 1 = 4 + (j + 1) := by have := HQQ.out; omega
                        rw [← this]
                        first | rfl | (push_cast; rfl)
                      · show ∀ i, wl ≤ i → i < j + 1 → _
                        intro i h1 h2
                        rcases Nat.lt_or_ge i j with h | h
                        · exact HZ.out i h1 h
                        · obtain rfl : i = j := by omega
                          rw [← HY.out]; exact HY0.out
                    case measure => have := HQQ.out; have := HJL.out; simp [intOf]; omega
                  · have p2 : ((y : Int) != 0) = true := by rw [bne_iff_ne]; omega
                    have hbad : headE t = 70 := by
                      unfold headE
                      rw [if_pos]
                      refine Or.inr (fun hc => hy0 ?_)
                      rw [HY.out]
                      refine (word_field t (by have := H24.out; have := HN.out; omega)).1 hc j ?_ HJL.out
                      rw [← HWL.out]; exact HJ1.out
                    have hE := deco_bad t L (by have := H24.out; have := HN.out; omega) HTX.out HMG.out (by rw [hbad]; decide)
                    rw [hbad] at hE
                    have HE := Lib.hid (HRD.out _ [] 70 ⟨#[]⟩ HI2.out hE strN_nil.symm)
                    clear hy0 hbad hE HRD HI2 HSB HSD HAT HS4 HNM HCK HLW HSM
                    go_wp2_with fail
                    go_ret3
                    exact HE.out
                · have hj12 : j = 12 := by omega
                  subst hj12
                  have HFLD := Lib.hid ((word_field t (by have := H24.out; have := HN.out; omega)).2 (fun i h1 h2 => HZ.out i (by rw [HWL.out]; exact h1) h2))
                  clear hlt hj1 hj2 HJ1 HZ
                  go_wp2_with fail
                  refine (HCK.out _).mono ?_
                  rintro r w3 ⟨rfl, hb3⟩
                  have HI3 := Lib.hid (HI2.out.keep hb3)
                  clear hb3 HCK HI2
                  obtain ⟨we, hwe⟩ : ∃ we, we = wordE (wordN t) := ⟨_, rfl⟩
                  rw [← hwe]
                  have HWE := Lib.hid hwe
                  clear hwe
                  by_cases h0 : we ≠ 0
                  · have p3 : ((we : Int) != 0) = true := by rw [bne_iff_ne]; omega
                    have hbad : headE t = 70 := by
                      unfold headE
                      rw [if_pos (Or.inl (by rw [← HWE.out]; exact h0))]
                    have hE := deco_bad t L (by have := H24.out; have := HN.out; omega) HTX.out HMG.out (by rw [hbad]; decide)
                    rw [hbad] at hE
                    have HE := Lib.hid (HRD.out _ [] 70 ⟨#[]⟩ HI3.out hE strN_nil.symm)
                    clear h0 hbad hE HRD HI3 HSB HSD HAT HS4 HNM HLW HSM
                    go_wp2_with fail
                    go_ret3
                    exact HE.out
                  have h0 : we = 0 := by omega
                  have p3 : ((we : Int) != 0) = false := by rw [h0]; rfl
                  have HW0 : Hid (wordE (wordN t) = 0) := HWE.out.symm.trans h0
                  have hs16 : ∀ W, (Instr.slice 9 (.string u) (some (.int .i64 16)) (some (.int .i64 20)) none).run Tryd.prog W = .ok (.string (strN ((t.drop 16).take 4))) W := HSB.out 16 20 (by omega) (by have := H24.out; omega)
                  have HLC := Lib.hid (HLW.out w3)
                  clear h0 HLW
                  obtain ⟨ul, hul⟩ : ∃ ul, ul = strN ((t.drop 16).take 4) := ⟨_, rfl⟩
                  rw [← hul] at hs16 HLC
                  clear hul
                  go_wp2_with fail
                  refine HLC.out.mono ?_
                  rintro r w4 ⟨rfl, rfl⟩
                  clear HLC hs16
                  have hdb : dataN t < 4294967296 := dataN_lt t HTX.out
                  obtain ⟨dn, hdn⟩ : ∃ dn, dn = dataN t := ⟨_, rfl⟩
                  rw [← hdn] at hdb ⊢
                  have HDN := Lib.hid hdn
                  clear hdn
                  by_cases hbig : 16384 < dn
                  · have p4 : decide ((16384 : Int) < (dn : Int)) = true := decide_eq_true (by omega)
                    have hbad : headE t = 2 := by
                      unfold headE
                      rw [if_neg (by rintro (h | h); exact h HW0.out; exact h HFLD.out), if_pos (by rw [← HDN.out]; exact hbig)]
                    have hE := deco_bad t L (by have := H24.out; have := HN.out; omega) HTX.out HMG.out (by rw [hbad]; decide)
                    rw [hbad] at hE
                    have HE := Lib.hid (HRD.out _ [] 2 ⟨#[]⟩ HI3.out hE strN_nil.symm)
                    clear hbig hbad hE HRD HI3 HSB HSD HAT HS4 HNM HSM
                    go_wp2_with fail
                    go_ret3
                    exact HE.out
                  have p4 : decide ((16384 : Int) < (dn : Int)) = false := decide_eq_false (by omega)
                  have HH0 : Hid (headE t = 0) := by
                    show _ = _
                    unfold headE
                    rw [if_neg (by rintro (h | h); exact h HW0.out; exact h HFLD.out), if_neg (by rw [← HDN.out]; exact hbig)]
                  have HDB := Lib.hid (show dn ≤ 16384 by omega)
                  have hwd : IntKind.i64.wrap (dn : Int) = (dn : Int) := by
                    simp [IntKind.wrap, IntKind.signed, IntKind.bits]
                    omega
                  have hwn : IntKind.i64.wrap ((n : Int) - 24) = (n : Int) - 24 := by
                    have := HN.out
                    have := HTL.out
                    have := H24.out
                    simp [IntKind.wrap, IntKind.signed, IntKind.bits]
                    omega
                  obtain ⟨m24, hm24⟩ : ∃ m, m = 24 + dn := ⟨_, rfl⟩
                  have hw24 : IntKind.i64.wrap (24 + (dn : Int)) = (m24 : Int) := by
                    simp [IntKind.wrap, IntKind.signed, IntKind.bits]
                    omega
                  have HM24 := Lib.hid hm24
                  clear hm24
                  clear hbig hdb
                  by_cases hsh : n < 24 + dn
                  · have p5 : decide ((n : Int) - 24 < (dn : Int)) = true := decide_eq_true (by omega)
                    have HE := Lib.hid (HRD.out _ t 0 u HI3.out (deco_part t L (by have := H24.out; have := HN.out; omega) HTX.out HMG.out HH0.out (by rw [← HDN.out, ← HN.out]; exact hsh)) HU.out)
                    clear hsh HRD HI3 HSB HSD HAT HS4 HNM HSM
                    go_wp2_with fail
                    go_ret3
                    exact HE.out
                  have p5 : decide ((n : Int) - 24 < (dn : Int)) = false := decide_eq_false (by omega)
                  have HSH := Lib.hid (show 24 + dn ≤ n by omega)
                  have hs24 := HSB.out 24 (24 + dn) (by omega) (by omega)
                  rw [show 24 + dn - 24 = dn by omega] at hs24
                  rw [← HM24.out] at hs24
                  have hs24' : ∀ W, (Instr.slice 9 (.string u) (some (.int .i64 24)) (some (.int .i64 (m24 : Int))) none).run Tryd.prog W = .ok (.string (strN ((t.drop 24).take dn))) W := hs24
                  have hs20 : ∀ W, (Instr.slice 9 (.string u) (some (.int .i64 20)) (some (.int .i64 24)) none).run Tryd.prog W = .ok (.string (strN ((t.drop 20).take 4))) W := HSB.out 20 24 (by omega) (by have := H24.out; omega)
                  have hdx : ∀ x ∈ (t.drop 24).take dn, x < 256 := fun x h => HTX.out x (List.mem_of_mem_drop (List.mem_of_mem_take h))
                  have hsd := HSD.out (24 + dn) HSH.out
                  rw [← HM24.out] at hsd
                  have HSMC := Lib.hid (HSM.out ((t.drop 24).take dn) hdx (by rw [List.length_take]; have := HDB.out; omega))
                  have hcmp := str_eqb (sum4 ((t.drop 24).take dn)) ((t.drop 20).take 4) (sum4_lt _) (fun x h => HTX.out x (List.mem_of_mem_drop (List.mem_of_mem_take h)))
                  obtain ⟨ud, hud⟩ : ∃ ud, ud = strN ((t.drop 24).take dn) := ⟨_, rfl⟩
                  rw [← hud] at hs24' HSMC
                  have HUD := Lib.hid hud
                  clear hs24 hsh hdx hud HSM
                  go_upto_region 23 with fail
                  refine decR23 u ud w4 _ _ _ _ _ _ _ _ _ _ _ _ _ _ _ _ _ _ _ _ _ _ _ _ _ _ _ _ _ _ _ _ _ _ _ _ _ _ _ _ _ _ _ _ _ _ _ _ _ _ _ _ _ _ _ _ _ _ _ _ _ _ _ _ _ _ _ _ _ _ _ _ _ _ _ _ _ _ _ _ _ _ _ _ _ _ _ _ (strN ((t.drop 20).take 4)) (strN (sum4 ((t.drop 24).take dn))) (decide (sum4 ((t.drop 24).take dn) = (t.drop 20).take 4)) hcmp hs20 (Lib.hid (fun W _ => HSMC.out W)) (Lib.hid (fun _ _ _ _ w5 hb5 => ?_))
                  have HI5 := Lib.hid (HI3.out.keep hb5)
                  have htf : tailF t L = if sum4 ((t.drop 24).take dn) = (t.drop 20).take 4 then ⟨[], 0, L ++ [(wordN t, (t.drop 24).take dn)]⟩ else ⟨[], 81, L⟩ := by
                    unfold tailF
                    rw [← HDN.out]
                  have HTF := Lib.hid htf
                  have hwh := deco_whole t L HTX.out HMG.out HH0.out (by rw [← HDN.out, ← HN.out]; exact HSH.out)
                  rw [← HDN.out] at hwh
                  have HWH := Lib.hid hwh
                  clear hb5 HI3 hcmp hs20 hs24' htf hwh HSMC
                  by_cases hsm : sum4 ((t.drop 24).take dn) = (t.drop 20).take 4
                  · have p6 : (!decide (sum4 ((t.drop 24).take dn) = (t.drop 20).take 4)) = false := by rw [decide_eq_true hsm]; rfl
                    rw [p6]
                    have htl2 := HTF.out
                    rw [if_pos hsm] at htl2
                    have HT2 := Lib.hid htl2
                    have hA : Below w5.heap.size w5 (w5.alloc (.cells #[.string uw, .string ud] 32)) := (Below.refl _ _).alloc (Nat.le_refl _) _
                    have hrow1 : RowV wdR (w5.alloc (.cells #[.string uw, .string ud] 32)) (w5.alloc (.cells #[.string uw, .string ud] 32)).heap.size (.slice (some ⟨w5.heap.size, 0, none⟩) 1 1) [(wordN t, (t.drop 24).take dn)] := row_built wdR_ok (L := [(wordN t, (t.drop 24).take dn)]) (t := 32) (by
                      have h := Bk.new w5 32 #[.string uw, .string ud]
                      rw [HUW.out, HUD.out] at h
                      rw [HUW.out, HUD.out]
                      exact h) rfl (by omega)
                    obtain ⟨lsz, hlsz⟩ : ∃ lsz, lsz = L.length := ⟨_, rfl⟩
                    obtain ⟨s5, c5, hse⟩ := HI5.out.row.slice
                    injection hse with e1 e2 e3
                    have HLO := Lib.hid e2
                    clear e2 e3 e1 hlsz
                    obtain ⟨v6, W6, hr6, hM6, hb6, hB6⟩ := appR wdR_ok L [(wordN t, (t.drop 24).take dn)] (.slice so lo co) (.slice (some ⟨w5.heap.size, 0, none⟩) 1 1) w.heap.size (w5.alloc (.cells #[.string uw, .string ud] 32)) (HI5.out.row.keep hA) (Nat.le_trans HI5.out.bel.size hA.size) hrow1 (by have := HI5.out.few; have := HI5.out.kle; have := HL.out; simp; omega)
                    obtain ⟨s6, c6, rfl⟩ := hM6.slice
                    have HINV : Hid (DecInv w W6 S (k + (24 + dn)) (.slice s6 (L ++ [(wordN t, (t.drop 24).take dn)]).length c6) (L ++ [(wordN t, (t.drop 24).take dn)])) := by
                      refine ⟨?_, hM6, (HI5.out.bel.trans (hA.mono HI5.out.bel.size)).trans hb6, ?_, ?_⟩
                      · rw [List.take_add, FZ_app, HI5.out.st]
                        have htk : (S.drop k).take (24 + dn) = t.take (24 + dn) := by rw [HT.out]
                        rw [htk]
                        have h1 := deco_whole (t.take (24 + dn)) L (take_in HTX.out _) (by rw [List.take_take, Nat.min_eq_left (by omega)]; exact HMG.out) (by rw [headE_take t _ (by omega)]; exact HH0.out) (by rw [dataN_take t _ (by omega), ← HDN.out, List.length_take]; have := HSH.out; have := HN.out; omega)
                        rw [dataN_take t _ (by omega), ← HDN.out] at h1
                        rw [h1, List.drop_eq_nil_of_le (by rw [List.length_take]; omega), feedL_nil]
                        unfold tailF
                        rw [dataN_take t _ (by omega), ← HDN.out, take_dt t (24 + dn) 24 dn (by omega), take_dt t (24 + dn) 20 4 (by omega), if_pos hsm, wordN_take t _ (by omega)]
                      · rw [List.length_append]
                        have := HI5.out.few
                        simp
                        omega
                      · have := HSH.out
                        have := HN.out
                        have h2 : t.length = S.length - k := by rw [HT.out, List.length_drop]
                        have := HI5.out.kle
                        omega
                    have HDD : Hid (t.drop m24 = S.drop (k + (24 + dn))) := by
                      show _ = _
                      rw [HT.out, List.drop_drop, HM24.out]
                    have HSZ : Hid ((strN (t.drop m24)).size < u.size) := by
                      show _ < _
                      rw [strN_size, List.length_drop, hzu, HN.out]
                      have := HSH.out
                      have := HN.out
                      have := HM24.out
                      omega
                    rw [HDD.out] at hsd HSZ
                    obtain ⟨us, hus⟩ : ∃ us, us = strN (S.drop (k + (24 + dn))) := ⟨_, rfl⟩
                    rw [← hus] at hsd HSZ
                    have HUS := Lib.hid hus
                    obtain ⟨n6, hn6⟩ : ∃ n6, n6 = (L ++ [(wordN t, (t.drop 24).take dn)]).length := ⟨_, rfl⟩
                    rw [← hn6] at hr6 HINV
                    clear hrow1 hA hM6 hb6 hB6 hus hn6 htl2 hsm p6 HRD
                    go_wp2_with (refine wpList_appG2 (v1 := .slice so lo co) (v2 := .slice (some ⟨w5.heap.size, 0, none⟩) 1 1) 45 rfl (.tmp 78) (.tmp 82) rfl rfl rfl rfl hr6 ?_)
                    go_roundw
                    case rel => exact ⟨k + (24 + dn), _, s6, n6, c6, by rw [HUS.out], rfl, HINV.out⟩
                    case measure => exact HSZ.out
                  · have p6 : (!decide (sum4 ((t.drop 24).take dn) = (t.drop 20).take 4)) = true := by rw [decide_eq_false hsm]; rfl
                    rw [p6]
                    have hE := HWH.out
                    rw [HTF.out, if_neg hsm, feedL_bad ⟨[], 81, L⟩ (by show (81 : Nat) ≠ 0; decide)] at hE
                    have HE := Lib.hid (HRD.out _ [] 81 ⟨#[]⟩ HI5.out hE strN_nil.symm)
                    clear hsm p6 hE HRD HI5 HSB HSD HAT HS4 HNM
                    go_wp2_with fail
                    go_ret3
                    exact HE.out
      · have q5 : (!decide (t.take 4 = magL)) = true := by rw [decide_eq_false hm]; rfl
        rw [q5]
        have HE := Lib.hid (HRD.out w2 [] 80 ⟨#[]⟩ HI2.out (deco_mag t L (by have := H4.out; have := HN.out; omega) HTX.out hm) strN_nil.symm)
        clear hm q5 HRD HI2 HSB HSD HAT HS4 HNM
        go_wp2_with fail
        go_ret3
        exact HE.out
    · have q4 : decide ((4 : Int) ≤ (n : Int)) = false := decide_eq_false (by omega)
      refine decR2L n u wr _ _ _ _ _ _ _ _ _ _ _ _ _ _ _ _ _ _ _ _ _ _ _ _ _ _ _ _ _ _ _ _ _ _ _ _ _ _ _ _ _ _ _ _ _ _ _ _ _ _ _ _ _ _ _ _ _ _ _ _ _ _ _ _ _ _ _ _ _ _ _ _ _ _ _ _ _ _ _ _ _ _ _ _ _ _ _ _ _ hzu q4 (Lib.hid (fun _ _ _ _ _ _ _ _ w2 hb2 => ?_))
      have HI2 := Lib.hid (HI.out.keep hb2)
      have q24 : decide ((n : Int) < 24) = true := decide_eq_true (by omega)
      have q24n : decide (n < 24) = true := decide_eq_true (by omega)
      have HE := Lib.hid (HRD.out w2 t 0 u HI2.out (deco_few t L (by have := HN.out; omega)) HU.out)
      clear h4 q4 HRD HI2 HSB HSD HAT HS4 HNM hb2 HI
      go_wp2_with fail
      go_ret3
      exact HE.out
end Go.Proofs.YtanefmjjbilmiaaDoor
