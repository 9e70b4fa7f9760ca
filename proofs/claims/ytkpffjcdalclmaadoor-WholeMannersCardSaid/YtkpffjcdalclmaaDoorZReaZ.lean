/- Texts in one: Rea, Reb, Rec, Red, Wls, Wma. -/
import Derived.Test.YtkpffjcdalclmaaDoorZWriZ
import Derived.Test.YtkpffjcdalclmaaDoorZBytZ
import Derived.Lib.SlBytesConst
namespace Go.Proofs.YtkpffjcdalclmaaDoor
open Go.RowKit
set_option linter.unusedVariables false
abbrev St := List Nat × Nat
def rdFail (s : St) (c : Nat) : St := ([], if s.2 = 0 then c else s.2)
def rdTake (s : St) (n : Int) : List Nat × St := if 0 ≤ n ∧ n ≤ s.1.length then (s.1.take n.toNat, (s.1.drop n.toNat, s.2)) else ([], rdFail s 6)
def rdNum (s : St) (n : Int) : Nat × St := (ofL ((rdTake s n).1.take 8), (rdTake s n).2)
def rdCnt (s : St) : (Nat × Nat) × St :=
 if (rdNum s 1).1 = 253 then (((rdNum (rdNum s 1).2 2).1, 253), (rdNum (rdNum s 1).2 2).2)
 else if (rdNum s 1).1 = 254 then (((rdNum (rdNum s 1).2 4).1, 65536), (rdNum (rdNum s 1).2 4).2)
 else if (rdNum s 1).1 = 255 then (((rdNum (rdNum s 1).2 8).1, 4294967296), (rdNum (rdNum s 1).2 8).2)
 else (((rdNum s 1).1, 0), (rdNum s 1).2)
def rdCount (s : St) (most : Nat) : Nat × St :=
 if (rdCnt s).2.2 ≠ 0 then (0, (rdCnt s).2)
 else if (rdCnt s).1.1 < (rdCnt s).1.2 then (0, rdFail (rdCnt s).2 70)
 else if most < (rdCnt s).1.1 then (0, rdFail (rdCnt s).2 2)
 else ((rdCnt s).1.1, (rdCnt s).2)
def rdEnd (s : St) : Nat := if s.2 = 0 ∧ 0 < s.1.length then 70 else s.2
def StOk (s : St) : Prop := s.1.length ≤ 1000000 ∧ s.2 < 1000
theorem StOk.fail {s : St} (h : StOk s) {c : Nat} (hc : c < 1000) : StOk (rdFail s c) := by
 refine ⟨Nat.zero_le _, ?_⟩
 unfold rdFail
 show (if s.2 = 0 then c else s.2) < 1000
 split
 ·exact hc
 ·exact h.2
theorem StOk.take {s : St} (h : StOk s) (n : Int) : StOk (rdTake s n).2 := by
 unfold rdTake
 split
 ·refine ⟨?_, h.2⟩
  have := h.1
  show (s.1.drop n.toNat).length ≤ _
  rw [List.length_drop]
  omega
 ·exact h.fail (by omega)
def RdS (w : World) (p : Nat) (v : Value) (s : St) : Prop := Rd w p v s.1 s.2
theorem Rd.but {w w' : World} {p : Nat} {v : Value} {xs : List Nat} {e : Nat} (h : Rd w p v xs e) {S : Nat → Prop} (hb : But S w w') (hp : ¬ S p) (hS : ∀ k, slb v k → ¬ S k) : Rd w' p v xs e := by
 obtain ⟨h1, h2, h3⟩ := h
 refine ⟨hb.keep h1 hp, ?_, h3⟩
 obtain ⟨s, cap, rfl, g1, g2, g3, g4⟩ := h2
 refine ⟨s, cap, rfl, g1, g2, g3, fun hne => ?_⟩
 obtain ⟨b, o, e, hlt, hn, hc⟩ := g4 hne
 subst e
 exact ⟨b, o, rfl, Nat.lt_of_lt_of_le hlt hb.size, hn, fun i hi => (hb.cell (p := ⟨b, o + i, none⟩) hlt (hS b ⟨_, _, _, rfl, rfl⟩)).trans (hc i hi)⟩
theorem Rd.keep {w w' : World} {p : Nat} {v : Value} {xs : List Nat} {e : Nat} (h : Rd w p v xs e) (hb : Below w.heap.size w w') : Rd w' p v xs e :=
 h.but (S := fun _ => False) (But.of hb) (fun h => h) (fun _ _ h => h)
theorem bsn_nil (w : World) (S : Nat → Prop) (s : Option Addr) (c : Nat) (hc : c < 9223372036854775808) : BsN w S (.slice s 0 c) [] := ⟨s, c, rfl, Nat.zero_le _, hc, by simp, fun h => absurd rfl h⟩
set_option maxRecDepth 100000 in
set_option maxHeartbeats 1000000 in
theorem fail_any (p c e : Nat) (s : Option Addr) (n k : Nat) (w : World) (hP : Bk w p 156 #[.slice s n k, .int .i64 (e : Int)]) :
  Calls Tryd.prog 94 #[.pointer (some ⟨p, 0, none⟩), .int .i64 (c : Int)] w fun r w' => r = .returned (.tuple #[]) ∧ Bk w' p 156 #[.slice none 0 0, .int .i64 ((if e = 0 then c else e : Nat) : Int)] ∧ But (fun k => k = p) w w' := by
 have c0 := hP.cell 0
 have c1 := hP.cell 1
 have f0 := hP.frozen 0
 have f1 := hP.frozen 1
 have z0 := hP.lt
 by_cases h : e = 0
 ·subst h
  rw [if_pos rfl]
  go_enter Tryd.func94, Tryd.ntmps94
  go_wp2_with fail
  go_end0
  exact ⟨rfl, (hP.set_ 1 _).set_ 0 _, But.set_ (S := fun k => k = p) (But.set_ (S := fun k => k = p) (But.refl _ w) (.inl rfl) 1 none _) (.inl rfl) 0 none _⟩
 ·rw [if_neg h]
  have hd : ((e : Int) == 0) = false := by simp; omega
  go_enter Tryd.func94, Tryd.ntmps94
  go_wp2_with fail
  go_end0
  exact ⟨rfl, hP.set_ 0 _, But.set_ (S := fun k => k = p) (But.refl _ w) (.inl rfl) 0 none _⟩
end Go.Proofs.YtkpffjcdalclmaaDoor
namespace Go.Proofs.YtkpffjcdalclmaaDoor
open Go.RowKit
set_option linter.unusedVariables false
def Took (p : Nat) (v : Value) (s : St) (w w' : World) (v' : Value) : Prop := RdS w' p v' s ∧ But (fun k => k = p) w w' ∧ ∀ k, slb v' k → slb v k
set_option maxRecDepth 100000 in
set_option maxHeartbeats 1000000 in
theorem take_bad (p : Nat) (n : Int) (v : Value) (s : St) (w : World) (hR : RdS w p v s) (h : n < 0 ∨ ¬ n < 0 ∧ (s.1.length : Int) < n) :
  Calls Tryd.prog 86 #[.pointer (some ⟨p, 0, none⟩), .int .i64 n] w fun r w' => r = .returned (.slice none 0 0) ∧ Took p v (rdFail s 6) w w' (.slice none 0 0) := by
 obtain ⟨xs, e⟩ := s
 obtain ⟨hP, hB, hN⟩ := hR
 obtain ⟨sl, cap, rfl, h1, h2, h3, h4⟩ := hB
 have c0 := hP.cell 0
 have c1 := hP.cell 1
 have f0 := hP.frozen 0
 have f1 := hP.frozen 1
 have z0 := hP.lt
 have HF := Lib.hid (fail_any p 6 e sl xs.length cap w hP)
 have he : (rdFail (xs, e) 6).2 = if e = 0 then 6 else e := rfl
 simp only at h
 generalize xs.length = m at *
 generalize hq : (if e = 0 then 6 else e : Nat) = q at *
 clear h1 h2 h3 h4 hP
 rcases h with h | ⟨h, h'⟩
 ·have hd : decide (n < 0) = true := decide_eq_true h
  go_enter Tryd.func86, Tryd.ntmps86
  go_wp2_with fail
  refine HF.out.mono ?_
  rintro r w1 ⟨rfl, P1, B1⟩
  go_wp2_with fail
  go_ret
  refine ⟨rfl, ⟨?_, bsn_nil _ _ _ _ (by omega), fun n c e => by cases e; rfl⟩, B1, fun k h => absurd h (slb_none _ _ _)⟩
  rw [he]
  exact P1
 ·have hd : decide (n < 0) = false := decide_eq_false h
  have hd2 : decide ((m : Int) < n) = true := decide_eq_true h'
  go_enter Tryd.func86, Tryd.ntmps86
  go_wp2_with fail
  refine HF.out.mono ?_
  rintro r w1 ⟨rfl, P1, B1⟩
  go_wp2_with fail
  go_ret
  refine ⟨rfl, ⟨?_, bsn_nil _ _ _ _ (by omega), fun n c e => by cases e; rfl⟩, B1, fun k h => absurd h (slb_none _ _ _)⟩
  rw [he]
  exact P1
theorem nth_drop (xs : List Nat) (j i : Nat) : nth (xs.drop j) i = nth xs (j + i) := by
 unfold nth
 rw [List.getD, List.getD, List.getElem?_drop]
theorem nth_take (xs : List Nat) (j i : Nat) (h : i < j) : nth (xs.take j) i = nth xs i := by
 unfold nth
 rw [List.getD, List.getD, List.getElem?_take_of_lt h]
theorem bsn_take {w : World} {S : Nat → Prop} {a : Addr} {m cap k : Nat} {xs : List Nat} (h : BsN w S (.slice (some a) m cap) xs) (hk : k ≤ xs.length) : BsN w S (.slice (some a) k cap) (xs.take k) := by
 obtain ⟨s, c, e, h1, h2, h3, h4⟩ := h
 cases e
 have hl : (xs.take k).length = k := by rw [List.length_take]; omega
 refine ⟨some a, cap, by rw [hl], by omega, h2, fun x hx => h3 x (List.mem_of_mem_take hx), fun hne => ?_⟩
 obtain ⟨b, o, e, g1, g2, g3⟩ := h4 (by rintro rfl; simp at hne)
 refine ⟨b, o, e, g1, g2, fun i hi => ?_⟩
 rw [hl] at hi
 rw [nth_take _ _ _ hi]
 exact g3 i (by omega)
theorem bsn_drop {w : World} {S : Nat → Prop} {a : Addr} {m cap k : Nat} {xs : List Nat} (h : BsN w S (.slice (some a) m cap) xs) (hk : k ≤ xs.length) : BsN w S (.slice (some (a.add k)) (m - k) (cap - k)) (xs.drop k) := by
 obtain ⟨s, c, e, h1, h2, h3, h4⟩ := h
 cases e
 have hl : (xs.drop k).length = xs.length - k := List.length_drop
 refine ⟨some (a.add k), cap - k, by rw [hl], by omega, by omega, fun x hx => h3 x (List.mem_of_mem_drop hx), fun hne => ?_⟩
 obtain ⟨b, o, e, g1, g2, g3⟩ := h4 (by rintro rfl; simp at hne)
 cases e
 refine ⟨b, o + k, by rw [Addr.add_mid], g1, g2, fun i hi => ?_⟩
 rw [nth_drop, Nat.add_assoc]
 exact g3 (k + i) (by omega)
theorem slb_add {a : Addr} {n c n' c' k j : Nat} (h : slb (.slice (some (a.add k)) n c) j) : slb (.slice (some a) n' c') j := by
 obtain ⟨o, n1, c1, e, e2⟩ := h
 cases e
 refine ⟨_, _, _, rfl, ?_⟩
 rw [← e2]
 unfold Addr.add
 split <;> rfl
theorem slb_same {a : Addr} {n c n' c' j : Nat} (h : slb (.slice (some a) n c) j) : slb (.slice (some a) n' c') j := by
 obtain ⟨o, n1, c1, e, e2⟩ := h
 cases e
 exact ⟨_, _, _, rfl, e2⟩
set_option maxRecDepth 100000 in
set_option maxHeartbeats 1000000 in
theorem take_good (p k : Nat) (v : Value) (s : St) (w : World) (hR : RdS w p v s) (h : k ≤ s.1.length) (hl : s.1.length ≤ 1000000) :
  Calls Tryd.prog 86 #[.pointer (some ⟨p, 0, none⟩), .int .i64 (k : Int)] w fun r w' => ∃ u, r = .returned u ∧ BsN w' (fun k => k = p) u (s.1.take k) ∧ ∃ v', Took p v (s.1.drop k, s.2) w w' v' := by
 obtain ⟨xs, e⟩ := s
 obtain ⟨hP, hB, hN⟩ := hR
 have HB := Lib.hid hB
 obtain ⟨sl, cap, rfl, h1, h2, h3, h4⟩ := hB
 have c0 := hP.cell 0
 have c1 := hP.cell 1
 have f0 := hP.frozen 0
 have f1 := hP.frozen 1
 have z0 := hP.lt
 have hd : decide ((k : Int) < 0) = false := decide_eq_false (by omega)
 have hd2 : decide ((xs.length : Int) < (k : Int)) = false := decide_eq_false (by simp only at h; omega)
 simp only at h hl
 have hl1 : (xs.take k).length = k := by rw [List.length_take]; omega
 have hl2 : (xs.drop k).length = xs.length - k := List.length_drop
 cases sl with
 | none =>
  have hx0 : xs = [] := by
   by_cases hx : xs = []
   ·exact hx
   ·obtain ⟨b, o, e, _⟩ := h4 hx
    cases e
  subst hx0
  have hc0 := hN _ _ rfl
  subst hc0
  have hk0 : k = 0 := by simpa using h
  subst hk0
  clear h1 h2 h3 h4 hN hl1 hl2 h hl HB
  go_enter Tryd.func86, Tryd.ntmps86
  go_wp2_with fail
  go_ret
  refine ⟨_, rfl, bsn_nil _ _ none 0 (by omega), .slice none 0 0, ⟨?_, bsn_nil _ _ none 0 (by omega), fun n c e => by cases e; rfl⟩, ?_, fun k h => absurd h (slb_none _ _ _)⟩
  ·exact hP.set_ 0 _
  ·exact But.set_ (S := fun k => k = p) (But.refl _ w) (.inl rfl) 0 none _
 | some a =>
  have H3 := Lib.hid h3
  have H4 := Lib.hid h4
  have HN := Lib.hid hN
  have HL1 := Lib.hid hl1
  have HL2 := Lib.hid hl2
  generalize hm : xs.length = m at *
  have HM := Lib.hid hm
  clear h3 h4 hN hl1 hl2 hm
  go_enter Tryd.func86, Tryd.ntmps86
  go_wp2_with fail
  all_goals
   have hS : ∀ u, But (fun k => k = p) w (w.setCell ⟨p, 0, none⟩ u) := fun u => But.set_ (S := fun k => k = p) (But.refl _ w) (.inl rfl) 0 none _
   go_ret
  ·have hkm : k = m := by omega
   subst h
   have hz : xs.drop cap = [] := List.drop_of_length_le (by rw [HM.out]; omega)
   refine ⟨_, rfl, (bsn_take HB.out (by rw [HM.out]; assumption)).but (hS _), _, ⟨hP.set_ 0 _, ?_, fun n c e => by cases e⟩, hS _, fun j hj => slb_same hj⟩
   show BsN _ _ _ (xs.drop cap)
   rw [hz, hkm, Nat.sub_self]
   exact bsn_nil _ _ _ _ (by omega)
  ·refine ⟨_, rfl, (bsn_take HB.out (by rw [HM.out]; assumption)).but (hS _), _, ⟨hP.set_ 0 _, (bsn_drop HB.out (by rw [HM.out]; assumption)).but (hS _), fun n c e => by cases e⟩, hS _, fun j hj => slb_add hj⟩
end Go.Proofs.YtkpffjcdalclmaaDoor
namespace Go.Proofs.YtkpffjcdalclmaaDoor
open Go.RowKit
set_option linter.unusedVariables false
theorem take_any (p : Nat) (n : Int) (v : Value) (s : St) (w : World) (hR : RdS w p v s) (hok : StOk s) :
  Calls Tryd.prog 86 #[.pointer (some ⟨p, 0, none⟩), .int .i64 n] w fun r w' => ∃ u, r = .returned u ∧ BsN w' (fun k => k = p) u (rdTake s n).1 ∧ ∃ v', Took p v (rdTake s n).2 w w' v' := by
 by_cases h : 0 ≤ n ∧ n ≤ s.1.length
 ·obtain ⟨k, rfl⟩ : ∃ k : Nat, n = (k : Int) := ⟨n.toNat, by omega⟩
  have e : rdTake s (k : Int) = (s.1.take k, (s.1.drop k, s.2)) := by
   unfold rdTake
   rw [if_pos h]
   rfl
  rw [e]
  exact take_good p k v s w hR (by omega) hok.1
 ·have e : rdTake s n = ([], rdFail s 6) := by
   unfold rdTake
   rw [if_neg h]
  rw [e]
  refine (take_bad p n v s w hR (by omega)).mono ?_
  rintro r w' ⟨rfl, h⟩
  exact ⟨_, rfl, bsn_nil _ _ none 0 (by omega), _, h⟩
theorem rdTake_lt {w : World} {p : Nat} {v : Value} {s : St} (hR : RdS w p v s) (n : Int) : ∀ x ∈ (rdTake s n).1, x < 256 := by
 obtain ⟨_, ⟨_, _, _, _, _, h, _⟩, _⟩ := hR
 unfold rdTake
 split
 ·exact fun x hx => h x (List.mem_of_mem_take hx)
 ·intro x hx
  cases hx
theorem rdTake_len (s : St) (n : Int) : (rdTake s n).1.length ≤ s.1.length := by
 unfold rdTake
 split
 ·rw [List.length_take]; omega
 ·exact Nat.zero_le _
theorem num_step (ys : List Nat) (k : Nat) (hk : k < ys.length) (hl : ys.length ≤ 1000000) (hx : ∀ x ∈ ys, x < 256) :
  bits BinOp.or IntKind.u64 ((ofL ((ys.take k).take 8) : Nat) : Int) (IntKind.u64.wrap (((nth ys k : Nat) : Int) * 2 ^ min (8 * k) 64)) = ((ofL ((ys.take (k + 1)).take 8) : Nat) : Int) := by
 have hy : nth ys k < 256 := by
  unfold nth
  rw [List.getD, List.getElem?_eq_getElem hk]
  exact hx _ (List.getElem_mem _)
 have hB : ∀ j, j ≤ 8 → ofL ((ys.take k).take j) < B64 := by
  intro j hj
  have h := ofL_lt ((ys.take k).take j) (fun x h => hx x (List.mem_of_mem_take (List.mem_of_mem_take h)))
  refine Nat.lt_of_lt_of_le h ?_
  rw [B64_pow', show (2 : Nat) ^ 64 = 256 ^ 8 by decide]
  exact Nat.pow_le_pow_right (by omega) (by rw [List.length_take, List.length_take]; omega)
 by_cases h8 : k < 8
 ·have e1 : (ys.take k).take 8 = ys.take k := List.take_of_length_le (by rw [List.length_take]; omega)
  have e2 : (ys.take (k + 1)).take 8 = ys.take (k + 1) := List.take_of_length_le (by rw [List.length_take]; omega)
  have h1 := hB 8 (Nat.le_refl _)
  rw [e1] at h1
  rw [e1, e2, ofL_take_succ ys k hk]
  have hlt : ofL (ys.take k) < 256 ^ k := by
   have h := ofL_lt (ys.take k) (fun x h => hx x (List.mem_of_mem_take h))
   rwa [List.length_take, Nat.min_eq_left (by omega)] at h
  have hp : 256 ^ k * nth ys k < B64 := by
   rw [B64_pow', show (2 : Nat) ^ 64 = 256 ^ 7 * 256 by decide]
   have h1 : 256 ^ k ≤ 256 ^ 7 := Nat.pow_le_pow_right (by omega) (by omega)
   exact Nat.lt_of_le_of_lt (Nat.mul_le_mul_right _ h1) (Nat.mul_lt_mul_of_pos_left hy (by decide))
  have e3 : IntKind.u64.wrap (((nth ys k : Nat) : Int) * 2 ^ min (8 * k) 64) = ((256 ^ k * nth ys k : Nat) : Int) := by
   rw [Nat.min_eq_left (by omega)]
   have e : (((nth ys k : Nat) : Int) * 2 ^ (8 * k)) = ((256 ^ k * nth ys k : Nat) : Int) := by
    rw [pow256]
    push_cast
    rw [Int.mul_comm]
   rw [e, IntKind.wrap_u64]
   rw [B64_pow'] at hp
   omega
  rw [e3, or64 _ _ h1 hp]
  congr 1
  rw [Nat.or_comm, or_join (8 * k) (256 ^ k * nth ys k) (ofL (ys.take k)) (by rw [pow256]; exact Nat.mul_mod_right _ _) (by rw [← pow256]; exact hlt), Nat.add_comm]
  rfl
 ·have e1 : (ys.take (k + 1)).take 8 = (ys.take k).take 8 := by
   rw [List.take_take, List.take_take, Nat.min_eq_left (by omega), Nat.min_eq_left (by omega)]
  have e3 : IntKind.u64.wrap (((nth ys k : Nat) : Int) * 2 ^ min (8 * k) 64) = ((0 : Nat) : Int) := by
   rw [Nat.min_eq_right (by omega), show (2 : Int) ^ 64 = 18446744073709551616 by decide, IntKind.wrap_u64]
   omega
  rw [e3, or64 _ _ (hB 8 (Nat.le_refl _)) (by decide), e1, Nat.or_zero]
set_option maxRecDepth 100000 in
set_option maxHeartbeats 1000000 in
theorem num_any (p : Nat) (n : Int) (v : Value) (s : St) (w : World) (hR : RdS w p v s) (hok : StOk s) :
  Calls Tryd.prog 75 #[.pointer (some ⟨p, 0, none⟩), .int .i64 n] w fun r w' => r = .returned (.int .u64 ((rdNum s n).1 : Nat)) ∧ ∃ v', Took p v (rdNum s n).2 w w' v' := by
 have HT := Lib.hid (take_any p n v s w hR hok)
 have HX := Lib.hid (rdTake_lt hR n)
 have HLn := Lib.hid (show (rdTake s n).1.length ≤ 1000000 from Nat.le_trans (rdTake_len s n) hok.1)
 have HE := Lib.hid (show rdNum s n = (ofL ((rdTake s n).1.take 8), (rdTake s n).2) from rfl)
 generalize (rdTake s n).1 = ys at *
 generalize (rdTake s n).2 = t at *
 clear hR hok
 rw [HE.out]
 obtain ⟨A0, hA0⟩ : ∃ A0, A0 = ofL (ys.take 8) := ⟨_, rfl⟩
 show Calls _ _ _ _ fun r w' => r = .returned (.int .u64 ((ofL (ys.take 8) : Nat) : Int)) ∧ ∃ v', Took p v t w w' v'
 rw [← hA0]
 have HA0 := Lib.hid hA0
 clear hA0
 go_enter Tryd.func75, Tryd.ntmps75
 go_wp2_with fail
 refine HT.out.mono ?_
 rintro r w1 ⟨u, rfl, hu, v', hT⟩
 have HTT := Lib.hid hT
 obtain ⟨su, cu, rfl, h1, h2, h3, h4⟩ := hu
 have H4 := Lib.hid h4
 generalize hm : ys.length = m at *
 have HM := Lib.hid hm
 clear hT h3 h4 hm
 have hm6 : m ≤ 1000000 := HLn.out
 go_wp2_with fail
 go_loopw [12, 5] (fun i a wr => ∃ k : Nat, k ≤ m ∧ i = .int .i64 k ∧ a = .int .u64 ((ofL ((ys.take k).take 8) : Nat) : Int) ∧ wr = w1) (fun i _ _ => m - (intOf i).toNat)
 case atStart => exact ⟨0, Nat.zero_le _, rfl, rfl, rfl⟩
 case round =>
  obtain ⟨k, hk, rfl, rfl, rfl⟩ := hrel
  by_cases hlt : k < m
  ·obtain ⟨b, o, rfl, hb, _, hc⟩ := H4.out (by intro e; have := HM.out; rw [e] at this; simp at this; omega)
   have c0 := hc k hlt
   have HS := num_step ys k (by rw [HM.out]; exact hlt) (by rw [HM.out]; exact hm6) HX.out
   have hy : nth ys k < 256 := by
    have h := HX.out
    unfold nth
    rw [List.getD, List.getElem?_eq_getElem (by rw [HM.out]; exact hlt)]
    exact h _ (List.getElem_mem _)
   generalize ofL ((ys.take k).take 8) = A at *
   have HS := Lib.hid HS
   generalize nth ys k = y at *
   have q0 : IntKind.i64.wrap (8 * (k : Int)) = 8 * (k : Int) := IntWalk.i64_in _ (by omega)
   have q1 : IntKind.u64.wrap (y : Int) = (y : Int) := by rw [IntKind.wrap_u64]; omega
   have n0 : (8 * (k : Int)).toNat = 8 * k := by omega
   have j0 : (0 : Int) ≤ 8 * (k : Int) := by omega
   clear hc hy
   go_wp2_with fail
   go_roundw
   case rel =>
    first | exact ⟨k + 1, by omega, by go_num, rfl, trivial⟩ | exact ⟨k + 1, by omega, by go_num, congrArg (Value.int .u64) HS.out, trivial⟩
   case measure => simp [intOf]; omega
  ·have hkm : k = m := by omega
   have hdk : decide (k < m) = false := decide_eq_false (by omega)
   have e1 : ys.take k = ys := List.take_of_length_le (by have := HM.out; omega)
   rw [e1, ← HA0.out]
   clear hlt hkm e1
   go_wp2_with fail
   go_ret
   exact ⟨rfl, v', HTT.out⟩
end Go.Proofs.YtkpffjcdalclmaaDoor
namespace Go.Proofs.YtkpffjcdalclmaaDoor
open Go.RowKit
set_option linter.unusedVariables false
theorem Took.trans {p : Nat} {v v1 v2 : Value} {s1 s2 : St} {w w1 w2 : World} (h : Took p v s1 w w1 v1) (k : Took p v1 s2 w1 w2 v2) : Took p v s2 w w2 v2 :=
 ⟨k.1, h.2.1.trans k.2.1 (fun _ _ h => h), fun j hj => h.2.2 j (k.2.2 j hj)⟩
theorem Took.later {p : Nat} {v v1 : Value} {s1 : St} {w w1 w2 : World} (h : Took p v s1 w w1 v1) (hb : Below w1.heap.size w1 w2) : Took p v s1 w w2 v1 :=
 ⟨h.1.keep hb, h.2.1.step hb, h.2.2⟩
theorem Mine.mono {W : World} {lo lo' : Nat} {v : Value} {xs : List Nat} (h : Mine W lo v xs) (hl : lo' ≤ lo) : Mine W lo' v xs := by
 rcases h with h | ⟨T, cap, z, e, hc, hc2, hT, K⟩
 ·exact .inl h
 ·exact .inr ⟨T, cap, z, e, hc, hc2, Nat.le_trans hl hT, K⟩
theorem StOk.num {s : St} (h : StOk s) (n : Int) : StOk (rdNum s n).2 := h.take n
theorem StOk.cnt {s : St} (h : StOk s) : StOk (rdCnt s).2 := by
 unfold rdCnt
 split
 ·exact (h.num 1).num 2
 ·split
  ·exact (h.num 1).num 4
  ·split
   ·exact (h.num 1).num 8
   ·exact h.num 1
theorem StOk.count {s : St} (h : StOk s) (m : Nat) : StOk (rdCount s m).2 := by
 unfold rdCount
 split
 ·exact h.cnt
 ·split
  ·exact h.cnt.fail (by omega)
  ·split
   ·exact h.cnt.fail (by omega)
   ·exact h.cnt
set_option maxRecDepth 100000 in
set_option maxHeartbeats 1000000 in
theorem cnt_two (p : Nat) (v : Value) (s : St) (w : World) (hR : RdS w p v s) (hok : StOk s) (h : (rdNum s 1).1 = 253) :
  Calls Tryd.prog 101 #[.pointer (some ⟨p, 0, none⟩)] w fun r w' => r = .returned (.tuple #[.int .u64 ((rdCnt s).1.1 : Nat), .int .u64 ((rdCnt s).1.2 : Nat)]) ∧ ∃ v', Took p v (rdCnt s).2 w w' v' := by
 have e : rdCnt s = (((rdNum (rdNum s 1).2 2).1, 253), (rdNum (rdNum s 1).2 2).2) := by unfold rdCnt; rw [if_pos h]
 rw [e]
 have H1 := num_any p 1 v s w hR hok
 have HK := Lib.hid (hok.num 1)
 rw [h] at H1
 generalize (rdNum s 1).2 = t at *
 have H1 := Lib.hid H1
 clear hR hok h e
 go_enter Tryd.func101, Tryd.ntmps101
 go_wp2_with fail
 refine H1.out.mono ?_
 rintro r w1 ⟨rfl, v1, T1⟩
 have T1 := Lib.hid T1
 have H2 := Lib.hid (num_any p 2 v1 t w1 T1.out.1 HK.out)
 go_wp2_with fail
 refine H2.out.mono ?_
 rintro r w2 ⟨rfl, v2, T2⟩
 have T2 := Lib.hid T2
 go_wp2_with fail
 exact bodyPost_ret (results_tmp2 rfl _ _ _) rfl ⟨rfl, v2, T1.out.trans T2.out⟩
set_option maxRecDepth 100000 in
set_option maxHeartbeats 1000000 in
theorem cnt_four (p : Nat) (v : Value) (s : St) (w : World) (hR : RdS w p v s) (hok : StOk s) (h : (rdNum s 1).1 = 254) :
  Calls Tryd.prog 101 #[.pointer (some ⟨p, 0, none⟩)] w fun r w' => r = .returned (.tuple #[.int .u64 ((rdCnt s).1.1 : Nat), .int .u64 ((rdCnt s).1.2 : Nat)]) ∧ ∃ v', Took p v (rdCnt s).2 w w' v' := by
 have e : rdCnt s = (((rdNum (rdNum s 1).2 4).1, 65536), (rdNum (rdNum s 1).2 4).2) := by unfold rdCnt; rw [if_neg (by omega), if_pos h]
 rw [e]
 have H1 := num_any p 1 v s w hR hok
 have HK := Lib.hid (hok.num 1)
 rw [h] at H1
 generalize (rdNum s 1).2 = t at *
 have H1 := Lib.hid H1
 clear hR hok h e
 go_enter Tryd.func101, Tryd.ntmps101
 go_wp2_with fail
 refine H1.out.mono ?_
 rintro r w1 ⟨rfl, v1, T1⟩
 have T1 := Lib.hid T1
 have H2 := Lib.hid (num_any p 4 v1 t w1 T1.out.1 HK.out)
 go_wp2_with fail
 refine H2.out.mono ?_
 rintro r w2 ⟨rfl, v2, T2⟩
 have T2 := Lib.hid T2
 go_wp2_with fail
 exact bodyPost_ret (results_tmp2 rfl _ _ _) rfl ⟨rfl, v2, T1.out.trans T2.out⟩
set_option maxRecDepth 100000 in
set_option maxHeartbeats 1000000 in
theorem cnt_eight (p : Nat) (v : Value) (s : St) (w : World) (hR : RdS w p v s) (hok : StOk s) (h : (rdNum s 1).1 = 255) :
  Calls Tryd.prog 101 #[.pointer (some ⟨p, 0, none⟩)] w fun r w' => r = .returned (.tuple #[.int .u64 ((rdCnt s).1.1 : Nat), .int .u64 ((rdCnt s).1.2 : Nat)]) ∧ ∃ v', Took p v (rdCnt s).2 w w' v' := by
 have e : rdCnt s = (((rdNum (rdNum s 1).2 8).1, 4294967296), (rdNum (rdNum s 1).2 8).2) := by unfold rdCnt; rw [if_neg (by omega), if_neg (by omega), if_pos h]
 rw [e]
 have H1 := num_any p 1 v s w hR hok
 have HK := Lib.hid (hok.num 1)
 rw [h] at H1
 generalize (rdNum s 1).2 = t at *
 have H1 := Lib.hid H1
 clear hR hok h e
 go_enter Tryd.func101, Tryd.ntmps101
 go_wp2_with fail
 refine H1.out.mono ?_
 rintro r w1 ⟨rfl, v1, T1⟩
 have T1 := Lib.hid T1
 have H2 := Lib.hid (num_any p 8 v1 t w1 T1.out.1 HK.out)
 go_wp2_with fail
 refine H2.out.mono ?_
 rintro r w2 ⟨rfl, v2, T2⟩
 have T2 := Lib.hid T2
 go_wp2_with fail
 exact bodyPost_ret (results_tmp2 rfl _ _ _) rfl ⟨rfl, v2, T1.out.trans T2.out⟩
set_option maxRecDepth 100000 in
set_option maxHeartbeats 1000000 in
theorem cnt_one (p : Nat) (v : Value) (s : St) (w : World) (hR : RdS w p v s) (hok : StOk s) (h1 : (rdNum s 1).1 ≠ 253) (h2 : (rdNum s 1).1 ≠ 254) (h3 : (rdNum s 1).1 ≠ 255) :
  Calls Tryd.prog 101 #[.pointer (some ⟨p, 0, none⟩)] w fun r w' => r = .returned (.tuple #[.int .u64 ((rdCnt s).1.1 : Nat), .int .u64 ((rdCnt s).1.2 : Nat)]) ∧ ∃ v', Took p v (rdCnt s).2 w w' v' := by
 have e : rdCnt s = (((rdNum s 1).1, 0), (rdNum s 1).2) := by unfold rdCnt; rw [if_neg h1, if_neg h2, if_neg h3]
 rw [e]
 have H1 := Lib.hid (num_any p 1 v s w hR hok)
 generalize (rdNum s 1).2 = t at *
 generalize (rdNum s 1).1 = f at *
 have d1 : ((f : Int) == 253) = false := by simp; omega
 have d2 : ((f : Int) == 254) = false := by simp; omega
 have d3 : ((f : Int) == 255) = false := by simp; omega
 clear hR hok h1 h2 h3 e
 go_enter Tryd.func101, Tryd.ntmps101
 go_wp2_with fail
 refine H1.out.mono ?_
 rintro r w1 ⟨rfl, v1, T1⟩
 have T1 := Lib.hid T1
 go_wp2_with fail
 exact bodyPost_ret (results_tmp2 rfl _ _ _) rfl ⟨rfl, v1, T1.out⟩
theorem cnt_any (p : Nat) (v : Value) (s : St) (w : World) (hR : RdS w p v s) (hok : StOk s) :
  Calls Tryd.prog 101 #[.pointer (some ⟨p, 0, none⟩)] w fun r w' => r = .returned (.tuple #[.int .u64 ((rdCnt s).1.1 : Nat), .int .u64 ((rdCnt s).1.2 : Nat)]) ∧ ∃ v', Took p v (rdCnt s).2 w w' v' := by
 by_cases h1 : (rdNum s 1).1 = 253
 ·exact cnt_two p v s w hR hok h1
 by_cases h2 : (rdNum s 1).1 = 254
 ·exact cnt_four p v s w hR hok h2
 by_cases h3 : (rdNum s 1).1 = 255
 ·exact cnt_eight p v s w hR hok h3
 ·exact cnt_one p v s w hR hok h1 h2 h3
theorem Took.failed {p : Nat} {v v1 : Value} {t : St} {w w1 w2 : World} {c : Nat} (h : Took p v t w w1 v1) (hP : Bk w2 p 156 #[.slice none 0 0, .int .i64 ((if t.2 = 0 then c else t.2 : Nat) : Int)]) (hb : But (fun k => k = p) w1 w2) : Took p v (rdFail t c) w w2 (.slice none 0 0) :=
 ⟨⟨hP, bsn_nil _ _ none 0 (by omega), fun n c e => by cases e; rfl⟩, h.2.1.trans hb (fun _ _ h => h), fun j hj => absurd hj (slb_none _ _ _)⟩
set_option maxRecDepth 100000 in
set_option maxHeartbeats 1000000 in
theorem count_err (p most : Nat) (v : Value) (s : St) (w : World) (hR : RdS w p v s) (hok : StOk s) (h : (rdCnt s).2.2 ≠ 0) :
  Calls Tryd.prog 90 #[.pointer (some ⟨p, 0, none⟩), .int .u64 (most : Int)] w fun r w' => r = .returned (.int .u64 ((rdCount s most).1 : Nat)) ∧ ∃ v', Took p v (rdCount s most).2 w w' v' := by
 have e : rdCount s most = (0, (rdCnt s).2) := by unfold rdCount; rw [if_pos h]
 rw [e]
 have H1 := Lib.hid (cnt_any p v s w hR hok)
 generalize (rdCnt s).2 = t at *
 generalize (rdCnt s).1.1 = a at *
 generalize (rdCnt s).1.2 = b at *
 have d1 : ((t.2 : Int) != 0) = true := by simp; omega
 clear hR hok e
 go_enter Tryd.func90, Tryd.ntmps90
 go_wp2_with fail
 refine H1.out.mono ?_
 rintro r w1 ⟨rfl, v1, T1⟩
 obtain ⟨sl, cap, hv1, _⟩ := T1.1.2.1
 subst hv1
 generalize t.1.length = q at *
 have T1 := Lib.hid T1
 have c1 := T1.out.1.1.cell 1
 have f1 := T1.out.1.1.frozen 1
 have z1 := T1.out.1.1.lt
 go_wp2_with fail
 go_ret
 exact ⟨rfl, _, T1.out⟩
set_option maxRecDepth 100000 in
set_option maxHeartbeats 1000000 in
theorem count_form (p most : Nat) (v : Value) (s : St) (w : World) (hR : RdS w p v s) (hok : StOk s) (h0 : (rdCnt s).2.2 = 0) (h : (rdCnt s).1.1 < (rdCnt s).1.2) :
  Calls Tryd.prog 90 #[.pointer (some ⟨p, 0, none⟩), .int .u64 (most : Int)] w fun r w' => r = .returned (.int .u64 ((rdCount s most).1 : Nat)) ∧ ∃ v', Took p v (rdCount s most).2 w w' v' := by
 have e : rdCount s most = (0, rdFail (rdCnt s).2 70) := by unfold rdCount; rw [if_neg (by omega), if_pos h]
 rw [e]
 have H1 := Lib.hid (cnt_any p v s w hR hok)
 generalize (rdCnt s).2 = t at *
 generalize (rdCnt s).1.1 = a at *
 generalize (rdCnt s).1.2 = b at *
 have d1 : ((t.2 : Int) != 0) = false := by simp; omega
 have d2 : decide ((a : Int) < (b : Int)) = true := decide_eq_true (by omega)
 clear hR hok e
 go_enter Tryd.func90, Tryd.ntmps90
 go_wp2_with fail
 refine H1.out.mono ?_
 rintro r w1 ⟨rfl, v1, T1⟩
 obtain ⟨sl, cap, hv1, _⟩ := T1.1.2.1
 subst hv1
 generalize t.1.length = q at *
 have T1 := Lib.hid T1
 have c1 := T1.out.1.1.cell 1
 have f1 := T1.out.1.1.frozen 1
 have z1 := T1.out.1.1.lt
 go_wp2_with fail
 refine (fail_any p 70 t.2 sl q cap w1 T1.out.1.1).mono ?_
 rintro r w2 ⟨rfl, P2, B2⟩
 have P2 := Lib.hid P2
 go_wp2_with fail
 go_ret
 exact ⟨rfl, _, T1.out.failed P2.out B2⟩
set_option maxRecDepth 100000 in
set_option maxHeartbeats 1000000 in
theorem count_long (p most : Nat) (v : Value) (s : St) (w : World) (hR : RdS w p v s) (hok : StOk s) (h0 : (rdCnt s).2.2 = 0) (h1 : ¬ (rdCnt s).1.1 < (rdCnt s).1.2) (h : most < (rdCnt s).1.1) :
  Calls Tryd.prog 90 #[.pointer (some ⟨p, 0, none⟩), .int .u64 (most : Int)] w fun r w' => r = .returned (.int .u64 ((rdCount s most).1 : Nat)) ∧ ∃ v', Took p v (rdCount s most).2 w w' v' := by
 have e : rdCount s most = (0, rdFail (rdCnt s).2 2) := by unfold rdCount; rw [if_neg (by omega), if_neg h1, if_pos h]
 rw [e]
 have H1 := Lib.hid (cnt_any p v s w hR hok)
 generalize (rdCnt s).2 = t at *
 generalize (rdCnt s).1.1 = a at *
 generalize (rdCnt s).1.2 = b at *
 have d1 : ((t.2 : Int) != 0) = false := by simp; omega
 have d2 : decide ((a : Int) < (b : Int)) = false := decide_eq_false (by omega)
 have d3 : decide ((most : Int) < (a : Int)) = true := decide_eq_true (by omega)
 clear hR hok e
 go_enter Tryd.func90, Tryd.ntmps90
 go_wp2_with fail
 refine H1.out.mono ?_
 rintro r w1 ⟨rfl, v1, T1⟩
 obtain ⟨sl, cap, hv1, _⟩ := T1.1.2.1
 subst hv1
 generalize t.1.length = q at *
 have T1 := Lib.hid T1
 have c1 := T1.out.1.1.cell 1
 have f1 := T1.out.1.1.frozen 1
 have z1 := T1.out.1.1.lt
 go_wp2_with fail
 refine (fail_any p 2 t.2 sl q cap w1 T1.out.1.1).mono ?_
 rintro r w2 ⟨rfl, P2, B2⟩
 have P2 := Lib.hid P2
 go_wp2_with fail
 go_ret
 exact ⟨rfl, _, T1.out.failed P2.out B2⟩
set_option maxRecDepth 100000 in
set_option maxHeartbeats 1000000 in
theorem count_good (p most : Nat) (v : Value) (s : St) (w : World) (hR : RdS w p v s) (hok : StOk s) (h0 : (rdCnt s).2.2 = 0) (h1 : ¬ (rdCnt s).1.1 < (rdCnt s).1.2) (h : ¬ most < (rdCnt s).1.1) :
  Calls Tryd.prog 90 #[.pointer (some ⟨p, 0, none⟩), .int .u64 (most : Int)] w fun r w' => r = .returned (.int .u64 ((rdCount s most).1 : Nat)) ∧ ∃ v', Took p v (rdCount s most).2 w w' v' := by
 have e : rdCount s most = ((rdCnt s).1.1, (rdCnt s).2) := by unfold rdCount; rw [if_neg (by omega), if_neg h1, if_neg h]
 rw [e]
 have H1 := Lib.hid (cnt_any p v s w hR hok)
 generalize (rdCnt s).2 = t at *
 generalize (rdCnt s).1.1 = a at *
 generalize (rdCnt s).1.2 = b at *
 have d1 : ((t.2 : Int) != 0) = false := by simp; omega
 have d2 : decide ((a : Int) < (b : Int)) = false := decide_eq_false (by omega)
 have d3 : decide ((most : Int) < (a : Int)) = false := decide_eq_false (by omega)
 clear hR hok e
 go_enter Tryd.func90, Tryd.ntmps90
 go_wp2_with fail
 refine H1.out.mono ?_
 rintro r w1 ⟨rfl, v1, T1⟩
 obtain ⟨sl, cap, hv1, _⟩ := T1.1.2.1
 subst hv1
 generalize t.1.length = q at *
 have T1 := Lib.hid T1
 have c1 := T1.out.1.1.cell 1
 have f1 := T1.out.1.1.frozen 1
 have z1 := T1.out.1.1.lt
 go_wp2_with fail
 go_ret
 exact ⟨rfl, _, T1.out⟩
theorem rcount_any (p most : Nat) (v : Value) (s : St) (w : World) (hR : RdS w p v s) (hok : StOk s) :
  Calls Tryd.prog 90 #[.pointer (some ⟨p, 0, none⟩), .int .u64 (most : Int)] w fun r w' => r = .returned (.int .u64 ((rdCount s most).1 : Nat)) ∧ ∃ v', Took p v (rdCount s most).2 w w' v' := by
 by_cases h0 : (rdCnt s).2.2 = 0
 ·by_cases h1 : (rdCnt s).1.1 < (rdCnt s).1.2
  ·exact count_form p most v s w hR hok h0 h1
  ·by_cases h : most < (rdCnt s).1.1
   ·exact count_long p most v s w hR hok h0 h1 h
   ·exact count_good p most v s w hR hok h0 h1 h
 ·exact count_err p most v s w hR hok h0
set_option maxRecDepth 100000 in
set_option maxHeartbeats 1000000 in
theorem rraw_any (p : Nat) (n : Int) (v : Value) (s : St) (w : World) (hR : RdS w p v s) (hok : StOk s) :
  Calls Tryd.prog 89 #[.pointer (some ⟨p, 0, none⟩), .int .i64 n] w fun r w' => ∃ u, r = .returned u ∧ Mine w' w.heap.size u (rdTake s n).1 ∧ ∃ v', Took p v (rdTake s n).2 w w' v' := by
 have H1 := Lib.hid (take_any p n v s w hR hok)
 have HLn := Lib.hid (show (rdTake s n).1.length ≤ 1000000 from Nat.le_trans (rdTake_len s n) hok.1)
 generalize (rdTake s n).1 = ys at *
 generalize (rdTake s n).2 = t at *
 clear hR hok
 go_enter Tryd.func89, Tryd.ntmps89
 go_wp2_with fail
 refine H1.out.mono ?_
 rintro r w1 ⟨u, rfl, hu, v1, T1⟩
 have T1 := Lib.hid T1
 have H2 := Lib.hid (clone_any ys u w1 hu.bs (Nat.le_trans HLn.out (by decide)))
 clear hu
 go_wp2_with fail
 refine H2.out.mono ?_
 rintro r w2 ⟨u2, rfl, M2, B2⟩
 have M2 := Lib.hid M2
 have B2 := Lib.hid B2
 go_wp2_with fail
 go_ret
 exact ⟨_, rfl, M2.out.mono T1.out.2.1.size, _, T1.out.later B2.out⟩
def rdText (s : St) (most : Int) : List Nat × St := rdTake (rdCount s (max most 0).toNat).2 ((rdCount s (max most 0).toNat).1 : Int)
theorem rdCount_le (s : St) (m : Nat) : (rdCount s m).1 ≤ m := by
 unfold rdCount
 split
 ·exact Nat.zero_le _
 ·split
  ·exact Nat.zero_le _
  ·split
   ·exact Nat.zero_le _
   ·show (rdCnt s).1.1 ≤ m
    omega
set_option maxRecDepth 100000 in
set_option maxHeartbeats 1000000 in
theorem text_neg (p : Nat) (most : Int) (v : Value) (s : St) (w : World) (hR : RdS w p v s) (hok : StOk s) (h : most < 0) :
  Calls Tryd.prog 108 #[.pointer (some ⟨p, 0, none⟩), .int .i64 most] w fun r w' => ∃ u, r = .returned u ∧ Mine w' w.heap.size u (rdText s most).1 ∧ ∃ v', Took p v (rdText s most).2 w w' v' := by
 obtain ⟨M, hM⟩ : ∃ M : Nat, M = (max most 0).toNat := ⟨_, rfl⟩
 have H1 := rcount_any p M v s w hR hok
 have HK := Lib.hid (hok.count M)
 have hle := rdCount_le s M
 have HE := Lib.hid (show rdText s most = rdTake (rdCount s M).2 ((rdCount s M).1 : Int) by rw [hM]; rfl)
 rw [HE.out]
 generalize (rdCount s M).2 = t at *
 generalize (rdCount s M).1 = n at *
 rw [show (M : Int) = 0 by omega] at H1
 have H1 := Lib.hid H1
 have d0 : decide (most < 0) = true := decide_eq_true h
 have q1 : IntKind.i64.wrap (n : Int) = (n : Int) := IntWalk.i64_in _ (by omega)
 clear hR hok hM hle
 go_enter Tryd.func108, Tryd.ntmps108
 go_wp2_with fail
 refine H1.out.mono ?_
 rintro r w1 ⟨rfl, v1, T1⟩
 have T1 := Lib.hid T1
 have H2 := Lib.hid (rraw_any p n v1 t w1 T1.out.1 HK.out)
 go_wp2_with fail
 refine H2.out.mono ?_
 rintro r w2 ⟨u2, rfl, M2, v2, T2⟩
 have M2 := Lib.hid M2
 have T2 := Lib.hid T2
 go_wp2_with fail
 go_ret
 exact ⟨_, rfl, M2.out.mono T1.out.2.1.size, _, T1.out.trans T2.out⟩
set_option maxRecDepth 100000 in
set_option maxHeartbeats 1000000 in
theorem text_pos (p : Nat) (most : Int) (v : Value) (s : St) (w : World) (hR : RdS w p v s) (hok : StOk s) (h : ¬ most < 0) (hb : most < 9223372036854775808) :
  Calls Tryd.prog 108 #[.pointer (some ⟨p, 0, none⟩), .int .i64 most] w fun r w' => ∃ u, r = .returned u ∧ Mine w' w.heap.size u (rdText s most).1 ∧ ∃ v', Took p v (rdText s most).2 w w' v' := by
 obtain ⟨M, hM⟩ : ∃ M : Nat, M = (max most 0).toNat := ⟨_, rfl⟩
 have H1 := rcount_any p M v s w hR hok
 have HK := Lib.hid (hok.count M)
 have hle := rdCount_le s M
 have HE := Lib.hid (show rdText s most = rdTake (rdCount s M).2 ((rdCount s M).1 : Int) by rw [hM]; rfl)
 rw [HE.out]
 generalize (rdCount s M).2 = t at *
 generalize (rdCount s M).1 = n at *
 rw [show (M : Int) = most by omega] at H1
 have H1 := Lib.hid H1
 have d0 : decide (most < 0) = false := decide_eq_false h
 have q0 : IntKind.u64.wrap most = most := by rw [IntKind.wrap_u64]; omega
 have q1 : IntKind.i64.wrap (n : Int) = (n : Int) := IntWalk.i64_in _ (by omega)
 clear hR hok hM hle
 go_enter Tryd.func108, Tryd.ntmps108
 go_wp2_with fail
 refine H1.out.mono ?_
 rintro r w1 ⟨rfl, v1, T1⟩
 have T1 := Lib.hid T1
 have H2 := Lib.hid (rraw_any p n v1 t w1 T1.out.1 HK.out)
 go_wp2_with fail
 refine H2.out.mono ?_
 rintro r w2 ⟨u2, rfl, M2, v2, T2⟩
 have M2 := Lib.hid M2
 have T2 := Lib.hid T2
 go_wp2_with fail
 go_ret
 exact ⟨_, rfl, M2.out.mono T1.out.2.1.size, _, T1.out.trans T2.out⟩
theorem rtext_any (p : Nat) (most : Int) (v : Value) (s : St) (w : World) (hR : RdS w p v s) (hok : StOk s) (hb : most < 9223372036854775808) :
  Calls Tryd.prog 108 #[.pointer (some ⟨p, 0, none⟩), .int .i64 most] w fun r w' => ∃ u, r = .returned u ∧ Mine w' w.heap.size u (rdText s most).1 ∧ ∃ v', Took p v (rdText s most).2 w w' v' := by
 by_cases h : most < 0
 ·exact text_neg p most v s w hR hok h
 ·exact text_pos p most v s w hR hok h hb
set_option maxRecDepth 100000 in
set_option maxHeartbeats 1000000 in
theorem rend_any (p : Nat) (v : Value) (s : St) (w : World) (hR : RdS w p v s) :
  Calls Tryd.prog 82 #[.pointer (some ⟨p, 0, none⟩)] w fun r w' => r = .returned (.int .i64 (rdEnd s : Nat)) ∧ w' = w := by
 obtain ⟨xs, e⟩ := s
 obtain ⟨hP, ⟨sl, cap, rfl, _⟩, _⟩ := hR
 have c0 := hP.cell 0
 have f0 := hP.frozen 0
 have c1 := hP.cell 1
 have f1 := hP.frozen 1
 have z0 := hP.lt
 have e0 : rdEnd (xs, e) = if e = 0 ∧ 0 < xs.length then 70 else e := rfl
 rw [e0]
 simp only at *
 generalize xs.length = q at *
 by_cases he : e = 0
 ·subst he
  by_cases hq : 0 < q
  ·rw [if_pos ⟨rfl, hq⟩]
   have d0 : decide ((0 : Int) < (q : Int)) = true := decide_eq_true (by omega)
   go_enter Tryd.func82, Tryd.ntmps82
   go_wp2_with fail
   go_ret
   exact ⟨rfl, rfl⟩
  ·rw [if_neg (fun h => hq h.2)]
   have d0 : decide ((0 : Int) < (q : Int)) = false := decide_eq_false (by omega)
   go_enter Tryd.func82, Tryd.ntmps82
   go_wp2_with fail
   go_ret
   exact ⟨rfl, rfl⟩
 ·rw [if_neg (fun h => he h.1)]
  have d0 : ((e : Int) == 0) = false := by simp; omega
  go_enter Tryd.func82, Tryd.ntmps82
  go_wp2_with fail
  go_ret
  exact ⟨rfl, rfl⟩
end Go.Proofs.YtkpffjcdalclmaaDoor
namespace Go.Proofs.YtkpffjcdalclmaaDoor
open Go.RowKit
set_option linter.unusedVariables false
theorem Wrote.below {g lo : Nat} {v : Value} {xs ys : List Nat} {w w' : World} {e : Ending} {B : Nat} (h : Wrote g lo v ys w e w') (hM : Mine w lo v xs) (hlo : B ≤ lo) (hg : B ≤ g) (hB : B ≤ w.heap.size) : Below B w w' := by
 obtain ⟨_, _, _, _, h, _⟩ := h
 refine h.below hB (fun k hk => ?_)
 rcases hk with hk | hk
 ·omega
 ·exact Nat.le_trans hlo (hM.slb_lo hk).1
theorem heap_ltw {w : World} {g : Nat} {o : Obj} (h : w.heap[g]? = some o) : g < w.heap.size := by
 rcases Nat.lt_or_ge g w.heap.size with hlt | hge
 ·exact hlt
 ·rw [Array.getElem?_eq_none hge] at h; cases h
theorem bsn_rowf {w : World} {g n cap : Nat} {t : TypeId} {fr : Nat × Nat} {ys : List Nat} {S : Nat → Prop} (hg : w.heap[g]? = some (.cells (idA ys) t fr)) (hS : ¬ S g) (hn : n = ys.length) (hc : n ≤ cap) (hc2 : cap < 9223372036854775808) (hx : ∀ y ∈ ys, y < 256) : BsN w S (.slice (some ⟨g, 0, none⟩) n cap) ys := by
 subst hn
 refine ⟨some ⟨g, 0, none⟩, cap, rfl, hc, hc2, hx, fun _ => ⟨g, 0, rfl, heap_ltw hg, hS, fun i hi => ?_⟩⟩
 rw [Nat.zero_add, cell_of_row w g i _ _ _ hg, idA_get ys i hi]
 rfl
theorem bsn_row {w : World} {g n cap : Nat} {t : TypeId} {ys : List Nat} {S : Nat → Prop} (hg : Bk w g t (idA ys)) (hS : ¬ S g) (hn : n = ys.length) (hc : n ≤ cap) (hc2 : cap < 9223372036854775808) (hx : ∀ y ∈ ys, y < 256) : BsN w S (.slice (some ⟨g, 0, none⟩) n cap) ys := bsn_rowf hg hS hn hc hc2 hx
end Go.Proofs.YtkpffjcdalclmaaDoor
namespace Go.Proofs.YtkpffjcdalclmaaDoor
open Go.RowKit
set_option linter.unusedVariables false
end Go.Proofs.YtkpffjcdalclmaaDoor
