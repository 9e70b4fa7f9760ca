/-
  Contracts of package wire's Reader: Count, Raw, Text, Left, Err, End.
-/
import Derived.Test.YtfflgimbgmbpaaaRec
namespace Go.Proofs.Ytfflgimbgmbpaaa
open Go.RowKit
set_option linter.unusedVariables false

theorem Took.trans {p : Nat} {v v1 v2 : Value} {s1 s2 : St} {w w1 w2 : World} (h : Took p v s1 w w1 v1) (k : Took p v1 s2 w1 w2 v2) : Took p v s2 w w2 v2 :=
  ⟨k.1, h.2.1.trans k.2.1 (fun _ _ h => h), fun j hj => h.2.2 j (k.2.2 j hj)⟩
theorem Took.later {p : Nat} {v v1 : Value} {s1 : St} {w w1 w2 : World} (h : Took p v s1 w w1 v1) (hb : Below w1.heap.size w1 w2) : Took p v s1 w w2 v1 :=
  ⟨h.1.keep hb, h.2.1.step hb, h.2.2⟩
theorem Mine.mono {W : World} {lo lo' : Nat} {v : Value} {xs : List Nat} (h : Mine W lo v xs) (hl : lo' ≤ lo) : Mine W lo' v xs := by
  rcases h with h | ⟨T, cap, z, e, hc, hc2, hT, K⟩
  · exact .inl h
  · exact .inr ⟨T, cap, z, e, hc, hc2, Nat.le_trans hl hT, K⟩
theorem StOk.num {s : St} (h : StOk s) (n : Int) : StOk (rdNum s n).2 := h.take n
theorem StOk.cnt {s : St} (h : StOk s) : StOk (rdCnt s).2 := by
  unfold rdCnt
  split
  · exact (h.num 1).num 2
  · split
    · exact (h.num 1).num 4
    · split
      · exact (h.num 1).num 8
      · exact h.num 1
theorem StOk.count {s : St} (h : StOk s) (m : Nat) : StOk (rdCount s m).2 := by
  unfold rdCount
  split
  · exact h.cnt
  · split
    · exact h.cnt.fail (by omega)
    · split
      · exact h.cnt.fail (by omega)
      · exact h.cnt
set_option maxRecDepth 100000 in
set_option maxHeartbeats 1000000 in
theorem cnt_two (p : Nat) (v : Value) (s : St) (w : World) (hR : RdS w p v s) (hok : StOk s) (h : (rdNum s 1).1 = 253) :
    Calls Try.prog 25 #[.pointer (some ⟨p, 0, none⟩)] w fun r w' => r = .returned (.tuple #[.int .u64 ((rdCnt s).1.1 : Nat), .int .u64 ((rdCnt s).1.2 : Nat)]) ∧ ∃ v', Took p v (rdCnt s).2 w w' v' := by
  have e : rdCnt s = (((rdNum (rdNum s 1).2 2).1, 253), (rdNum (rdNum s 1).2 2).2) := by unfold rdCnt; rw [if_pos h]
  rw [e]
  have H1 := num_any p 1 v s w hR hok
  have HK := Lib.hid (hok.num 1)
  rw [h] at H1
  generalize (rdNum s 1).2 = t at *
  have H1 := Lib.hid H1
  clear hR hok h e
  go_enter Try.func25, Try.ntmps25
  go_wp2_with fail
  refine H1.out.mono ?_
  rintro r w1 ⟨rfl, v1, T1⟩
  have T1 := Lib.hid T1
  have H2 := Lib.hid (num_any p 2 v1 t w1 T1.out.1 HK.out)
  go_wp2_with fail
  refine H2.out.mono ?_
  rintro r w2 ⟨rfl, v2, T2⟩
  have T2 := Lib.hid T2
  go_wp2_with fail
  exact bodyPost_ret (results_tmp2 rfl _ _ _) rfl ⟨rfl, v2, T1.out.trans T2.out⟩
set_option maxRecDepth 100000 in
set_option maxHeartbeats 1000000 in
theorem cnt_four (p : Nat) (v : Value) (s : St) (w : World) (hR : RdS w p v s) (hok : StOk s) (h : (rdNum s 1).1 = 254) :
    Calls Try.prog 25 #[.pointer (some ⟨p, 0, none⟩)] w fun r w' => r = .returned (.tuple #[.int .u64 ((rdCnt s).1.1 : Nat), .int .u64 ((rdCnt s).1.2 : Nat)]) ∧ ∃ v', Took p v (rdCnt s).2 w w' v' := by
  have e : rdCnt s = (((rdNum (rdNum s 1).2 4).1, 65536), (rdNum (rdNum s 1).2 4).2) := by unfold rdCnt; rw [if_neg (by omega), if_pos h]
  rw [e]
  have H1 := num_any p 1 v s w hR hok
  have HK := Lib.hid (hok.num 1)
  rw [h] at H1
  generalize (rdNum s 1).2 = t at *
  have H1 := Lib.hid H1
  clear hR hok h e
  go_enter Try.func25, Try.ntmps25
  go_wp2_with fail
  refine H1.out.mono ?_
  rintro r w1 ⟨rfl, v1, T1⟩
  have T1 := Lib.hid T1
  have H2 := Lib.hid (num_any p 4 v1 t w1 T1.out.1 HK.out)
  go_wp2_with fail
  refine H2.out.mono ?_
  rintro r w2 ⟨rfl, v2, T2⟩
  have T2 := Lib.hid T2
  go_wp2_with fail
  exact bodyPost_ret (results_tmp2 rfl _ _ _) rfl ⟨rfl, v2, T1.out.trans T2.out⟩
set_option maxRecDepth 100000 in
set_option maxHeartbeats 1000000 in
theorem cnt_eight (p : Nat) (v : Value) (s : St) (w : World) (hR : RdS w p v s) (hok : StOk s) (h : (rdNum s 1).1 = 255) :
    Calls Try.prog 25 #[.pointer (some ⟨p, 0, none⟩)] w fun r w' => r = .returned (.tuple #[.int .u64 ((rdCnt s).1.1 : Nat), .int .u64 ((rdCnt s).1.2 : Nat)]) ∧ ∃ v', Took p v (rdCnt s).2 w w' v' := by
  have e : rdCnt s = (((rdNum (rdNum s 1).2 8).1, 4294967296), (rdNum (rdNum s 1).2 8).2) := by unfold rdCnt; rw [if_neg (by omega), if_neg (by omega), if_pos h]
  rw [e]
  have H1 := num_any p 1 v s w hR hok
  have HK := Lib.hid (hok.num 1)
  rw [h] at H1
  generalize (rdNum s 1).2 = t at *
  have H1 := Lib.hid H1
  clear hR hok h e
  go_enter Try.func25, Try.ntmps25
  go_wp2_with fail
  refine H1.out.mono ?_
  rintro r w1 ⟨rfl, v1, T1⟩
  have T1 := Lib.hid T1
  have H2 := Lib.hid (num_any p 8 v1 t w1 T1.out.1 HK.out)
  go_wp2_with fail
  refine H2.out.mono ?_
  rintro r w2 ⟨rfl, v2, T2⟩
  have T2 := Lib.hid T2
  go_wp2_with fail
  exact bodyPost_ret (results_tmp2 rfl _ _ _) rfl ⟨rfl, v2, T1.out.trans T2.out⟩
set_option maxRecDepth 100000 in
set_option maxHeartbeats 1000000 in
theorem cnt_one (p : Nat) (v : Value) (s : St) (w : World) (hR : RdS w p v s) (hok : StOk s) (h1 : (rdNum s 1).1 ≠ 253) (h2 : (rdNum s 1).1 ≠ 254) (h3 : (rdNum s 1).1 ≠ 255) :
    Calls Try.prog 25 #[.pointer (some ⟨p, 0, none⟩)] w fun r w' => r = .returned (.tuple #[.int .u64 ((rdCnt s).1.1 : Nat), .int .u64 ((rdCnt s).1.2 : Nat)]) ∧ ∃ v', Took p v (rdCnt s).2 w w' v' := by
  have e : rdCnt s = (((rdNum s 1).1, 0), (rdNum s 1).2) := by unfold rdCnt; rw [if_neg h1, if_neg h2, if_neg h3]
  rw [e]
  have H1 := Lib.hid (num_any p 1 v s w hR hok)
  generalize (rdNum s 1).2 = t at *
  generalize (rdNum s 1).1 = f at *
  have d1 : ((f : Int) == 253) = false := by simp; omega
  have d2 : ((f : Int) == 254) = false := by simp; omega
  have d3 : ((f : Int) == 255) = false := by simp; omega
  clear hR hok h1 h2 h3 e
  go_enter Try.func25, Try.ntmps25
  go_wp2_with fail
  refine H1.out.mono ?_
  rintro r w1 ⟨rfl, v1, T1⟩
  have T1 := Lib.hid T1
  go_wp2_with fail
  exact bodyPost_ret (results_tmp2 rfl _ _ _) rfl ⟨rfl, v1, T1.out⟩
theorem cnt_any (p : Nat) (v : Value) (s : St) (w : World) (hR : RdS w p v s) (hok : StOk s) :
    Calls Try.prog 25 #[.pointer (some ⟨p, 0, none⟩)] w fun r w' => r = .returned (.tuple #[.int .u64 ((rdCnt s).1.1 : Nat), .int .u64 ((rdCnt s).1.2 : Nat)]) ∧ ∃ v', Took p v (rdCnt s).2 w w' v' := by
  by_cases h1 : (rdNum s 1).1 = 253
  · exact cnt_two p v s w hR hok h1
  by_cases h2 : (rdNum s 1).1 = 254
  · exact cnt_four p v s w hR hok h2
  by_cases h3 : (rdNum s 1).1 = 255
  · exact cnt_eight p v s w hR hok h3
  · exact cnt_one p v s w hR hok h1 h2 h3
/-- A reader whose bytes are gone. -/
theorem Took.failed {p : Nat} {v v1 : Value} {t : St} {w w1 w2 : World} {c : Nat} (h : Took p v t w w1 v1) (hP : Bk w2 p 57 #[.slice none 0 0, .int .i64 ((if t.2 = 0 then c else t.2 : Nat) : Int)]) (hb : But (fun k => k = p) w1 w2) : Took p v (rdFail t c) w w2 (.slice none 0 0) :=
  ⟨⟨hP, bsn_nil _ _ none 0 (by omega), fun n c e => by cases e; rfl⟩, h.2.1.trans hb (fun _ _ h => h), fun j hj => absurd hj (slb_none _ _ _)⟩
set_option maxRecDepth 100000 in
set_option maxHeartbeats 1000000 in
theorem count_err (p most : Nat) (v : Value) (s : St) (w : World) (hR : RdS w p v s) (hok : StOk s) (h : (rdCnt s).2.2 ≠ 0) :
    Calls Try.prog 17 #[.pointer (some ⟨p, 0, none⟩), .int .u64 (most : Int)] w fun r w' => r = .returned (.int .u64 ((rdCount s most).1 : Nat)) ∧ ∃ v', Took p v (rdCount s most).2 w w' v' := by
  have e : rdCount s most = (0, (rdCnt s).2) := by unfold rdCount; rw [if_pos h]
  rw [e]
  have H1 := Lib.hid (cnt_any p v s w hR hok)
  generalize (rdCnt s).2 = t at *
  generalize (rdCnt s).1.1 = a at *
  generalize (rdCnt s).1.2 = b at *
  have d1 : ((t.2 : Int) != 0) = true := by simp; omega
  clear hR hok e
  go_enter Try.func17, Try.ntmps17
  go_wp2_with fail
  refine H1.out.mono ?_
  rintro r w1 ⟨rfl, v1, T1⟩
  obtain ⟨sl, cap, hv1, _⟩ := T1.1.2.1
  subst hv1
  generalize t.1.length = q at *
  have T1 := Lib.hid T1
  have c1 := T1.out.1.1.cell 1
  have f1 := T1.out.1.1.frozen 1
  have z1 := T1.out.1.1.lt
  go_wp2_with fail
  go_ret
  exact ⟨rfl, _, T1.out⟩
set_option maxRecDepth 100000 in
set_option maxHeartbeats 1000000 in
theorem count_form (p most : Nat) (v : Value) (s : St) (w : World) (hR : RdS w p v s) (hok : StOk s) (h0 : (rdCnt s).2.2 = 0) (h : (rdCnt s).1.1 < (rdCnt s).1.2) :
    Calls Try.prog 17 #[.pointer (some ⟨p, 0, none⟩), .int .u64 (most : Int)] w fun r w' => r = .returned (.int .u64 ((rdCount s most).1 : Nat)) ∧ ∃ v', Took p v (rdCount s most).2 w w' v' := by
  have e : rdCount s most = (0, rdFail (rdCnt s).2 70) := by unfold rdCount; rw [if_neg (by omega), if_pos h]
  rw [e]
  have H1 := Lib.hid (cnt_any p v s w hR hok)
  generalize (rdCnt s).2 = t at *
  generalize (rdCnt s).1.1 = a at *
  generalize (rdCnt s).1.2 = b at *
  have d1 : ((t.2 : Int) != 0) = false := by simp; omega
  have d2 : decide ((a : Int) < (b : Int)) = true := decide_eq_true (by omega)
  clear hR hok e
  go_enter Try.func17, Try.ntmps17
  go_wp2_with fail
  refine H1.out.mono ?_
  rintro r w1 ⟨rfl, v1, T1⟩
  obtain ⟨sl, cap, hv1, _⟩ := T1.1.2.1
  subst hv1
  generalize t.1.length = q at *
  have T1 := Lib.hid T1
  have c1 := T1.out.1.1.cell 1
  have f1 := T1.out.1.1.frozen 1
  have z1 := T1.out.1.1.lt
  go_wp2_with fail
  refine (fail_any p 70 t.2 sl q cap w1 T1.out.1.1).mono ?_
  rintro r w2 ⟨rfl, P2, B2⟩
  have P2 := Lib.hid P2
  go_wp2_with fail
  go_ret
  exact ⟨rfl, _, T1.out.failed P2.out B2⟩
set_option maxRecDepth 100000 in
set_option maxHeartbeats 1000000 in
theorem count_long (p most : Nat) (v : Value) (s : St) (w : World) (hR : RdS w p v s) (hok : StOk s) (h0 : (rdCnt s).2.2 = 0) (h1 : ¬ (rdCnt s).1.1 < (rdCnt s).1.2) (h : most < (rdCnt s).1.1) :
    Calls Try.prog 17 #[.pointer (some ⟨p, 0, none⟩), .int .u64 (most : Int)] w fun r w' => r = .returned (.int .u64 ((rdCount s most).1 : Nat)) ∧ ∃ v', Took p v (rdCount s most).2 w w' v' := by
  have e : rdCount s most = (0, rdFail (rdCnt s).2 2) := by unfold rdCount; rw [if_neg (by omega), if_neg h1, if_pos h]
  rw [e]
  have H1 := Lib.hid (cnt_any p v s w hR hok)
  generalize (rdCnt s).2 = t at *
  generalize (rdCnt s).1.1 = a at *
  generalize (rdCnt s).1.2 = b at *
  have d1 : ((t.2 : Int) != 0) = false := by simp; omega
  have d2 : decide ((a : Int) < (b : Int)) = false := decide_eq_false (by omega)
  have d3 : decide ((most : Int) < (a : Int)) = true := decide_eq_true (by omega)
  clear hR hok e
  go_enter Try.func17, Try.ntmps17
  go_wp2_with fail
  refine H1.out.mono ?_
  rintro r w1 ⟨rfl, v1, T1⟩
  obtain ⟨sl, cap, hv1, _⟩ := T1.1.2.1
  subst hv1
  generalize t.1.length = q at *
  have T1 := Lib.hid T1
  have c1 := T1.out.1.1.cell 1
  have f1 := T1.out.1.1.frozen 1
  have z1 := T1.out.1.1.lt
  go_wp2_with fail
  refine (fail_any p 2 t.2 sl q cap w1 T1.out.1.1).mono ?_
  rintro r w2 ⟨rfl, P2, B2⟩
  have P2 := Lib.hid P2
  go_wp2_with fail
  go_ret
  exact ⟨rfl, _, T1.out.failed P2.out B2⟩
set_option maxRecDepth 100000 in
set_option maxHeartbeats 1000000 in
theorem count_good (p most : Nat) (v : Value) (s : St) (w : World) (hR : RdS w p v s) (hok : StOk s) (h0 : (rdCnt s).2.2 = 0) (h1 : ¬ (rdCnt s).1.1 < (rdCnt s).1.2) (h : ¬ most < (rdCnt s).1.1) :
    Calls Try.prog 17 #[.pointer (some ⟨p, 0, none⟩), .int .u64 (most : Int)] w fun r w' => r = .returned (.int .u64 ((rdCount s most).1 : Nat)) ∧ ∃ v', Took p v (rdCount s most).2 w w' v' := by
  have e : rdCount s most = ((rdCnt s).1.1, (rdCnt s).2) := by unfold rdCount; rw [if_neg (by omega), if_neg h1, if_neg h]
  rw [e]
  have H1 := Lib.hid (cnt_any p v s w hR hok)
  generalize (rdCnt s).2 = t at *
  generalize (rdCnt s).1.1 = a at *
  generalize (rdCnt s).1.2 = b at *
  have d1 : ((t.2 : Int) != 0) = false := by simp; omega
  have d2 : decide ((a : Int) < (b : Int)) = false := decide_eq_false (by omega)
  have d3 : decide ((most : Int) < (a : Int)) = false := decide_eq_false (by omega)
  clear hR hok e
  go_enter Try.func17, Try.ntmps17
  go_wp2_with fail
  refine H1.out.mono ?_
  rintro r w1 ⟨rfl, v1, T1⟩
  obtain ⟨sl, cap, hv1, _⟩ := T1.1.2.1
  subst hv1
  generalize t.1.length = q at *
  have T1 := Lib.hid T1
  have c1 := T1.out.1.1.cell 1
  have f1 := T1.out.1.1.frozen 1
  have z1 := T1.out.1.1.lt
  go_wp2_with fail
  go_ret
  exact ⟨rfl, _, T1.out⟩
theorem rcount_any (p most : Nat) (v : Value) (s : St) (w : World) (hR : RdS w p v s) (hok : StOk s) :
    Calls Try.prog 17 #[.pointer (some ⟨p, 0, none⟩), .int .u64 (most : Int)] w fun r w' => r = .returned (.int .u64 ((rdCount s most).1 : Nat)) ∧ ∃ v', Took p v (rdCount s most).2 w w' v' := by
  by_cases h0 : (rdCnt s).2.2 = 0
  · by_cases h1 : (rdCnt s).1.1 < (rdCnt s).1.2
    · exact count_form p most v s w hR hok h0 h1
    · by_cases h : most < (rdCnt s).1.1
      · exact count_long p most v s w hR hok h0 h1 h
      · exact count_good p most v s w hR hok h0 h1 h
  · exact count_err p most v s w hR hok h0
set_option maxRecDepth 100000 in
set_option maxHeartbeats 1000000 in
theorem rraw_any (p : Nat) (n : Int) (v : Value) (s : St) (w : World) (hR : RdS w p v s) (hok : StOk s) :
    Calls Try.prog 18 #[.pointer (some ⟨p, 0, none⟩), .int .i64 n] w fun r w' => ∃ u, r = .returned u ∧ Mine w' w.heap.size u (rdTake s n).1 ∧ ∃ v', Took p v (rdTake s n).2 w w' v' := by
  have H1 := Lib.hid (take_any p n v s w hR hok)
  have HLn := Lib.hid (show (rdTake s n).1.length ≤ 1000000 from Nat.le_trans (rdTake_len s n) hok.1)
  generalize (rdTake s n).1 = ys at *
  generalize (rdTake s n).2 = t at *
  clear hR hok
  go_enter Try.func18, Try.ntmps18
  go_wp2_with fail
  refine H1.out.mono ?_
  rintro r w1 ⟨u, rfl, hu, v1, T1⟩
  have T1 := Lib.hid T1
  have H2 := Lib.hid (clone_any ys u w1 hu.bs HLn.out)
  clear hu
  go_wp2_with fail
  refine H2.out.mono ?_
  rintro r w2 ⟨u2, rfl, M2, B2⟩
  have M2 := Lib.hid M2
  have B2 := Lib.hid B2
  go_wp2_with fail
  go_ret
  exact ⟨_, rfl, M2.out.mono T1.out.2.1.size, _, T1.out.later B2.out⟩
def rdText (s : St) (most : Int) : List Nat × St := rdTake (rdCount s (max most 0).toNat).2 ((rdCount s (max most 0).toNat).1 : Int)
theorem rdCount_le (s : St) (m : Nat) : (rdCount s m).1 ≤ m := by
  unfold rdCount
  split
  · exact Nat.zero_le _
  · split
    · exact Nat.zero_le _
    · split
      · exact Nat.zero_le _
      · show (rdCnt s).1.1 ≤ m
        omega
set_option maxRecDepth 100000 in
set_option maxHeartbeats 1000000 in
theorem text_neg (p : Nat) (most : Int) (v : Value) (s : St) (w : World) (hR : RdS w p v s) (hok : StOk s) (h : most < 0) :
    Calls Try.prog 19 #[.pointer (some ⟨p, 0, none⟩), .int .i64 most] w fun r w' => ∃ u, r = .returned u ∧ Mine w' w.heap.size u (rdText s most).1 ∧ ∃ v', Took p v (rdText s most).2 w w' v' := by
  obtain ⟨M, hM⟩ : ∃ M : Nat, M = (max most 0).toNat := ⟨_, rfl⟩
  have H1 := rcount_any p M v s w hR hok
  have HK := Lib.hid (hok.count M)
  have hle := rdCount_le s M
  have HE := Lib.hid (show rdText s most = rdTake (rdCount s M).2 ((rdCount s M).1 : Int) by rw [hM]; rfl)
  rw [HE.out]
  generalize (rdCount s M).2 = t at *
  generalize (rdCount s M).1 = n at *
  rw [show (M : Int) = 0 by omega] at H1
  have H1 := Lib.hid H1
  have d0 : decide (most < 0) = true := decide_eq_true h
  have q1 : IntKind.i64.wrap (n : Int) = (n : Int) := IntWalk.i64_in _ (by omega)
  clear hR hok hM hle
  go_enter Try.func19, Try.ntmps19
  go_wp2_with fail
  refine H1.out.mono ?_
  rintro r w1 ⟨rfl, v1, T1⟩
  have T1 := Lib.hid T1
  have H2 := Lib.hid (rraw_any p n v1 t w1 T1.out.1 HK.out)
  go_wp2_with fail
  refine H2.out.mono ?_
  rintro r w2 ⟨u2, rfl, M2, v2, T2⟩
  have M2 := Lib.hid M2
  have T2 := Lib.hid T2
  go_wp2_with fail
  go_ret
  exact ⟨_, rfl, M2.out.mono T1.out.2.1.size, _, T1.out.trans T2.out⟩
set_option maxRecDepth 100000 in
set_option maxHeartbeats 1000000 in
theorem text_pos (p : Nat) (most : Int) (v : Value) (s : St) (w : World) (hR : RdS w p v s) (hok : StOk s) (h : ¬ most < 0) (hb : most < 9223372036854775808) :
    Calls Try.prog 19 #[.pointer (some ⟨p, 0, none⟩), .int .i64 most] w fun r w' => ∃ u, r = .returned u ∧ Mine w' w.heap.size u (rdText s most).1 ∧ ∃ v', Took p v (rdText s most).2 w w' v' := by
  obtain ⟨M, hM⟩ : ∃ M : Nat, M = (max most 0).toNat := ⟨_, rfl⟩
  have H1 := rcount_any p M v s w hR hok
  have HK := Lib.hid (hok.count M)
  have hle := rdCount_le s M
  have HE := Lib.hid (show rdText s most = rdTake (rdCount s M).2 ((rdCount s M).1 : Int) by rw [hM]; rfl)
  rw [HE.out]
  generalize (rdCount s M).2 = t at *
  generalize (rdCount s M).1 = n at *
  rw [show (M : Int) = most by omega] at H1
  have H1 := Lib.hid H1
  have d0 : decide (most < 0) = false := decide_eq_false h
  have q0 : IntKind.u64.wrap most = most := by rw [IntKind.wrap_u64]; omega
  have q1 : IntKind.i64.wrap (n : Int) = (n : Int) := IntWalk.i64_in _ (by omega)
  clear hR hok hM hle
  go_enter Try.func19, Try.ntmps19
  go_wp2_with fail
  refine H1.out.mono ?_
  rintro r w1 ⟨rfl, v1, T1⟩
  have T1 := Lib.hid T1
  have H2 := Lib.hid (rraw_any p n v1 t w1 T1.out.1 HK.out)
  go_wp2_with fail
  refine H2.out.mono ?_
  rintro r w2 ⟨u2, rfl, M2, v2, T2⟩
  have M2 := Lib.hid M2
  have T2 := Lib.hid T2
  go_wp2_with fail
  go_ret
  exact ⟨_, rfl, M2.out.mono T1.out.2.1.size, _, T1.out.trans T2.out⟩
theorem rtext_any (p : Nat) (most : Int) (v : Value) (s : St) (w : World) (hR : RdS w p v s) (hok : StOk s) (hb : most < 9223372036854775808) :
    Calls Try.prog 19 #[.pointer (some ⟨p, 0, none⟩), .int .i64 most] w fun r w' => ∃ u, r = .returned u ∧ Mine w' w.heap.size u (rdText s most).1 ∧ ∃ v', Took p v (rdText s most).2 w w' v' := by
  by_cases h : most < 0
  · exact text_neg p most v s w hR hok h
  · exact text_pos p most v s w hR hok h hb
set_option maxRecDepth 100000 in
set_option maxHeartbeats 1000000 in
theorem left_any (p : Nat) (v : Value) (s : St) (w : World) (hR : RdS w p v s) :
    Calls Try.prog 22 #[.pointer (some ⟨p, 0, none⟩)] w fun r w' => r = .returned (.int .i64 (s.1.length : Nat)) ∧ w' = w := by
  obtain ⟨xs, e⟩ := s
  obtain ⟨hP, ⟨sl, cap, rfl, _⟩, _⟩ := hR
  have c0 := hP.cell 0
  have f0 := hP.frozen 0
  have z0 := hP.lt
  simp only at *
  generalize xs.length = q at *
  go_enter Try.func22, Try.ntmps22
  go_wp2_with fail
  go_ret
  exact ⟨rfl, rfl⟩
set_option maxRecDepth 100000 in
set_option maxHeartbeats 1000000 in
theorem end_any (p : Nat) (v : Value) (s : St) (w : World) (hR : RdS w p v s) :
    Calls Try.prog 21 #[.pointer (some ⟨p, 0, none⟩)] w fun r w' => r = .returned (.int .i64 (rdEnd s : Nat)) ∧ w' = w := by
  obtain ⟨xs, e⟩ := s
  obtain ⟨hP, ⟨sl, cap, rfl, _⟩, _⟩ := hR
  have c0 := hP.cell 0
  have f0 := hP.frozen 0
  have c1 := hP.cell 1
  have f1 := hP.frozen 1
  have z0 := hP.lt
  have e0 : rdEnd (xs, e) = if e = 0 ∧ 0 < xs.length then 70 else e := rfl
  rw [e0]
  simp only at *
  generalize xs.length = q at *
  by_cases he : e = 0
  · subst he
    by_cases hq : 0 < q
    · rw [if_pos ⟨rfl, hq⟩]
      have d0 : decide ((0 : Int) < (q : Int)) = true := decide_eq_true (by omega)
      go_enter Try.func21, Try.ntmps21
      go_wp2_with fail
      go_ret
      exact ⟨rfl, rfl⟩
    · rw [if_neg (fun h => hq h.2)]
      have d0 : decide ((0 : Int) < (q : Int)) = false := decide_eq_false (by omega)
      go_enter Try.func21, Try.ntmps21
      go_wp2_with fail
      go_ret
      exact ⟨rfl, rfl⟩
  · rw [if_neg (fun h => he h.1)]
    have d0 : ((e : Int) == 0) = false := by simp; omega
    go_enter Try.func21, Try.ntmps21
    go_wp2_with fail
    go_ret
    exact ⟨rfl, rfl⟩
end Go.Proofs.Ytfflgimbgmbpaaa
