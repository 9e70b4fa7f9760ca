/-
  Package trace: the laws' look.
-/
import Derived.Test.YtcedljfdnbenoaaTrH
namespace Go.Proofs.Ytcedljfdnbenoaa
open Go.RowKit
open Go.Maps (Keyed IsMap)
set_option linter.unusedVariables false
set_option linter.unusedSimpArgs false
set_option maxRecDepth 100000

/-- A book of the call's own. -/
def Has (w W : World) (g N : Nat) (M : BkM) : Prop := ∃ S, BkI W S g N M ∧ (∀ k, S k → w.heap.size ≤ k) ∧ Below w.heap.size w W
theorem Goes.has {w W W' : World} {S : Nat → Prop} {g N : Nat} {M : BkM} (h : Goes S W g N M W') (hs : ∀ k, S k → w.heap.size ≤ k) (hb : Below w.heap.size w W) : Has w W' g N M := by
  obtain ⟨S', r1, r2, r3⟩ := h
  exact ⟨S', r1, fun k hk => (r2 k hk).elim (hs k) (fun h => Nat.le_trans hb.size h), hb.trans (r3.below hb.size hs)⟩
theorem Has.new (w : World) (N : Nat) : Has w (w.alloc (.cells #[.map none, .map none] 27)) w.heap.size N bk0 :=
  ⟨_, bk_new w N, fun k hk => by rw [hk]; exact Nat.le_refl _, (Below.refl _ _).alloc (Nat.le_refl _) _⟩
theorem Has.keep {w W W' : World} {g N : Nat} {M : BkM} (h : Has w W g N M) (hb : Below W.heap.size W W') : Has w W' g N M := by
  obtain ⟨S, r1, r2, r3⟩ := h
  exact ⟨S, r1.keep hb, r2, r3.trans (hb.mono r3.size)⟩
theorem Has.came {w W : World} {g N : Nat} {M : BkM} (h : Has w W g N M) (id : Int) (hid : InI id) (hN : M.n < 1000000) :
    Calls Try.prog 8 #[bkP g, .int .i64 id] W fun e W' => e = .returned (.int .i64 (cameE M id)) ∧ Has w W' g N (cameM M id) := by
  obtain ⟨S, r1, r2, r3⟩ := h
  refine (came_any r1 id hid hN).mono ?_
  rintro e W' ⟨rfl, hg⟩
  exact ⟨rfl, hg.has r2 r3⟩
theorem Has.said {w W : World} {g N : Nat} {M : BkM} (h : Has w W g N M) (id : Int) (hid : InI id) (MS : Array Value) (kd : Int) (nv : Value) (L : List I32) (h0 : MS[0]? = some (.int .i64 kd)) (h3 : MS[3]? = some nv)
    (hL : kd = 6 → RowV idR W W.heap.size nv L ∧ L.length ≤ 1000000) (hN : N ≤ 1000000) (hA : (M.L id).length ≤ 1000000) :
    Calls Try.prog 9 #[bkP g, .int .i64 id, .agg MS] W fun e W' => e = .returned (.int .i64 (saidE M id kd L)) ∧ Has w W' g (N + 16) (saidM M id kd L) := by
  obtain ⟨S, r1, r2, r3⟩ := h
  refine (said_any r1 id hid MS kd nv L h0 h3 hL hN hA).mono ?_
  rintro e W' ⟨rfl, hg⟩
  exact ⟨rfl, hg.has r2 r3⟩
theorem Has.heard {w W : World} {g N : Nat} {M : BkM} (h : Has w W g N M) (id : Int) (hid : InI id) (MS : Array Value) (kd : Int) (nv : Value) (x : I32) (h0 : MS[0]? = some (.int .i64 kd)) (h3 : MS[3]? = some nv) (hk : kd ≠ 8) :
    Calls Try.prog 10 #[bkP g, .int .i64 id, .agg MS, idV x] W fun e W' => e = .returned (.tuple #[]) ∧ Has w W' g N (heardM M id kd x []) := by
  obtain ⟨S, r1, r2, r3⟩ := h
  refine (heard_any r1 id hid MS kd nv x [] h0 h3 (fun e => absurd e hk)).mono ?_
  rintro e W' ⟨rfl, hg⟩
  exact ⟨rfl, hg.has r2 r3⟩
theorem Has.asked {w W : World} {g N : Nat} {M : BkM} (h : Has w W g N M) (id : Int) (hL : (M.L id).length < 4611686018427387904) :
    Calls Try.prog 14 #[bkP g, .int .i64 id] W fun e W' => e = .returned (.int .i64 ((M.L id).length : Nat)) ∧ Has w W' g N M := by
  have h' := h
  obtain ⟨S, r1, r2, r3⟩ := h
  refine (asked_any r1 id hL).mono ?_
  rintro e W' ⟨rfl, hb⟩
  exact ⟨rfl, h'.keep hb⟩
theorem Has.len {w W : World} {g N : Nat} {M : BkM} (h : Has w W g N M) :
    Calls Try.prog 11 #[bkP g] W fun e W' => e = .returned (.int .i64 (M.n : Int)) ∧ W' = W := by
  obtain ⟨S, r1, r2, r3⟩ := h
  exact len_any r1
theorem Has.gone {w W : World} {g N : Nat} {M : BkM} (h : Has w W g N M) (id : Int) (hid : InI id) :
    Calls Try.prog 13 #[bkP g, .int .i64 id] W fun e W' => e = .returned (.tuple #[]) ∧ Has w W' g N (goneM M id) := by
  obtain ⟨S, r1, r2, r3⟩ := h
  refine (gone_any r1 id hid).mono ?_
  rintro e W' ⟨rfl, hg⟩
  exact ⟨rfl, hg.has r2 r3⟩
/-- A message of nothing. -/
def mszL : List Value := [.int .i64 0, .int .u64 0, .int .u32 0, .slice none 0 0] ++ List.replicate 32 (.int .u8 0) ++ [.slice none 0 0] ++ [.int .u32 0] ++ List.replicate 64 (.int .u8 0) ++ [.int .u32 0, .int .u32 0, .int .u32 0, .slice none 0 0]
def msz : Array Value := mszL.toArray
theorem msz_zero (w : World) : (zeroValue 44).run Try.prog w = .ok (.agg msz) w := by kernel_rfl
def ms1 (k : Int) : Array Value := msz.setIfInBounds 0 (.int .i64 k)
def ms2 (k : Int) (v : Value) : Array Value := (ms1 k).setIfInBounds 3 v
theorem ms1_0 (k : Int) : (ms1 k)[0]? = some (.int .i64 k) := rfl
theorem ms1_3 (k : Int) : (ms1 k)[3]? = some (.slice none 0 0) := rfl
theorem ms2_0 (k : Int) (v : Value) : (ms2 k v)[0]? = some (.int .i64 k) := rfl
theorem ms2_3 (k : Int) (v : Value) : (ms2 k v)[3]? = some v := rfl
theorem msz_ne : (msz = #[]) = False := by simp [msz, mszL]
def idz : Array Value := (idL i0).toArray
theorem idz_zero (w : World) : (zeroValue 36).run Try.prog w = .ok (.agg idz) w := by kernel_rfl
theorem idz_ne : (idz = #[]) = False := by simp [idz, idL, i0]
theorem idV_i0 : idV i0 = .agg idz := rfl
/-- A name of a byte. -/
def idB (x : Nat) (h : x < 256) : I32 := ⟨x :: List.replicate 31 0, by simp, fun b hb => by
  rcases List.mem_cons.1 hb with rfl | hb
  · exact h
  · rw [List.eq_of_mem_replicate hb]; decide⟩
theorem idB_set (x : Nat) (h : x < 256) : idz.setIfInBounds 0 (.int .u8 (x : Int)) = (idL (idB x h)).toArray := by kernel_rfl
theorem calls_eq {P : Program} {f : Nat} {vs : Array Value} {w w' : World} {Q : Ending → World → Prop} (h : w = w') (hc : Calls P f vs w' Q) : Calls P f vs w Q := h ▸ hc
def id1 : I32 := idB 1 (by decide)
def lk1 : BkM := cameM bk0 1
def lk2 : BkM := cameM lk1 1
def lk3 : BkM := saidM lk2 1 9 []
def lk4 : BkM := saidM lk3 1 1 []
def lk5 : BkM := saidM lk4 1 2 []
def lk6 : BkM := heardM lk5 1 1 i0 []
def lk7 : BkM := heardM lk6 1 2 i0 []
def lk8 : BkM := saidM lk7 1 2 []
def lk9 : BkM := saidM lk8 1 6 [id1]
def lk10 : BkM := saidM lk9 1 6 [id1]
theorem lkE : cameE bk0 1 = 0 ∧ cameE lk1 1 = 5 ∧ saidE lk2 1 9 [] = 7 ∧ saidE lk3 1 1 [] = 0 ∧ saidE lk4 1 2 [] = 7 ∧ saidE lk7 1 2 [] = 0 ∧ saidE lk8 1 6 [id1] = 0 ∧ (lk9.L 1).length = 1 ∧ saidE lk9 1 6 [id1] = 5 ∧ lk10.n = 1 := by
  refine ⟨?_, ?_, ?_, ?_, ?_, ?_, ?_, ?_, ?_, ?_⟩ <;> decide +kernel
set_option maxHeartbeats 8000000 in
theorem looks_any (w : World) : Calls Try.prog 7 #[] w fun e w' => e = .returned (.bool true) ∧ Below w.heap.size w w' := by
  obtain ⟨g, hg⟩ : ∃ g, g = w.heap.size := ⟨_, rfl⟩
  have h0 := Has.new w 0
  rw [← hg] at h0
  have H0 := Lib.hid h0
  have hc1 := h0.came 1 (by unfold InI; omega) (by decide)
  unfold bkP at hc1
  rw [lkE.1] at hc1
  clear h0
  go_enter Try.func7, Try.ntmps7
  go_upto_region 2 with fail
  rw [← hg]
  have HG := Lib.hid hg
  refine wp_any (fun W => Calls Try.prog 8 #[.pointer (some ⟨g, 0, none⟩), .int .i64 1] W fun e W' => e = .returned (.int .i64 0) ∧ Has w W' g 0 (cameM bk0 1)) hc1 ?_
  clear hc1 H0 hg
  intro W hc1
  go_wp2_with fail
  refine hc1.mono ?_
  rintro e W1 ⟨rfl, h1⟩
  have hc2 := Has.came (M := lk1) h1 1 (by unfold InI; omega) (by decide)
  rw [lkE.2.1] at hc2
  unfold bkP at hc2
  clear hc1 h1
  go_wp2_with fail
  refine hc2.mono ?_
  rintro e W2 ⟨rfl, h2⟩
  have hc3 := Has.said (M := lk2) h2 1 (by unfold InI; omega) (ms1 9) 9 _ [] (ms1_0 9) (ms1_3 9) (fun e => absurd e (by decide)) (by decide) (by decide)
  rw [lkE.2.2.1] at hc3
  unfold bkP ms1 at hc3
  clear hc2 h2
  have hz := msz_zero
  have hne := msz_ne
  have hzi := idz_zero
  have hnei := idz_ne
  go_wp2_with fail
  refine hc3.mono ?_
  rintro e W3 ⟨rfl, h3⟩
  have hc4 := Has.said (M := lk3) h3 1 (by unfold InI; omega) (ms1 1) 1 _ [] (ms1_0 1) (ms1_3 1) (fun e => absurd e (by decide)) (by decide) (by decide)
  rw [lkE.2.2.2.1] at hc4
  unfold bkP ms1 at hc4
  clear hc3 h3
  go_wp2_with fail
  refine hc4.mono ?_
  rintro e W4 ⟨rfl, h4⟩
  have hc5 := Has.said (M := lk4) h4 1 (by unfold InI; omega) (ms1 2) 2 _ [] (ms1_0 2) (ms1_3 2) (fun e => absurd e (by decide)) (by decide) (by decide)
  rw [lkE.2.2.2.2.1] at hc5
  unfold bkP ms1 at hc5
  clear hc4 h4
  go_wp2_with fail
  refine hc5.mono ?_
  rintro e W5 ⟨rfl, h5⟩
  have hc6 := Has.heard (M := lk5) h5 1 (by unfold InI; omega) (ms1 1) 1 _ i0 (ms1_0 1) (ms1_3 1) (by decide)
  unfold bkP ms1 at hc6
  rw [idV_i0] at hc6
  clear hc5 h5
  go_wp2_with fail
  refine hc6.mono ?_
  rintro e W6 ⟨rfl, h6⟩
  have hc7 := Has.heard (M := lk6) h6 1 (by unfold InI; omega) (ms1 2) 2 _ i0 (ms1_0 2) (ms1_3 2) (by decide)
  unfold bkP ms1 at hc7
  rw [idV_i0] at hc7
  clear hc6 h6
  go_wp2_with fail
  refine hc7.mono ?_
  rintro e W7 ⟨rfl, h7⟩
  have hc8 := Has.said (M := lk7) h7 1 (by unfold InI; omega) (ms1 2) 2 _ [] (ms1_0 2) (ms1_3 2) (fun e => absurd e (by decide)) (by decide) (by decide)
  rw [lkE.2.2.2.2.2.1] at hc8
  unfold bkP ms1 at hc8
  clear hc7 h7
  go_wp2_with fail
  refine hc8.mono ?_
  rintro e W8 ⟨rfl, h8⟩
  go_wp2_with fail
  have hW9 : ∃ W9, W9 = W8.alloc (.cells (idL id1).toArray 36) := ⟨_, rfl⟩
  obtain ⟨W9, hW9⟩ := hW9
  refine calls_eq (w' := W9) (by rw [hW9]; exact congrArg (fun c => W8.alloc (Obj.cells c 36)) (by kernel_rfl)) ?_
  have hK9 : Bk W9 W8.heap.size 36 (idL id1).toArray := by rw [hW9]; exact Bk.new _ _ _
  have h9 : Has w W9 g 64 lk8 := by rw [hW9]; exact Has.keep h8 ((Below.refl _ _).alloc (Nat.le_refl _) _)
  have hr9 : RowV idR W9 W9.heap.size (.slice (some ⟨W8.heap.size, 0, none⟩) 1 1) [id1] := one_rowR idR_ok hK9
  generalize W8.heap.size = q8 at *
  clear hW9 h8 hc8
  have hc9 := Has.said (M := lk8) h9 1 (by unfold InI; omega) (ms2 6 (.slice (some ⟨q8, 0, none⟩) 1 1)) 6 _ [id1] (ms2_0 6 _) (ms2_3 6 _) (fun _ => ⟨hr9, by decide⟩) (by decide) (by decide +kernel)
  rw [lkE.2.2.2.2.2.2.1] at hc9
  unfold bkP ms2 ms1 at hc9
  refine hc9.mono ?_
  rintro e W10 ⟨rfl, h10⟩
  have hc10 := Has.asked (M := lk9) h10 1 (by rw [lkE.2.2.2.2.2.2.2.1]; decide)
  rw [lkE.2.2.2.2.2.2.2.1] at hc10
  unfold bkP at hc10
  clear hc9 h9 h10 hK9 hr9
  go_wp2_with fail
  refine hc10.mono ?_
  rintro e W11 ⟨rfl, h11⟩
  clear hc10
  go_wp2_with fail
  obtain ⟨W12, hW12⟩ : ∃ W12, W12 = W11.alloc (.cells (idL id1).toArray 36) := ⟨_, rfl⟩
  refine calls_eq (w' := W12) (by rw [hW12]; exact congrArg (fun c => W11.alloc (Obj.cells c 36)) (by kernel_rfl)) ?_
  have hK12 : Bk W12 W11.heap.size 36 (idL id1).toArray := by rw [hW12]; exact Bk.new _ _ _
  have h12 : Has w W12 g 80 lk9 := by rw [hW12]; exact Has.keep h11 ((Below.refl _ _).alloc (Nat.le_refl _) _)
  have hr12 : RowV idR W12 W12.heap.size (.slice (some ⟨W11.heap.size, 0, none⟩) 1 1) [id1] := one_rowR idR_ok hK12
  generalize W11.heap.size = q11 at *
  clear hW12 h11
  have hc13 := Has.said (M := lk9) h12 1 (by unfold InI; omega) (ms2 6 (.slice (some ⟨q11, 0, none⟩) 1 1)) 6 _ [id1] (ms2_0 6 _) (ms2_3 6 _) (fun _ => ⟨hr12, by decide⟩) (by decide) (by rw [lkE.2.2.2.2.2.2.2.1]; decide)
  rw [lkE.2.2.2.2.2.2.2.2.1] at hc13
  unfold bkP ms2 ms1 at hc13
  refine hc13.mono ?_
  rintro e W13 ⟨rfl, h13⟩
  have hc14 := Has.len (M := lk10) h13
  rw [lkE.2.2.2.2.2.2.2.2.2] at hc14
  unfold bkP at hc14
  have hB : Hid (Below w.heap.size w W13) := by obtain ⟨_, _, _, h⟩ := h13; exact h
  clear hc13 h12 h13 hK12 hr12
  go_wp2_with fail
  refine hc14.mono ?_
  rintro e W14 ⟨rfl, rfl⟩
  clear hc14
  go_wp2_with fail
  go_ret
  exact ⟨rfl, hB.out⟩
end Go.Proofs.Ytcedljfdnbenoaa
