/-
  The middle of a row of numbers: cloned, sorted, and looked up.
-/
import Derived.Test.YtljfhabhenaapaaDoorInsA
namespace Go.Proofs.YtljfhabhenaapaaDoor
open Go.RowKit
set_option linter.unusedVariables false
set_option linter.unusedSimpArgs false
set_option maxRecDepth 100000
theorem wpList_appX {α : Type} {R : RowT α} (h : R.Ok) {ops : Array Oper} {rest : List Oper} {o : Oper} {a : Act} {w : World} {Q : Exit → Act → World → Prop} {v1 v2 : Value} (xs ys : List α) (lo : Nat)
    (hg : o.guard = none) (s y : Operand) (hop : o.op = Op.call { callee := Callee.builtin Builtin.append, args := #[s, y], argTypes := #[R.t, R.t] }) (hty : o.type = R.t)
    (hs : a.eval s = v1) (hy : a.eval y = v2) (hm : MineR R w lo v1 xs) (hlo : lo ≤ w.heap.size) (hu : RowV R w w.heap.size v2 ys) (hlt : xs.length + ys.length ≤ 1500000)
    (hK : ∀ v W, MineR R W lo v (xs ++ ys) → But (slb v1) w W → (∀ k, slb v k → slb v1 k ∨ w.heap.size ≤ k) → wpList Tryd.prog ops Q rest (a.put o.dst v) W) : wpList Tryd.prog ops Q (o :: rest) a w := by
  obtain ⟨v, W, hrun, hM, hb, hbut⟩ := appB h xs ys v1 v2 lo w hm hlo hu hlt
  refine wpList_plain hg fun K' hK' => ?_
  unfold Oper.wp
  simp [execOp, hop, resolve, invoke, builtin, hs, hy, hty, hrun, Result.andThen]
  exact hK' _ _ (hK v W hM hb hbut)
set_option maxHeartbeats 4000000 in
theorem pdq_any (s0 : List Nat) (T z c : Nat) (lim : Int) (w : World) (hK : Bk w T 28 (csU s0 z)) (hn : s0.length ≤ 12) :
    Calls Tryd.prog 70 #[.slice (some ⟨T, 0, none⟩) s0.length c, .int .i64 0, .int .i64 (s0.length : Int), .int .i64 lim] w fun e w' => e = .returned (.tuple #[]) ∧ ∃ s, InsI w w' T z s0 s ∧ s.Pairwise (· ≤ ·) := by
  have H := Lib.hid (ins_any s0 T z c w hK hn)
  have d1 : decide ((s0.length : Int) ≤ 12) = true := decide_eq_true (by omega)
  have d2 : decide (s0.length ≤ 12) = true := decide_eq_true hn
  clear hK
  generalize s0.length = n at *
  go_enter Tryd.func70, Tryd.ntmps70
  go_wp2_with fail
  refine wp_loop_rounds 1 ?_
  rw [rounds_succ]
  go_wp2_with fail
  refine H.out.mono ?_
  rintro e w1 ⟨rfl, h⟩
  have HH := Lib.hid h
  clear h
  go_wp2_with fail
  exact bodyPost_ret (results_none rfl _ _ _) rfl ⟨rfl, HH.out⟩
set_option maxHeartbeats 4000000 in
theorem blen_any (n : Nat) (h : n ≤ 12) (w : World) : Calls Tryd.prog 71 #[.int .u64 (n : Int)] w fun e w' => e = .returned (.int .i64 (Lib.bitLen n : Int)) ∧ w' = w := by
  have H := Lib.hid (len64c n (by unfold B64; omega) w)
  go_enter Tryd.func71, Tryd.ntmps71
  go_wp2_with fail
  refine H.out.mono ?_
  rintro e w1 ⟨rfl, rfl⟩
  go_wp2_with fail
  go_ret
  exact ⟨rfl, rfl⟩
set_option maxHeartbeats 4000000 in
theorem sort_any (s0 : List Nat) (T z c : Nat) (w : World) (hK : Bk w T 28 (csU s0 z)) (hn : s0.length ≤ 12) :
    Calls Tryd.prog 55 #[.slice (some ⟨T, 0, none⟩) s0.length c] w fun e w' => e = .returned (.tuple #[]) ∧ ∃ s, InsI w w' T z s0 s ∧ s.Pairwise (· ≤ ·) := by
  have H := Lib.hid (fun lim => pdq_any s0 T z c lim w hK hn)
  have HB := Lib.hid (blen_any s0.length hn w)
  have d0 : 0 ≤ (s0.length : Int) := by omega
  have d2 : (s0.length : Int) < 18446744073709551616 := by omega
  clear hK
  generalize s0.length = n at *
  have hwr : IntKind.u64.wrap (n : Int) = (n : Int) := by rw [IntKind.wrap_u64]; omega
  go_enter Tryd.func55, Tryd.ntmps55
  go_wp2_with fail
  refine HB.out.mono ?_
  rintro e w1 ⟨rfl, rfl⟩
  go_wp2_with fail
  refine (H.out _).mono ?_
  rintro e w1 ⟨rfl, h⟩
  have HH := Lib.hid h
  clear h
  go_wp2_with fail
  go_end0
  exact ⟨rfl, HH.out⟩
set_option maxHeartbeats 4000000 in
theorem clone_any (l : List Nat) (v : Value) (w : World) (hu : RowV u32R w w.heap.size v l) (h0 : l ≠ []) (hl : l.length ≤ 1000) :
    Calls Tryd.prog 54 #[v] w fun e w' => ∃ v', e = .returned v' ∧ MineR u32R w' w.heap.size v' l ∧ Below w.heap.size w w' := by
  obtain ⟨s, c, rfl⟩ : ∃ s c, v = .slice s l.length c := hu.slice
  obtain ⟨b, o, rfl, hb, _, _⟩ := hu.at_ h0
  obtain ⟨w1, hw1⟩ : ∃ w1, w1 = w.alloc (.cells #[] 28) := ⟨_, rfl⟩
  have hb1 : Below w.heap.size w w1 := by rw [hw1]; exact (Below.refl _ _).alloc (Nat.le_refl _) _
  have hm : MineR u32R w1 w.heap.size (.slice (some ⟨w.heap.size, 0, none⟩) 0 0) [] := .inr ⟨w.heap.size, 0, 0, rfl, rfl, by decide, Nat.le_refl _, by rw [hw1]; exact Bk.new _ _ _⟩
  have hu1 : RowV u32R w1 w1.heap.size (.slice (some ⟨b, o, none⟩) l.length c) l := (hu.keep hb1 (Nat.le_refl _)).mono hb1.size
  have hslb : ∀ k, slb (.slice (some ⟨w.heap.size, 0, none⟩) 0 0) k → w.heap.size ≤ k := fun k hk => by rw [slb_some hk]; exact Nat.le_refl _
  have hlt : ([] : List Nat).length + l.length ≤ 1500000 := by simp; omega
  have h1 := hb1.size
  have q22 : ∀ (w : World) (a : Option Addr) (n c n' c' : Nat), (binOp .eql 91 (.slice a n c) (.slice none n' c')).run Tryd.prog w = .ok (.bool a.isNone) w := fun w a n c n' c' => Lib.run_eql_slice_nil w _ _ a n c n' c' Tryd.underlying91
  obtain ⟨n, hn⟩ : ∃ n, n = l.length := ⟨_, rfl⟩
  rw [← hn] at hu1 hu ⊢
  have HLT := Lib.hid hlt
  clear hn hlt h0 hl
  go_enter Tryd.func54, Tryd.ntmps54
  have HEND : Hid (∀ v W, MineR u32R W w.heap.size v ([] ++ l) → But (slb (.slice (some ⟨w.heap.size, 0, none⟩) 0 0)) w1 W → MineR u32R W w.heap.size v l ∧ Below w.heap.size w W) := fun v W h1 h2 => ⟨h1, hb1.trans (h2.below hb1.size hslb)⟩
  clear hslb hu hb hb1
  go_upto_region 3 with fail
  go_wp2_with (first | (at_builtin; refine wpList_appX (v1 := .slice (some ⟨w.heap.size, 0, none⟩) 0 0) (v2 := .slice (some ⟨b, o, none⟩) n c) u32R_ok [] l w.heap.size rfl (.tmp 5) (.tmp 6) rfl rfl rfl rfl (by rw [← hw1]; exact hm) (by rw [← hw1]; exact h1) (by rw [← hw1]; exact hu1) HLT.out ?_) | fail)
  intro v9 W9 hM9 hB9 _
  rw [← hw1] at hB9
  obtain ⟨e1, e2⟩ := HEND.out v9 W9 hM9 hB9
  have E1 := Lib.hid e1
  have E2 := Lib.hid e2
  clear e1 e2 hM9 hB9
  go_wp2_with fail
  go_ret
  exact ⟨v9, rfl, E1.out, E2.out⟩
theorem mine_csU {w : World} {lo : Nat} {v : Value} {l : List Nat} (h : MineR u32R w lo v l) (h0 : l ≠ []) : ∃ T z c, v = .slice (some ⟨T, 0, none⟩) l.length c ∧ lo ≤ T ∧ Bk w T 28 (csU l z) := by
  rcases h with ⟨_, e⟩ | ⟨T, cap, z, e, _, _, hT, K⟩
  · exact absurd e h0
  · refine ⟨T, z, cap, e, hT, ?_⟩
    rw [u32_flat] at K
    exact K
set_option maxHeartbeats 4000000 in
theorem mid_any (l : List Nat) (v : Value) (w : World) (hu : RowV u32R w w.heap.size v l) (h0 : 0 < l.length) (hl : l.length ≤ 12) :
    Calls Tryd.prog 42 #[v] w fun e w' => e = .returned (.int .u32 ((midN l : Nat) : Int)) ∧ Below w.heap.size w w' := by
  have hne : l ≠ [] := fun e => by rw [e] at h0; exact absurd h0 (Nat.lt_irrefl _)
  have HC := Lib.hid (clone_any l v w hu hne (by omega))
  have HS : Hid (∀ T z c (W : World), Bk W T 28 (csU l z) → Calls Tryd.prog 55 #[.slice (some ⟨T, 0, none⟩) l.length c] W fun e w' => e = .returned (.tuple #[]) ∧ ∃ s, InsI W w' T z l s ∧ s.Pairwise (· ≤ ·)) := fun T z c W hK => sort_any l T z c W hK hl
  obtain ⟨s, c, rfl⟩ : ∃ s c, v = .slice s l.length c := hu.slice
  obtain ⟨n, hn⟩ : ∃ n, n = l.length := ⟨_, rfl⟩
  have HN := Lib.hid hn
  have HNE := Lib.hid hne
  rw [← hn] at h0 hl HC HS ⊢
  have d1 : ((n : Int) == 0) = false := by simp; omega
  have hdv : (n : Int) / 2 = ((n / 2 : Nat) : Int) := by omega
  have htd : (n : Int).tdiv 2 = ((n / 2 : Nat) : Int) := by rw [Int.tdiv_eq_ediv_of_nonneg (by omega)]; omega
  have hlt2 : n / 2 < n := by omega
  clear hu hn hne
  go_enter Tryd.func42, Tryd.ntmps42
  go_wp2_with fail
  refine HC.out.mono ?_
  rintro e w1 ⟨v1, rfl, hm, hb1⟩
  obtain ⟨T, z, c1, rfl, hT, K⟩ := mine_csU hm HNE.out
  rw [← HN.out]
  have HB1 := Lib.hid hb1
  have HT := Lib.hid hT
  clear hm hb1 hT
  go_wp2_with fail
  refine (HS.out T z c1 w1 K).mono ?_
  rintro e w2 ⟨rfl, t, hI, hs⟩
  have hlen : t.length = n := by rw [hI.perm.length_eq]; exact HN.out.symm
  have hc := csU_get (s := t) (z := z) (j := n / 2) (by rw [hlen]; exact hlt2)
  have hm : t.getD (n / 2) 0 = midN l := by rw [HN.out]; exact sorted_mid hI.perm hs
  rw [hm] at hc
  have hcell := (hI.blk.cell (n / 2)).trans hc
  have zT := hI.blk.lt
  have HB2 : Hid (Below w.heap.size w w2) := HB1.out.trans (hI.but.below HB1.out.size (fun k hk => by rw [hk]; exact HT.out))
  clear hI hs hlen hc hm K
  obtain ⟨md, hmd⟩ : ∃ md, md = midN l := ⟨_, rfl⟩
  rw [← hmd] at hcell
  have HMD := Lib.hid hmd
  clear hmd
  generalize n / 2 = q at *
  go_wp2_with fail
  go_ret
  exact ⟨by rw [← HMD.out]; rfl, HB2.out⟩
end Go.Proofs.YtljfhabhenaapaaDoor
