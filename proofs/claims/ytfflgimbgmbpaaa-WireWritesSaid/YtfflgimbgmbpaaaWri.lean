/-
  Contracts of package wire's Writer.
-/
import Derived.Test.YtfflgimbgmbpaaaByt
import Derived.Deep.RegionLaw
import Derived.Deep.RegionHeld3
import Derived.Deep.DeepCutAuto
import Derived.Deep.DrawnRows
import Derived.WalkKit
import Derived.WalkLawsBesides
import Derived.RegionTactic
import Derived.BigRegion
import Derived.Outline
import Derived.LoopN
import Derived.IntWalk
namespace Go.Proofs.Ytfflgimbgmbpaaa
open Go.RowKit
set_option linter.unusedVariables false

/-- Of the blocks that were there just these may have turned. -/
structure But (S : Nat → Prop) (w w' : World) : Prop where
  os : w'.os = w.os
  tape : w'.tape = w.tape
  output : w'.output = w.output
  size : w.heap.size ≤ w'.heap.size
  block : ∀ k, k < w.heap.size → ¬ S k → w'.heap[k]? = w.heap[k]?
section
variable {S S' : Nat → Prop} {a b w w' : World}
theorem But.refl (S : Nat → Prop) (w : World) : But S w w := ⟨rfl, rfl, rfl, Nat.le_refl _, fun _ _ _ => rfl⟩
theorem But.of (h : Below w.heap.size w w') : But S w w' := ⟨h.os, h.tape, h.output, h.size, fun k hk _ => h.block k hk⟩
theorem But.trans (h : But S a b) (k : But S' b w) (hs : ∀ i, i < a.heap.size → S' i → S i) : But S a w :=
  ⟨k.os.trans h.os, k.tape.trans h.tape, k.output.trans h.output, Nat.le_trans h.size k.size, fun i hi hn => (k.block i (Nat.lt_of_lt_of_le hi h.size) (fun hc => hn (hs i hi hc))).trans (h.block i hi hn)⟩
theorem But.step (h : But S a w) (k : Below w.heap.size w w') : But S a w' := h.trans (But.of (S := S) k) (fun _ _ h => h)
theorem But.drew (h : But S a w) : But S a w.drew := ⟨h.os, h.tape, h.output, h.size, h.block⟩
theorem But.alloc (h : But S a w) (o : Obj) : But S a (w.alloc o) := h.step ((Below.refl _ _).alloc (Nat.le_refl _) _)
theorem But.set_ (h : But S a w) {g : Nat} (hg : S g ∨ a.heap.size ≤ g) (i : Nat) (s : Option Nat) (u : Value) : But S a (w.setCell ⟨g, i, none⟩ u) :=
  ⟨h.os, h.tape, h.output, by simpa [World.setCell] using h.size, fun k hk hn => (Below.heap_setCell _ _ _ _ (by
    intro e
    have e : k = g := e
    subst e
    rcases hg with hg | hg
    · exact hn hg
    · omega)).trans (h.block k hk hn)⟩
theorem But.setCells {g : Nat} (hg : S g) (vs : List Value) : ∀ (o : Nat) (w : World), But S a w → But S a (w.setCells g o vs) := by
  induction vs with
  | nil => intro o w h; exact h
  | cons v r ih => intro o w h; exact ih (o + 1) _ (h.set_ (.inl hg) o none v)
theorem But.keep (h : But S w w') {g : Nat} {t : TypeId} {cs : Array Value} (hb : Bk w g t cs) (hg : ¬ S g) : Bk w' g t cs := (h.block g hb.lt hg).trans hb
theorem But.below (h : But S w w') {B : Nat} (hB : B ≤ w.heap.size) (hS : ∀ k, S k → B ≤ k) : Below B w w' :=
  ⟨h.os, h.tape, h.output, h.size, fun k hk => h.block k (by omega) (fun hs => by have := hS k hs; omega)⟩
theorem But.cell (h : But S w w') {p : Addr} (hp : p.block < w.heap.size) (hn : ¬ S p.block) : w'.cell? p = w.cell? p := World.cell?_of_block (w := w) (h.block p.block hp hn)
theorem But.mono (h : But S w w') (hs : ∀ k, k < w.heap.size → S k → S' k) : But S' w w' := ⟨h.os, h.tape, h.output, h.size, fun k hk hn => h.block k hk (fun hc => hn (hs k hk hc))⟩
end

/-- The block in which a slice lies. -/
def slb (v : Value) (k : Nat) : Prop := ∃ a n c, v = .slice (some a) n c ∧ a.block = k
theorem slb_none (n c k : Nat) : ¬ slb (.slice none n c) k := by
  rintro ⟨o, n', c', e, _⟩
  cases e
theorem slb_some {b o n c k : Nat} (h : slb (.slice (some ⟨b, o, none⟩) n c) k) : k = b := by
  obtain ⟨o', n', c', e, e2⟩ := h
  cases e
  exact e2.symm
theorem Mine.slb_lo {W : World} {lo : Nat} {v : Value} {xs : List Nat} (h : Mine W lo v xs) {k : Nat} (hk : slb v k) : lo ≤ k ∧ k < W.heap.size ∧ ∃ ys, Bk W k 5 (idA ys) := by
  rcases h with ⟨rfl, _⟩ | ⟨T, cap, z, rfl, _, _, hT, K⟩
  · exact absurd hk (slb_none _ _ _)
  · have := slb_some hk
    subst this
    exact ⟨hT, K.lt, _, K⟩
theorem Mine.slice {W : World} {lo : Nat} {v : Value} {xs : List Nat} (h : Mine W lo v xs) : ∃ s c, v = .slice s xs.length c := by
  rcases h with ⟨rfl, rfl⟩ | ⟨T, cap, z, rfl, _⟩
  · exact ⟨_, _, rfl⟩
  · exact ⟨_, _, rfl⟩
/-- A block of another type than bytes isn't the bytes' own. -/
theorem Mine.apart {W : World} {lo g : Nat} {v : Value} {xs : List Nat} {t : TypeId} {cs : Array Value} (h : Mine W lo v xs) (hg : Bk W g t cs) (ht : t ≠ 5) : ¬ slb v g := by
  intro hs
  obtain ⟨_, _, ys, K⟩ := h.slb_lo hs
  have e := hg.symm.trans K
  cases e
  exact ht rfl
theorem Mine.but {W W' : World} {lo : Nat} {S : Nat → Prop} {v : Value} {xs : List Nat} (h : Mine W lo v xs) (hb : But S W W') (hs : ∀ k, slb v k → ¬ S k) : Mine W' lo v xs := by
  rcases h with h | ⟨T, cap, z, e, hc, hc2, hT, K⟩
  · exact .inl h
  · exact .inr ⟨T, cap, z, e, hc, hc2, hT, hb.keep K (hs T ⟨_, _, _, e, rfl⟩)⟩
theorem wt_ne : 26 ≠ 5 := by decide
/-- The bytes, onto a slice of the call's own. -/
theorem app3 (xs ys : List Nat) (v u : Value) (lo : Nat) (w : World) (hm : Mine w lo v xs) (hlo : lo ≤ w.heap.size) (hu : BsV w w.heap.size u ys) (hlt : xs.length + ys.length ≤ 1048576) :
    ∃ v' W, (Builtin.append_ #[24, 24] 24 #[v, u]).run Try.prog w = .ok v' W ∧ Mine W lo v' (xs ++ ys) ∧ But (slb v) w W ∧ (∀ k, slb v' k → slb v k ∨ w.heap.size ≤ k) := by
  obtain ⟨i, hi, hz, hs, hby⟩ := byte_info
  obtain ⟨s, cap, rfl, h1, h2, h3, h4⟩ := hu
  by_cases h0 : ys = []
  · subst h0
    have hsrc : Src Try.prog i.size 24 (.slice s 0 cap) 0 [] w := by
      cases s with
      | none => exact Src.ofNil w Try.underlying24 cap
      | some a => exact Src.ofSlice w Try.underlying24 a 0 cap [] (by simp) (by simp) (by simp)
    rw [List.append_nil]
    rcases hm with ⟨rfl, rfl⟩ | ⟨T, c, z, rfl, hc, hc2, hT, K⟩
    · exact ⟨_, w, run_append_nothing w _ _ _ _ i Try.underlying24 hi _ 0 0 (Nat.le_refl _) _ hsrc, .inl ⟨rfl, rfl⟩, But.refl _ _, fun k h => .inl h⟩
    · exact ⟨_, w, run_append_nothing w _ _ _ _ i Try.underlying24 hi _ xs.length c (by omega) _ hsrc, .inr ⟨T, c, z, rfl, hc, hc2, hT, K⟩, But.refl _ _, fun k h => .inl h⟩
  · obtain ⟨b, o, rfl, hb, hc⟩ := h4 h0
    have hpos : 0 < ys.length := by
      rcases Nat.eq_zero_or_pos ys.length with h | h
      · exact absurd (List.eq_nil_of_length_eq_zero h) h0
      · exact h
    have hsrc : Src Try.prog i.size 24 (.slice (some ⟨b, o, none⟩) ys.length cap) ys.length (ys.map byteV) w :=
      Src.ofSlice w Try.underlying24 _ _ _ _ (by rw [hs]; simp) (fun j u hu => by
        rw [List.getElem?_map] at hu
        rcases hj : ys[j]? with _ | x
        · rw [hj] at hu; cases hu
        · rw [hj] at hu
          have hlt := (List.getElem?_eq_some_iff.1 hj).1
          rw [Go.WideShapes.add_plain, hc j hlt, ← hu]
          simp [nth, List.getD, hj, byteV]) (by
        intro u hu
        obtain ⟨x, _, rfl⟩ := List.mem_map.1 hu
        rfl)
    have grown : ∀ (sb : Option Addr) (c : Nat), c < xs.length + ys.length → (Builtin.firstCells i.size xs.length (.slice sb xs.length c)).run Try.prog w.drew = .ok (xs.map byteV).toArray w.drew →
        ∃ v' W, (Builtin.append_ #[24, 24] 24 #[.slice sb xs.length c, .slice (some ⟨b, o, none⟩) ys.length cap]).run Try.prog w = .ok v' W ∧ Mine W lo v' (xs ++ ys) ∧ But (slb (.slice sb xs.length c)) w W ∧ (∀ k, slb v' k → slb (.slice sb xs.length c) k ∨ w.heap.size ≤ k) := by
      intro sb c hcl hold
      have hge := grownCap_ge w (xs.length + ys.length) c 5
      have hle := grownCap_le_maxLen w (xs.length + ys.length) c 5 (by unfold maxLen; omega)
      unfold maxLen at hle
      have hrun := run_append_grow_src w 24 24 24 5 i _ Try.underlying24 hi hz sb xs.length c _ hold _ ys.length _ hsrc hcl (by omega) (growslice_fits_wide hcl (by rw [hby]; omega))
      rw [zero_bytes] at hrun
      refine ⟨_, _, hrun, .inr ⟨w.heap.size, grownCap w (xs.length + ys.length) c 5, grownCap w (xs.length + ys.length) c 5 - (xs.length + ys.length), by rw [List.length_append], by rw [List.length_append]; omega, by omega, hlo, ?_⟩, ((But.refl _ w).drew.alloc _), fun k h => .inr (by rw [slb_some h]; exact Nat.le_refl _)⟩
      refine Eq.trans (heap_alloc_new w.drew _) ?_
      simp [idA]
    rcases hm with ⟨rfl, rfl⟩ | ⟨T, c, z, rfl, hcz, hc2, hT, K⟩
    · exact grown none 0 (by simpa using hpos) (run_firstCells_none w.drew _ 0 0 0)
    · rcases Nat.lt_or_ge c (xs.length + ys.length) with hg | hr
      · refine grown _ c hg (run_firstCells_some w.drew _ _ _ _ _ _ (by rw [hs]; simp) (fun j u hu => ?_))
        rw [List.getElem?_map] at hu
        rcases hj : xs[j]? with _ | x
        · rw [hj] at hu; cases hu
        · rw [hj] at hu
          have hl := (List.getElem?_eq_some_iff.1 hj).1
          rw [Go.WideShapes.add_plain, Nat.zero_add]
          refine (K.drew.cell j).trans ?_
          rw [idA_opt, List.getElem?_append_left hl, hj]
          exact hu
      · have hrun := run_append_room_src w 24 24 24 5 i Try.underlying24 hi T 0 xs.length c _ ys.length _ hsrc hr
          (fun j hj => by
            rw [hs, Nat.mul_one, Nat.zero_add, K.cell, idA_opt]
            have : xs.length + j < (xs ++ zeros z).length := by simp [zeros] at hj ⊢; omega
            rw [List.getElem?_eq_getElem this]; rfl)
          (fun j hj => by rw [hs, Nat.mul_one, Nat.zero_add]; exact K.frozen _)
        rw [hs, Nat.mul_one, Nat.zero_add] at hrun
        refine ⟨_, _, hrun, .inr ⟨T, c, z - ys.length, by rw [List.length_append], by rw [List.length_append]; omega, hc2, hT, ?_⟩, But.setCells (S := slb (.slice (some ⟨T, 0, none⟩) xs.length c)) ⟨_, _, _, rfl, rfl⟩ _ _ _ (But.refl _ _), fun k h => .inl ⟨_, _, _, rfl, (slb_some h).symm⟩⟩
        have e := Bk.ovr_ (w := w) (ys.map byteV) xs.length w _ K
        rw [ovr_bytes xs ys z (by omega)] at e
        exact e

theorem bs_one (w : World) (x : Nat) (hx : x < 256) : BsV (w.alloc (.cells #[.int .u8 (x : Int)] 5)) (w.alloc (.cells #[.int .u8 (x : Int)] 5)).heap.size (.slice (some ⟨w.heap.size, 0, none⟩) 1 1) [x] := by
  refine ⟨_, 1, rfl, Nat.le_refl _, by omega, by simpa using hx, fun _ => ⟨w.heap.size, 0, rfl, by simp, fun i hi => ?_⟩⟩
  have : i = 0 := by simp at hi; exact hi
  subst this
  exact (Bk.new w 5 #[.int .u8 (x : Int)]).cell 0
/-- A byte onto a slice of the call's own. -/
theorem app_one (xs : List Nat) (x : Nat) (v : Value) (lo : Nat) (w : World) (hm : Mine w lo v xs) (hlo : lo ≤ w.heap.size) (hx : x < 256) (hlt : xs.length ≤ 1000000) :
    ∃ s c W, (Builtin.append_ #[24, 24] 24 #[v, .slice (some ⟨w.heap.size, 0, none⟩) 1 1]).run Try.prog (w.alloc (.cells #[.int .u8 (x : Int)] 5)) = .ok (.slice s (xs.length + 1) c) W ∧ Mine W lo (.slice s (xs.length + 1) c) (xs ++ [x]) ∧ But (slb v) w W ∧ (∀ k, slb (.slice s (xs.length + 1) c) k → slb v k ∨ w.heap.size ≤ k) := by
  obtain ⟨v', W, h1, h2, h3, h4⟩ := app3 xs [x] v (.slice (some ⟨w.heap.size, 0, none⟩) 1 1) lo (w.alloc (.cells #[.int .u8 (x : Int)] 5)) (hm.keep ((Below.refl _ _).alloc (Nat.le_refl _) _)) (by simp; omega) (bs_one w x hx) (by simp; omega)
  obtain ⟨s, c, rfl⟩ := h2.slice
  have e : (xs ++ [x]).length = xs.length + 1 := by simp
  rw [e] at h1 h2 h4
  refine ⟨s, c, W, h1, h2, ((But.refl _ w).alloc _).trans h3 (fun _ _ h => h), fun k hk => ?_⟩
  rcases h4 k hk with h | h
  · exact .inl h
  · exact .inr (by simp at h; omega)
/-- One step of a region that draws: a byte onto a writer's own slice, which is stored then. -/
theorem step_app_byte {ops : Array Oper} {o : Oper} {a : Act} {w w0 : World} {K : Act → World → Prop} {Q : Exit → Act → World → Prop} {E : Prop} (xs : List Nat) (x lo g : Nat) {s1 : Option Addr} {c1 : Nat} {e : Int}
    (hg : o.guard = none) (s y : Operand) (hop : o.op = Op.call { callee := Callee.builtin Builtin.append, args := #[s, y], argTypes := #[24, 24] }) (hty : o.type = 24)
    (hw : w = w0.alloc (.cells #[.int .u8 e] 5)) (he : e = (x : Int))
    (n : Nat) (hn : n = xs.length) (hs : a.eval s = .slice s1 n c1) (hy : a.eval y = .slice (some ⟨w0.heap.size, 0, none⟩) 1 1)
    (hm : Mine w0 lo (.slice s1 n c1) xs) (hlo : lo ≤ w0.heap.size) (hx : x < 256) (hlt : xs.length ≤ 1000000)
    (hG : Bk w0 g 26 #[.slice s1 n c1])
    (hK : ∀ s5 c5 W5, Mine W5 lo (.slice s5 (n + 1) c5) (xs ++ [x]) → But (slb (.slice s1 n c1)) w0 W5 → (∀ k, slb (.slice s5 (n + 1) c5) k → slb (.slice s1 n c1) k ∨ w0.heap.size ≤ k) → Bk W5 g 26 #[.slice s1 n c1] → K (a.put o.dst (.slice s5 (n + 1) c5)) W5) :
    if Region.wanted o (yielded ops a.tmps) = true then Oper.wp Try.prog o a w K Q else E := by
  subst hn; subst he; subst hw
  have hw : Region.wanted o (yielded ops a.tmps) = true := by simp [Region.wanted, hg]
  rw [if_pos hw]
  obtain ⟨s5, c5, W5, hrun, hM5, hb5, ho5⟩ := app_one xs x _ lo w0 hm hlo hx hlt
  have h := hK s5 c5 W5 hM5 hb5 ho5 (hb5.keep hG (hm.apart hG wt_ne))
  unfold Oper.wp
  simp [execOp, hop, resolve, invoke, builtin, hs, hy, hty, hrun, Result.andThen]
  exact h
/-- What a call that writes leaves: the writer's new slice, of just these bytes; nothing else has turned. -/
def Wrote (g lo : Nat) (v : Value) (ys : List Nat) (w : World) (e : Ending) (w' : World) : Prop :=
  e = .returned (.tuple #[]) ∧ ∃ v', Bk w' g 26 #[v'] ∧ Mine w' lo v' ys ∧ But (fun k => k = g ∨ slb v k) w w' ∧ ∀ k, slb v' k → slb v k ∨ w.heap.size ≤ k
theorem toL_last (n k : Nat) : toL n (k + 1) = toL n k ++ [byteOf n k] := by
  induction k generalizing n with
  | zero => simp [toL, byteOf]
  | succ k ih =>
    rw [toL, ih]
    rw [show toL n (k + 1) = n % 256 :: toL (n / 256) k from rfl]
    have e : byteOf (n / 256) k = byteOf n (k + 1) := by
      unfold byteOf
      rw [Nat.div_div_eq_div_mul, Nat.pow_succ, Nat.mul_comm]
    rw [e]
    rfl
theorem byte_shift (n k : Nat) : IntKind.u8.wrap ((n : Int) / 2 ^ (8 * k)) = ((byteOf n k : Nat) : Int) := by
  rw [shr_word, IntKind.wrap_u8']
  unfold byteOf
  rw [← pow256]
  omega

set_option maxRecDepth 100000 in
set_option maxHeartbeats 1000000 in
theorem put_in (g lo b : Nat) (sz : Int) (n m : Nat) (xs : List Nat) (v : Value) (w : World) (hG : Bk w g 26 #[v]) (hM : Mine w lo v xs) (hlo : lo ≤ w.heap.size) (hN : Bk w b 27 #[.int .u64 (n : Int)])
    (hlen : xs.length + 8 ≤ 1000000) (hsz : sz ≤ 8) (hm : m = sz.toNat) :
    Calls Try.prog 5 #[.pointer (some ⟨g, 0, none⟩), .int .i64 sz, .slice (some ⟨b, 0, none⟩) 1 1] w (Wrote g lo v (xs ++ toL n m) w) := by
  have hbv := hM.apart hN (by decide)
  have HM := Lib.hid hM
  have HL := Lib.hid hlen
  have HLO := Lib.hid hlo
  have hd : decide ((8 : Int) < sz) = false := decide_eq_false (by omega)
  have hbg : b ≠ g := by
    intro e
    subst e
    have := hG.symm.trans hN
    cases this
  have n0 := hN.cell 0
  have nz := hN.lt
  clear hM hlo hlen
  go_enter Try.func5, Try.ntmps5
  go_wp2_with fail
  refine wp_loop_rounds 2 ?_
  rw [rounds_succ]
  go_wp2_with fail
  go_loopw [17] (fun i wr => ∃ (k : Nat) (v' : Value), k ≤ m ∧ i = .int .i64 k ∧ Bk wr g 26 #[v'] ∧ Hid (Mine wr lo v' (xs ++ toL n k)) ∧ Hid (But (fun k => k = g ∨ slb v k) w wr) ∧ Hid (∀ k, slb v' k → slb v k ∨ w.heap.size ≤ k)) (fun i _ => m - (intOf i).toNat)
  case atStart => exact ⟨0, v, Nat.zero_le _, rfl, hG, by rw [toL, List.append_nil]; exact HM.out, But.refl _ _, fun k h => .inl h⟩
  case round =>
    obtain ⟨k, v', hk, rfl, G1, M1, B1, O1⟩ := hrel
    clear hG
    by_cases hlt : k < m
    · obtain ⟨s1, c1, rfl⟩ := M1.out.slice
      have c0 := G1.cell 0
      have f0 := G1.frozen 0
      have z0 := G1.lt
      have hlen : (xs ++ toL n k).length = xs.length + k := by rw [List.length_append, toL_length]
      generalize hL : (xs ++ toL n k).length = q at *
      have HQ := Lib.hid hL
      have HQ2 := Lib.hid hlen
      have q0 : IntKind.i64.wrap (8 * (k : Int)) = 8 * (k : Int) := IntWalk.i64_in _ (by omega)
      have n0 : (8 * (k : Int)).toNat = 8 * k := by omega
      have j0 : (0 : Int) ≤ 8 * (k : Int) := by omega
      have j1 : 8 * (k : Int) < 64 := by omega
      clear hL hlen
      go_upto_region 6 with fail
      go_region_law (refine step_app_byte (w0 := wr.drew) (xs ++ toL n k) (byteOf n k) lo g rfl (.tmp 24) (.tmp 30) rfl rfl rfl (byte_shift n k) q HQ.out.symm rfl rfl M1.out (Nat.le_trans HLO.out B1.out.size) (byteOf_lt n k) (by have := HL.out; have := HQ.out; have := HQ2.out; omega) G1 ?_; rintro s5 c5 W5 M5 B5 O5 G5; have g5c := G5.cell 0; have g5f := G5.frozen 0; have g5z := G5.lt)
      all_goals
        clear c0 f0 z0 q0 n0 j0 j1
        go_wp2_with fail
        go_roundw
        case rel =>
          refine ⟨k + 1, .slice s5 (q + 1) c5, by omega, by go_num, ?_, ?_, ?_, ?_⟩
          · first | exact (G5.set_ 0 _) | exact (G5.set_ 0 _).drew
          · show Mine _ _ _ _
            rw [toL_last, ← List.append_assoc]
            refine Mine.but M5 (S := fun k => k = g) ?_ (fun i hi e => M5.apart G5 wt_ne (by rw [← e]; exact hi))
            first | exact But.set_ (S := fun k => k = g) (But.refl _ W5) (.inl rfl) 0 none _ | exact (But.set_ (S := fun k => k = g) (But.refl _ W5) (.inl rfl) 0 none _).drew
          · show But _ _ _
            have h := B1.out.drew.trans B5 (fun i hi h => by
              rcases O1.out i h with h | h
              · exact .inr h
              · exact absurd hi (by omega))
            first | exact h.set_ (.inl (.inl rfl)) 0 none _ | exact (h.set_ (.inl (.inl rfl)) 0 none _).drew
          · intro i hi
            rcases O5 i hi with h | h
            · exact O1.out i h
            · exact .inr (Nat.le_trans B1.out.size h)
        case measure => simp [intOf]; omega
    · have hkm : k = m := by omega
      have hdk : decide ((k : Int) < sz) = false := decide_eq_false (by omega)
      have HK := Lib.hid hkm
      clear hlt hkm
      go_wp2_with fail
      rw [rounds_succ]
      go_wp2_with fail
      go_end0
      rw [← HK.out]
      exact ⟨rfl, v', G1, M1.out, B1.out, O1.out⟩
end Go.Proofs.Ytfflgimbgmbpaaa
