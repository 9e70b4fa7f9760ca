/- Texts in one: Wri, Wrj, Wrk. -/
import Derived.Test.YtkpffjcdalclmaaDoorZBytZ
import Derived.Deep.RegionLaw
import Derived.Deep.RegionHeld3
import Derived.Deep.DeepCutAuto
import Derived.Deep.DrawnRows
import Derived.WalkKit
import Derived.WalkLawsBesides
import Derived.RegionTactic
import Derived.BigRegion
import Derived.Outline
import Derived.LoopN
import Derived.IntWalk
import Derived.Lib.SliceRun
namespace Go.Proofs.YtkpffjcdalclmaaDoor
open Go.RowKit
set_option linter.unusedVariables false
structure But (S : Nat → Prop) (w w' : World) : Prop where
 os : w'.os = w.os
 tape : w'.tape = w.tape
 output : w'.output = w.output
 size : w.heap.size ≤ w'.heap.size
 block : ∀ k, k < w.heap.size → ¬ S k → w'.heap[k]? = w.heap[k]?
section
variable {S S' : Nat → Prop} {a b w w' : World}
theorem But.refl (S : Nat → Prop) (w : World) : But S w w := ⟨rfl, rfl, rfl, Nat.le_refl _, fun _ _ _ => rfl⟩
theorem But.of (h : Below w.heap.size w w') : But S w w' := ⟨h.os, h.tape, h.output, h.size, fun k hk _ => h.block k hk⟩
theorem But.trans (h : But S a b) (k : But S' b w) (hs : ∀ i, i < a.heap.size → S' i → S i) : But S a w :=
 ⟨k.os.trans h.os, k.tape.trans h.tape, k.output.trans h.output, Nat.le_trans h.size k.size, fun i hi hn => (k.block i (Nat.lt_of_lt_of_le hi h.size) (fun hc => hn (hs i hi hc))).trans (h.block i hi hn)⟩
theorem But.step (h : But S a w) (k : Below w.heap.size w w') : But S a w' := h.trans (But.of (S := S) k) (fun _ _ h => h)
theorem But.drew (h : But S a w) : But S a w.drew := ⟨h.os, h.tape, h.output, h.size, h.block⟩
theorem But.alloc (h : But S a w) (o : Obj) : But S a (w.alloc o) := h.step ((Below.refl _ _).alloc (Nat.le_refl _) _)
theorem But.set_ (h : But S a w) {g : Nat} (hg : S g ∨ a.heap.size ≤ g) (i : Nat) (s : Option Nat) (u : Value) : But S a (w.setCell ⟨g, i, none⟩ u) :=
 ⟨h.os, h.tape, h.output, by simpa [World.setCell] using h.size, fun k hk hn => (Below.heap_setCell _ _ _ _ (by
  intro e
  have e : k = g := e
  subst e
  rcases hg with hg | hg
  ·exact hn hg
  ·omega)).trans (h.block k hk hn)⟩
theorem But.setCells {g : Nat} (hg : S g) (vs : List Value) : ∀ (o : Nat) (w : World), But S a w → But S a (w.setCells g o vs) := by
 induction vs with
 | nil => intro o w h; exact h
 | cons v r ih => intro o w h; exact ih (o + 1) _ (h.set_ (.inl hg) o none v)
theorem But.keep (h : But S w w') {g : Nat} {t : TypeId} {cs : Array Value} (hb : Bk w g t cs) (hg : ¬ S g) : Bk w' g t cs := (h.block g hb.lt hg).trans hb
theorem But.below (h : But S w w') {B : Nat} (hB : B ≤ w.heap.size) (hS : ∀ k, S k → B ≤ k) : Below B w w' :=
 ⟨h.os, h.tape, h.output, h.size, fun k hk => h.block k (by omega) (fun hs => by have := hS k hs; omega)⟩
theorem But.cell (h : But S w w') {p : Addr} (hp : p.block < w.heap.size) (hn : ¬ S p.block) : w'.cell? p = w.cell? p := World.cell?_of_block (w := w) (h.block p.block hp hn)
theorem But.mono (h : But S w w') (hs : ∀ k, k < w.heap.size → S k → S' k) : But S' w w' := ⟨h.os, h.tape, h.output, h.size, fun k hk hn => h.block k hk (fun hc => hn (hs k hk hc))⟩
end
def slb (v : Value) (k : Nat) : Prop := ∃ a n c, v = .slice (some a) n c ∧ a.block = k
theorem slb_none (n c k : Nat) : ¬ slb (.slice none n c) k := by
 rintro ⟨o, n', c', e, _⟩
 cases e
theorem slb_some {b o n c k : Nat} (h : slb (.slice (some ⟨b, o, none⟩) n c) k) : k = b := by
 obtain ⟨o', n', c', e, e2⟩ := h
 cases e
 exact e2.symm
theorem Mine.slb_lo {W : World} {lo : Nat} {v : Value} {xs : List Nat} (h : Mine W lo v xs) {k : Nat} (hk : slb v k) : lo ≤ k ∧ k < W.heap.size ∧ ∃ ys, Bk W k 5 (idA ys) := by
 rcases h with ⟨rfl, _⟩ | ⟨T, cap, z, rfl, _, _, hT, K⟩
 ·exact absurd hk (slb_none _ _ _)
 ·have := slb_some hk
  subst this
  exact ⟨hT, K.lt, _, K⟩
theorem Mine.slice {W : World} {lo : Nat} {v : Value} {xs : List Nat} (h : Mine W lo v xs) : ∃ s c, v = .slice s xs.length c := by
 rcases h with ⟨rfl, rfl⟩ | ⟨T, cap, z, rfl, _⟩
 ·exact ⟨_, _, rfl⟩
 ·exact ⟨_, _, rfl⟩
theorem Mine.apart {W : World} {lo g : Nat} {v : Value} {xs : List Nat} {t : TypeId} {cs : Array Value} (h : Mine W lo v xs) (hg : Bk W g t cs) (ht : t ≠ 5) : ¬ slb v g := by
 intro hs
 obtain ⟨_, _, ys, K⟩ := h.slb_lo hs
 have e := hg.symm.trans K
 cases e
 exact ht rfl
theorem Mine.but {W W' : World} {lo : Nat} {S : Nat → Prop} {v : Value} {xs : List Nat} (h : Mine W lo v xs) (hb : But S W W') (hs : ∀ k, slb v k → ¬ S k) : Mine W' lo v xs := by
 rcases h with h | ⟨T, cap, z, e, hc, hc2, hT, K⟩
 ·exact .inl h
 ·exact .inr ⟨T, cap, z, e, hc, hc2, hT, hb.keep K (hs T ⟨_, _, _, e, rfl⟩)⟩
theorem wt_ne : 104 ≠ 5 := by decide
theorem app3 (xs ys : List Nat) (v u : Value) (lo : Nat) (w : World) (hm : Mine w lo v xs) (hlo : lo ≤ w.heap.size) (hu : BsV w w.heap.size u ys) (hlt : xs.length + ys.length ≤ 8589934592) :
  ∃ v' W, (Builtin.append_ #[32, 32] 32 #[v, u]).run Tryd.prog w = .ok v' W ∧ Mine W lo v' (xs ++ ys) ∧ But (slb v) w W ∧ (∀ k, slb v' k → slb v k ∨ w.heap.size ≤ k) := by
 obtain ⟨i, hi, hz, hs, hby⟩ := byte_info
 obtain ⟨s, cap, rfl, h1, h2, h3, h4⟩ := hu
 by_cases h0 : ys = []
 ·subst h0
  have hsrc : Src Tryd.prog i.size 32 (.slice s 0 cap) 0 [] w := by
   cases s with
   | none => exact Src.ofNil w Tryd.underlying32 cap
   | some a => exact Src.ofSlice w Tryd.underlying32 a 0 cap [] (by simp) (by simp) (by simp)
  rw [List.append_nil]
  rcases hm with ⟨rfl, rfl⟩ | ⟨T, c, z, rfl, hc, hc2, hT, K⟩
  ·exact ⟨_, w, run_append_nothing w _ _ _ _ i Tryd.underlying32 hi _ 0 0 (Nat.le_refl _) _ hsrc, .inl ⟨rfl, rfl⟩, But.refl _ _, fun k h => .inl h⟩
  ·exact ⟨_, w, run_append_nothing w _ _ _ _ i Tryd.underlying32 hi _ xs.length c (by omega) _ hsrc, .inr ⟨T, c, z, rfl, hc, hc2, hT, K⟩, But.refl _ _, fun k h => .inl h⟩
 ·obtain ⟨b, o, rfl, hb, hc⟩ := h4 h0
  have hpos : 0 < ys.length := by
   rcases Nat.eq_zero_or_pos ys.length with h | h
   ·exact absurd (List.eq_nil_of_length_eq_zero h) h0
   ·exact h
  have hsrc : Src Tryd.prog i.size 32 (.slice (some ⟨b, o, none⟩) ys.length cap) ys.length (ys.map byteV) w :=
   Src.ofSlice w Tryd.underlying32 _ _ _ _ (by rw [hs]; simp) (fun j u hu => by
    rw [List.getElem?_map] at hu
    rcases hj : ys[j]? with _ | x
    ·rw [hj] at hu; cases hu
    ·rw [hj] at hu
     have hlt := (List.getElem?_eq_some_iff.1 hj).1
     rw [Go.WideShapes.add_plain, hc j hlt, ← hu]
     simp [nth, List.getD, hj, byteV]) (by
    intro u hu
    obtain ⟨x, _, rfl⟩ := List.mem_map.1 hu
    rfl)
  have grown : ∀ (sb : Option Addr) (c : Nat), c < xs.length + ys.length → (Builtin.firstCells i.size xs.length (.slice sb xs.length c)).run Tryd.prog w.drew = .ok (xs.map byteV).toArray w.drew →
    ∃ v' W, (Builtin.append_ #[32, 32] 32 #[.slice sb xs.length c, .slice (some ⟨b, o, none⟩) ys.length cap]).run Tryd.prog w = .ok v' W ∧ Mine W lo v' (xs ++ ys) ∧ But (slb (.slice sb xs.length c)) w W ∧ (∀ k, slb v' k → slb (.slice sb xs.length c) k ∨ w.heap.size ≤ k) := by
   intro sb c hcl hold
   have hge := grownCap_ge w (xs.length + ys.length) c 5
   have hle := grownCap_le_maxLen w (xs.length + ys.length) c 5 (by unfold maxLen; omega)
   unfold maxLen at hle
   have hrun := run_append_grow_src w 32 32 32 5 i _ Tryd.underlying32 hi hz sb xs.length c _ hold _ ys.length _ hsrc hcl (by omega) (growslice_fits_wide hcl (by rw [hby]; omega))
   rw [zero_bytes] at hrun
   refine ⟨_, _, hrun, .inr ⟨w.heap.size, grownCap w (xs.length + ys.length) c 5, grownCap w (xs.length + ys.length) c 5 - (xs.length + ys.length), by rw [List.length_append], by rw [List.length_append]; omega, by omega, hlo, ?_⟩, ((But.refl _ w).drew.alloc _), fun k h => .inr (by rw [slb_some h]; exact Nat.le_refl _)⟩
   refine Eq.trans (heap_alloc_new w.drew _) ?_
   simp [idA]
  rcases hm with ⟨rfl, rfl⟩ | ⟨T, c, z, rfl, hcz, hc2, hT, K⟩
  ·exact grown none 0 (by simpa using hpos) (run_firstCells_none w.drew _ 0 0 0)
  ·rcases Nat.lt_or_ge c (xs.length + ys.length) with hg | hr
   ·refine grown _ c hg (run_firstCells_some w.drew _ _ _ _ _ _ (by rw [hs]; simp) (fun j u hu => ?_))
    rw [List.getElem?_map] at hu
    rcases hj : xs[j]? with _ | x
    ·rw [hj] at hu; cases hu
    ·rw [hj] at hu
     have hl := (List.getElem?_eq_some_iff.1 hj).1
     rw [Go.WideShapes.add_plain, Nat.zero_add]
     refine (K.drew.cell j).trans ?_
     rw [idA_opt, List.getElem?_append_left hl, hj]
     exact hu
   ·have hrun := run_append_room_src w 32 32 32 5 i Tryd.underlying32 hi T 0 xs.length c _ ys.length _ hsrc hr
     (fun j hj => by
      rw [hs, Nat.mul_one, Nat.zero_add, K.cell, idA_opt]
      have : xs.length + j < (xs ++ zeros z).length := by simp [zeros] at hj ⊢; omega
      rw [List.getElem?_eq_getElem this]; rfl)
     (fun j hj => by rw [hs, Nat.mul_one, Nat.zero_add]; exact K.frozen _)
    rw [hs, Nat.mul_one, Nat.zero_add] at hrun
    refine ⟨_, _, hrun, .inr ⟨T, c, z - ys.length, by rw [List.length_append], by rw [List.length_append]; omega, hc2, hT, ?_⟩, But.setCells (S := slb (.slice (some ⟨T, 0, none⟩) xs.length c)) ⟨_, _, _, rfl, rfl⟩ _ _ _ (But.refl _ _), fun k h => .inl ⟨_, _, _, rfl, (slb_some h).symm⟩⟩
    have e := Bk.ovr_ (w := w) (ys.map byteV) xs.length w _ K
    rw [ovr_bytes xs ys z (by omega)] at e
    exact e
theorem bs_one (w : World) (x : Nat) (hx : x < 256) : BsV (w.alloc (.cells #[.int .u8 (x : Int)] 5)) (w.alloc (.cells #[.int .u8 (x : Int)] 5)).heap.size (.slice (some ⟨w.heap.size, 0, none⟩) 1 1) [x] := by
 refine ⟨_, 1, rfl, Nat.le_refl _, by omega, by simpa using hx, fun _ => ⟨w.heap.size, 0, rfl, by simp, fun i hi => ?_⟩⟩
 have : i = 0 := by simp at hi; exact hi
 subst this
 exact (Bk.new w 5 #[.int .u8 (x : Int)]).cell 0
theorem app_one (xs : List Nat) (x : Nat) (v : Value) (lo : Nat) (w : World) (hm : Mine w lo v xs) (hlo : lo ≤ w.heap.size) (hx : x < 256) (hlt : xs.length ≤ 8000000000) :
  ∃ s c W, (Builtin.append_ #[32, 32] 32 #[v, .slice (some ⟨w.heap.size, 0, none⟩) 1 1]).run Tryd.prog (w.alloc (.cells #[.int .u8 (x : Int)] 5)) = .ok (.slice s (xs.length + 1) c) W ∧ Mine W lo (.slice s (xs.length + 1) c) (xs ++ [x]) ∧ But (slb v) w W ∧ (∀ k, slb (.slice s (xs.length + 1) c) k → slb v k ∨ w.heap.size ≤ k) := by
 obtain ⟨v', W, h1, h2, h3, h4⟩ := app3 xs [x] v (.slice (some ⟨w.heap.size, 0, none⟩) 1 1) lo (w.alloc (.cells #[.int .u8 (x : Int)] 5)) (hm.keep ((Below.refl _ _).alloc (Nat.le_refl _) _)) (by simp; omega) (bs_one w x hx) (by simp; omega)
 obtain ⟨s, c, rfl⟩ := h2.slice
 have e : (xs ++ [x]).length = xs.length + 1 := by simp
 rw [e] at h1 h2 h4
 refine ⟨s, c, W, h1, h2, ((But.refl _ w).alloc _).trans h3 (fun _ _ h => h), fun k hk => ?_⟩
 rcases h4 k hk with h | h
 ·exact .inl h
 ·exact .inr (by simp at h; omega)
theorem step_app_byte {ops : Array Oper} {o : Oper} {a : Act} {w w0 : World} {K : Act → World → Prop} {Q : Exit → Act → World → Prop} {E : Prop} (xs : List Nat) (x lo g : Nat) {s1 : Option Addr} {c1 : Nat} {e : Int}
  (hg : o.guard = none) (s y : Operand) (hop : o.op = Op.call { callee := Callee.builtin Builtin.append, args := #[s, y], argTypes := #[32, 32] }) (hty : o.type = 32)
  (hw : w = w0.alloc (.cells #[.int .u8 e] 5)) (he : e = (x : Int))
  (n : Nat) (hn : n = xs.length) (hs : a.eval s = .slice s1 n c1) (hy : a.eval y = .slice (some ⟨w0.heap.size, 0, none⟩) 1 1)
  (hm : Mine w0 lo (.slice s1 n c1) xs) (hlo : lo ≤ w0.heap.size) (hx : x < 256) (hlt : xs.length ≤ 8000000000)
  (hG : Bk w0 g 104 #[.slice s1 n c1])
  (hK : ∀ s5 c5 W5, Mine W5 lo (.slice s5 (n + 1) c5) (xs ++ [x]) → But (slb (.slice s1 n c1)) w0 W5 → (∀ k, slb (.slice s5 (n + 1) c5) k → slb (.slice s1 n c1) k ∨ w0.heap.size ≤ k) → Bk W5 g 104 #[.slice s1 n c1] → K (a.put o.dst (.slice s5 (n + 1) c5)) W5) :
  if Region.wanted o (yielded ops a.tmps) = true then Oper.wp Tryd.prog o a w K Q else E := by
 subst hn; subst he; subst hw
 have hw : Region.wanted o (yielded ops a.tmps) = true := by simp [Region.wanted, hg]
 rw [if_pos hw]
 obtain ⟨s5, c5, W5, hrun, hM5, hb5, ho5⟩ := app_one xs x _ lo w0 hm hlo hx hlt
 have h := hK s5 c5 W5 hM5 hb5 ho5 (hb5.keep hG (hm.apart hG wt_ne))
 unfold Oper.wp
 simp [execOp, hop, resolve, invoke, builtin, hs, hy, hty, hrun, Result.andThen]
 exact h
def Wrote (g lo : Nat) (v : Value) (ys : List Nat) (w : World) (e : Ending) (w' : World) : Prop :=
 e = .returned (.tuple #[]) ∧ ∃ v', Bk w' g 104 #[v'] ∧ Mine w' lo v' ys ∧ But (fun k => k = g ∨ slb v k) w w' ∧ ∀ k, slb v' k → slb v k ∨ w.heap.size ≤ k
theorem toL_last (n k : Nat) : toL n (k + 1) = toL n k ++ [byteOf n k] := by
 induction k generalizing n with
 | zero => simp [toL, byteOf]
 | succ k ih =>
  rw [toL, ih]
  rw [show toL n (k + 1) = n % 256 :: toL (n / 256) k from rfl]
  have e : byteOf (n / 256) k = byteOf n (k + 1) := by
   unfold byteOf
   rw [Nat.div_div_eq_div_mul, Nat.pow_succ, Nat.mul_comm]
  rw [e]
  rfl
theorem byte_shift (n k : Nat) : IntKind.u8.wrap ((n : Int) / 2 ^ (8 * k)) = ((byteOf n k : Nat) : Int) := by
 rw [shr_word, IntKind.wrap_u8']
 unfold byteOf
 rw [← pow256]
 omega
set_option maxRecDepth 100000 in
set_option maxHeartbeats 1000000 in
theorem put_in (g lo b : Nat) (sz : Int) (n m : Nat) (xs : List Nat) (v : Value) (w : World) (hG : Bk w g 104 #[v]) (hM : Mine w lo v xs) (hlo : lo ≤ w.heap.size) (hN : Bk w b 22 #[.int .u64 (n : Int)])
  (hlen : xs.length + 8 ≤ 8000000000) (hsz : sz ≤ 8) (hm : m = sz.toNat) :
  Calls Tryd.prog 63 #[.pointer (some ⟨g, 0, none⟩), .int .i64 sz, .slice (some ⟨b, 0, none⟩) 1 1] w (Wrote g lo v (xs ++ toL n m) w) := by
 have hbv := hM.apart hN (by decide)
 have HM := Lib.hid hM
 have HL := Lib.hid hlen
 have HLO := Lib.hid hlo
 have hd : decide ((8 : Int) < sz) = false := decide_eq_false (by omega)
 have hbg : b ≠ g := by
  intro e
  subst e
  have := hG.symm.trans hN
  cases this
 have n0 := hN.cell 0
 have nz := hN.lt
 clear hM hlo hlen
 go_enter Tryd.func63, Tryd.ntmps63
 go_wp2_with fail
 refine wp_loop_rounds 2 ?_
 rw [rounds_succ]
 go_wp2_with fail
 go_loopw [17] (fun i wr => ∃ (k : Nat) (v' : Value), k ≤ m ∧ i = .int .i64 k ∧ Bk wr g 104 #[v'] ∧ Hid (Mine wr lo v' (xs ++ toL n k)) ∧ Hid (But (fun k => k = g ∨ slb v k) w wr) ∧ Hid (∀ k, slb v' k → slb v k ∨ w.heap.size ≤ k)) (fun i _ => m - (intOf i).toNat)
 case atStart => exact ⟨0, v, Nat.zero_le _, rfl, hG, by rw [toL, List.append_nil]; exact HM.out, But.refl _ _, fun k h => .inl h⟩
 case round =>
  obtain ⟨k, v', hk, rfl, G1, M1, B1, O1⟩ := hrel
  clear hG
  by_cases hlt : k < m
  ·obtain ⟨s1, c1, rfl⟩ := M1.out.slice
   have c0 := G1.cell 0
   have f0 := G1.frozen 0
   have z0 := G1.lt
   have hlen : (xs ++ toL n k).length = xs.length + k := by rw [List.length_append, toL_length]
   generalize hL : (xs ++ toL n k).length = q at *
   have HQ := Lib.hid hL
   have HQ2 := Lib.hid hlen
   have q0 : IntKind.i64.wrap (8 * (k : Int)) = 8 * (k : Int) := IntWalk.i64_in _ (by omega)
   have n0 : (8 * (k : Int)).toNat = 8 * k := by omega
   have j0 : (0 : Int) ≤ 8 * (k : Int) := by omega
   have j1 : 8 * (k : Int) < 64 := by omega
   clear hL hlen
   go_upto_region 6 with fail
   go_region_law (refine step_app_byte (w0 := wr.drew) (xs ++ toL n k) (byteOf n k) lo g rfl (.tmp 24) (.tmp 30) rfl rfl rfl (byte_shift n k) q HQ.out.symm rfl rfl M1.out (Nat.le_trans HLO.out B1.out.size) (byteOf_lt n k) (by have := HL.out; have := HQ.out; have := HQ2.out; omega) G1 ?_; rintro s5 c5 W5 M5 B5 O5 G5; have g5c := G5.cell 0; have g5f := G5.frozen 0; have g5z := G5.lt)
   all_goals
    clear c0 f0 z0 q0 n0 j0 j1
    go_wp2_with fail
    go_roundw
    case rel =>
     refine ⟨k + 1, .slice s5 (q + 1) c5, by omega, by go_num, ?_, ?_, ?_, ?_⟩
     ·first | exact (G5.set_ 0 _) | exact (G5.set_ 0 _).drew
     ·show Mine _ _ _ _
      rw [toL_last, ← List.append_assoc]
      refine Mine.but M5 (S := fun k => k = g) ?_ (fun i hi e => M5.apart G5 wt_ne (by rw [← e]; exact hi))
      first | exact But.set_ (S := fun k => k = g) (But.refl _ W5) (.inl rfl) 0 none _ | exact (But.set_ (S := fun k => k = g) (But.refl _ W5) (.inl rfl) 0 none _).drew
     ·show But _ _ _
      have h := B1.out.drew.trans B5 (fun i hi h => by
       rcases O1.out i h with h | h
       ·exact .inr h
       ·exact absurd hi (by omega))
      first | exact h.set_ (.inl (.inl rfl)) 0 none _ | exact (h.set_ (.inl (.inl rfl)) 0 none _).drew
     ·intro i hi
      rcases O5 i hi with h | h
      ·exact O1.out i h
      ·exact .inr (Nat.le_trans B1.out.size h)
    case measure => simp [intOf]; omega
  ·have hkm : k = m := by omega
   have hdk : decide ((k : Int) < sz) = false := decide_eq_false (by omega)
   have HK := Lib.hid hkm
   clear hlt hkm
   go_wp2_with fail
   rw [rounds_succ]
   go_wp2_with fail
   go_end0
   rw [← HK.out]
   exact ⟨rfl, v', G1, M1.out, B1.out, O1.out⟩
end Go.Proofs.YtkpffjcdalclmaaDoor
namespace Go.Proofs.YtkpffjcdalclmaaDoor
open Go.RowKit
set_option linter.unusedVariables false
set_option maxRecDepth 100000 in
set_option maxHeartbeats 1000000 in
theorem put_big (g lo b : Nat) (sz : Int) (n m : Nat) (xs : List Nat) (v : Value) (w : World) (hG : Bk w g 104 #[v]) (hM : Mine w lo v xs) (hlo : lo ≤ w.heap.size) (hN : Bk w b 22 #[.int .u64 (n : Int)])
  (hlen : xs.length + 8 ≤ 8000000000) (hsz : 8 < sz) (hm : m = 8) :
  Calls Tryd.prog 63 #[.pointer (some ⟨g, 0, none⟩), .int .i64 sz, .slice (some ⟨b, 0, none⟩) 1 1] w (Wrote g lo v (xs ++ toL n m) w) := by
 have hbv := hM.apart hN (by decide)
 have HM := Lib.hid hM
 have HL := Lib.hid hlen
 have HLO := Lib.hid hlo
 have hd : decide ((8 : Int) < sz) = true := decide_eq_true hsz
 have hbg : b ≠ g := by
  intro e
  subst e
  have := hG.symm.trans hN
  cases this
 have n0 := hN.cell 0
 have nz := hN.lt
 clear hM hlo hlen
 go_enter Tryd.func63, Tryd.ntmps63
 go_wp2_with fail
 refine wp_loop_rounds 2 ?_
 rw [rounds_succ]
 go_wp2_with fail
 go_loopw [17] (fun i wr => ∃ (k : Nat) (v' : Value), k ≤ m ∧ i = .int .i64 k ∧ Bk wr g 104 #[v'] ∧ Hid (Mine wr lo v' (xs ++ toL n k)) ∧ Hid (But (fun k => k = g ∨ slb v k) w wr) ∧ Hid (∀ k, slb v' k → slb v k ∨ w.heap.size ≤ k)) (fun i _ => m - (intOf i).toNat)
 case atStart => exact ⟨0, v, Nat.zero_le _, rfl, hG, by rw [toL, List.append_nil]; exact HM.out, But.refl _ _, fun k h => .inl h⟩
 case round =>
  obtain ⟨k, v', hk, rfl, G1, M1, B1, O1⟩ := hrel
  clear hG
  by_cases hlt : k < m
  ·obtain ⟨s1, c1, rfl⟩ := M1.out.slice
   have c0 := G1.cell 0
   have f0 := G1.frozen 0
   have z0 := G1.lt
   have hlen : (xs ++ toL n k).length = xs.length + k := by rw [List.length_append, toL_length]
   generalize hL : (xs ++ toL n k).length = q at *
   have HQ := Lib.hid hL
   have HQ2 := Lib.hid hlen
   have q0 : IntKind.i64.wrap (8 * (k : Int)) = 8 * (k : Int) := IntWalk.i64_in _ (by omega)
   have n0 : (8 * (k : Int)).toNat = 8 * k := by omega
   have j0 : (0 : Int) ≤ 8 * (k : Int) := by omega
   have j1 : 8 * (k : Int) < 64 := by omega
   clear hL hlen
   go_upto_region 6 with fail
   go_region_law (refine step_app_byte (w0 := wr.drew) (xs ++ toL n k) (byteOf n k) lo g rfl (.tmp 24) (.tmp 30) rfl rfl rfl (byte_shift n k) q HQ.out.symm rfl rfl M1.out (Nat.le_trans HLO.out B1.out.size) (byteOf_lt n k) (by have := HL.out; have := HQ.out; have := HQ2.out; omega) G1 ?_; rintro s5 c5 W5 M5 B5 O5 G5; have g5c := G5.cell 0; have g5f := G5.frozen 0; have g5z := G5.lt)
   all_goals
    clear c0 f0 z0 q0 n0 j0 j1
    go_wp2_with fail
    go_roundw
    case rel =>
     refine ⟨k + 1, .slice s5 (q + 1) c5, by omega, by go_num, ?_, ?_, ?_, ?_⟩
     ·first | exact (G5.set_ 0 _) | exact (G5.set_ 0 _).drew
     ·show Mine _ _ _ _
      rw [toL_last, ← List.append_assoc]
      refine Mine.but M5 (S := fun k => k = g) ?_ (fun i hi e => M5.apart G5 wt_ne (by rw [← e]; exact hi))
      first | exact But.set_ (S := fun k => k = g) (But.refl _ W5) (.inl rfl) 0 none _ | exact (But.set_ (S := fun k => k = g) (But.refl _ W5) (.inl rfl) 0 none _).drew
     ·show But _ _ _
      have h := B1.out.drew.trans B5 (fun i hi h => by
       rcases O1.out i h with h | h
       ·exact .inr h
       ·exact absurd hi (by omega))
      first | exact h.set_ (.inl (.inl rfl)) 0 none _ | exact (h.set_ (.inl (.inl rfl)) 0 none _).drew
     ·intro i hi
      rcases O5 i hi with h | h
      ·exact O1.out i h
      ·exact .inr (Nat.le_trans B1.out.size h)
    case measure => simp [intOf]; omega
  ·have hkm : k = m := by omega
   have hdk : decide ((k : Int) < 8) = false := decide_eq_false (by omega)
   have HK := Lib.hid hkm
   clear hlt hkm
   go_wp2_with fail
   rw [rounds_succ]
   go_wp2_with fail
   go_end0
   rw [← HK.out]
   exact ⟨rfl, v', G1, M1.out, B1.out, O1.out⟩
def sz8 (sz : Int) : Nat := (min sz 8).toNat
theorem put_any (g lo b : Nat) (sz : Int) (n : Nat) (xs : List Nat) (v : Value) (w : World) (hG : Bk w g 104 #[v]) (hM : Mine w lo v xs) (hlo : lo ≤ w.heap.size) (hN : Bk w b 22 #[.int .u64 (n : Int)])
  (hlen : xs.length + 8 ≤ 8000000000) :
  Calls Tryd.prog 63 #[.pointer (some ⟨g, 0, none⟩), .int .i64 sz, .slice (some ⟨b, 0, none⟩) 1 1] w (Wrote g lo v (xs ++ toL n (sz8 sz)) w) := by
 by_cases h : 8 < sz
 ·exact put_big g lo b sz n _ xs v w hG hM hlo hN hlen h (by unfold sz8; omega)
 ·exact put_in g lo b sz n _ xs v w hG hM hlo hN hlen (by omega) (by unfold sz8; omega)
theorem Wrote.before {g lo : Nat} {v : Value} {ys : List Nat} {w w0 w' : World} {e : Ending} (h : Wrote g lo v ys w0 e w') (hb : Below w.heap.size w w0) : Wrote g lo v ys w e w' := by
 obtain ⟨h1, v', h2, h3, h4, h5⟩ := h
 refine ⟨h1, v', h2, h3, (But.of (S := fun k => k = g ∨ slb v k) hb).trans h4 (fun _ _ h => h), fun k hk => ?_⟩
 rcases h5 k hk with h | h
 ·exact .inl h
 ·exact .inr (Nat.le_trans hb.size h)
theorem Wrote.behind {g lo : Nat} {v v1 : Value} {ys : List Nat} {a w1 w' : World} {e : Ending} (hB : But (fun k => k = g ∨ slb v k) a w1) (hO : ∀ k, slb v1 k → slb v k ∨ a.heap.size ≤ k) (h : Wrote g lo v1 ys w1 e w') : Wrote g lo v ys a e w' := by
 obtain ⟨h1, v', h2, h3, h4, h5⟩ := h
 refine ⟨h1, v', h2, h3, hB.trans h4 (fun i hi h => ?_), fun k hk => ?_⟩
 ·rcases h with h | h
  ·exact .inl h
  ·rcases hO i h with h | h
   ·exact .inr h
   ·omega
 ·rcases h5 k hk with h | h
  ·exact hO k h
  ·exact .inr (Nat.le_trans hB.size h)
def countL (n : Nat) : List Nat := if n < 253 then toL n 1 else if n < 65536 then toL 253 1 ++ toL n 2 else if n < 4294967296 then toL 254 1 ++ toL n 4 else toL 255 1 ++ toL n 8
theorem countL_len (n : Nat) : (countL n).length ≤ 9 := by
 unfold countL
 split
 ·rw [toL_length]; omega
 ·split
  ·rw [List.length_append, toL_length, toL_length]; omega
  ·split
   ·rw [List.length_append, toL_length, toL_length]; omega
   ·rw [List.length_append, toL_length, toL_length]; omega
theorem countL_lt (n : Nat) : ∀ x ∈ countL n, x < 256 := by
 unfold countL
 intro x hx
 split at hx
 ·exact toL_lt _ _ x hx
 ·split at hx
  ·rcases List.mem_append.1 hx with h | h <;> exact toL_lt _ _ x h
  ·split at hx
   ·rcases List.mem_append.1 hx with h | h <;> exact toL_lt _ _ x h
   ·rcases List.mem_append.1 hx with h | h <;> exact toL_lt _ _ x h
set_option maxRecDepth 100000 in
set_option maxHeartbeats 1000000 in
theorem count_one (g lo n : Nat) (xs : List Nat) (v : Value) (w : World) (hG : Bk w g 104 #[v]) (hM : Mine w lo v xs) (hlo : lo ≤ w.heap.size) (hlen : xs.length + 16 ≤ 8000000000) (hn : n < 253) :
  Calls Tryd.prog 67 #[.pointer (some ⟨g, 0, none⟩), .int .u64 (n : Int)] w (Wrote g lo v (xs ++ countL n) w) := by
 have hd : decide ((n : Int) < 253) = true := decide_eq_true (by omega)
 have HC := Lib.hid (show countL n = toL n (sz8 1) by unfold countL; rw [if_pos hn]; rfl)
 have HM := Lib.hid hM
 have HLO := Lib.hid hlo
 have HLN := Lib.hid hlen
 clear hM hlo hlen
 go_enter Tryd.func67, Tryd.ntmps67
 go_wp2_with fail
 have hA : Below w.heap.size w (w.alloc (.cells #[.int .u64 (n : Int)] 22)) := (Below.refl _ _).alloc (Nat.le_refl _) _
 refine (put_any g lo w.heap.size 1 n xs v _ (hG.alloc _) (HM.out.keep hA) (Nat.le_trans HLO.out hA.size) (Bk.new _ _ _) (by have := HLN.out; omega)).mono ?_
 rintro e w1 h
 have h := h.before hA
 rw [← HC.out] at h
 obtain ⟨rfl, v1, G1, M1, B1, O1⟩ := h
 go_wp2_with fail
 go_end0
 exact ⟨rfl, v1, G1, M1, B1, O1⟩
set_option maxRecDepth 100000 in
set_option maxHeartbeats 1000000 in
theorem count_three (g lo n : Nat) (xs : List Nat) (v : Value) (w : World) (hG : Bk w g 104 #[v]) (hM : Mine w lo v xs) (hlo : lo ≤ w.heap.size) (hlen : xs.length + 16 ≤ 8000000000) (h1 : 253 ≤ n) (h2 : n < 65536) :
  Calls Tryd.prog 67 #[.pointer (some ⟨g, 0, none⟩), .int .u64 (n : Int)] w (Wrote g lo v (xs ++ countL n) w) := by
 have hd : decide ((n : Int) < 253) = false := decide_eq_false (by omega)
 have hd2 : decide ((n : Int) < 65536) = true := decide_eq_true (by omega)
 have HC := Lib.hid (show countL n = toL 253 (sz8 1) ++ toL n (sz8 2) by unfold countL; rw [if_neg (by omega), if_pos (by omega)]; rfl)
 have HM := Lib.hid hM
 have HLO := Lib.hid hlo
 have HLN := Lib.hid hlen
 clear hM hlo hlen
 go_enter Tryd.func67, Tryd.ntmps67
 go_wp2_with fail
 have hA : Below w.heap.size w (w.alloc (.cells #[.int .u64 253] 22)) := (Below.refl _ _).alloc (Nat.le_refl _) _
 refine (put_any g lo w.heap.size 1 253 xs v _ (hG.alloc _) (HM.out.keep hA) (Nat.le_trans HLO.out hA.size) (Bk.new _ _ _) (by have := HLN.out; omega)).mono ?_
 rintro e w1 h
 obtain ⟨rfl, v1, G1, M1, B1, O1⟩ := h.before hA
 have hl1 : (xs ++ toL 253 (sz8 1)).length = xs.length + 1 := by rw [List.length_append, toL_length]; rfl
 have HL1 := Lib.hid hl1
 clear hl1 hA hG
 go_wp2_with fail
 have hA : Below w1.heap.size w1 (w1.alloc (.cells #[.int .u64 (n : Int)] 22)) := (Below.refl _ _).alloc (Nat.le_refl _) _
 refine (put_any g lo w1.heap.size 2 n _ v1 _ (G1.alloc _) (M1.keep hA) (Nat.le_trans (Nat.le_trans HLO.out B1.size) hA.size) (Bk.new _ _ _) (by have := HLN.out; have := HL1.out; omega)).mono ?_
 rintro e w2 h
 have h := (h.before hA).behind B1 O1
 rw [List.append_assoc, ← HC.out] at h
 obtain ⟨rfl, v2, G2, M2, B2, O2⟩ := h
 go_wp2_with fail
 go_end0
 exact ⟨rfl, v2, G2, M2, B2, O2⟩
set_option maxRecDepth 100000 in
set_option maxHeartbeats 1000000 in
theorem count_five (g lo n : Nat) (xs : List Nat) (v : Value) (w : World) (hG : Bk w g 104 #[v]) (hM : Mine w lo v xs) (hlo : lo ≤ w.heap.size) (hlen : xs.length + 16 ≤ 8000000000) (h1 : 65536 ≤ n) (h2 : n < 4294967296) :
  Calls Tryd.prog 67 #[.pointer (some ⟨g, 0, none⟩), .int .u64 (n : Int)] w (Wrote g lo v (xs ++ countL n) w) := by
 have hd : decide ((n : Int) < 253) = false := decide_eq_false (by omega)
 have hd2 : decide ((n : Int) < 65536) = false := decide_eq_false (by omega)
 have hd3 : decide ((n : Int) < 4294967296) = true := decide_eq_true (by omega)
 have HC := Lib.hid (show countL n = toL 254 (sz8 1) ++ toL n (sz8 4) by unfold countL; rw [if_neg (by omega), if_neg (by omega), if_pos (by omega)]; rfl)
 have HM := Lib.hid hM
 have HLO := Lib.hid hlo
 have HLN := Lib.hid hlen
 clear hM hlo hlen
 go_enter Tryd.func67, Tryd.ntmps67
 go_wp2_with fail
 have hA : Below w.heap.size w (w.alloc (.cells #[.int .u64 254] 22)) := (Below.refl _ _).alloc (Nat.le_refl _) _
 refine (put_any g lo w.heap.size 1 254 xs v _ (hG.alloc _) (HM.out.keep hA) (Nat.le_trans HLO.out hA.size) (Bk.new _ _ _) (by have := HLN.out; omega)).mono ?_
 rintro e w1 h
 obtain ⟨rfl, v1, G1, M1, B1, O1⟩ := h.before hA
 have hl1 : (xs ++ toL 254 (sz8 1)).length = xs.length + 1 := by rw [List.length_append, toL_length]; rfl
 have HL1 := Lib.hid hl1
 clear hl1 hA hG
 go_wp2_with fail
 have hA : Below w1.heap.size w1 (w1.alloc (.cells #[.int .u64 (n : Int)] 22)) := (Below.refl _ _).alloc (Nat.le_refl _) _
 refine (put_any g lo w1.heap.size 4 n _ v1 _ (G1.alloc _) (M1.keep hA) (Nat.le_trans (Nat.le_trans HLO.out B1.size) hA.size) (Bk.new _ _ _) (by have := HLN.out; have := HL1.out; omega)).mono ?_
 rintro e w2 h
 have h := (h.before hA).behind B1 O1
 rw [List.append_assoc, ← HC.out] at h
 obtain ⟨rfl, v2, G2, M2, B2, O2⟩ := h
 go_wp2_with fail
 go_end0
 exact ⟨rfl, v2, G2, M2, B2, O2⟩
set_option maxRecDepth 100000 in
set_option maxHeartbeats 1000000 in
theorem count_nine (g lo n : Nat) (xs : List Nat) (v : Value) (w : World) (hG : Bk w g 104 #[v]) (hM : Mine w lo v xs) (hlo : lo ≤ w.heap.size) (hlen : xs.length + 16 ≤ 8000000000) (h1 : 4294967296 ≤ n) :
  Calls Tryd.prog 67 #[.pointer (some ⟨g, 0, none⟩), .int .u64 (n : Int)] w (Wrote g lo v (xs ++ countL n) w) := by
 have hd : decide ((n : Int) < 253) = false := decide_eq_false (by omega)
 have hd2 : decide ((n : Int) < 65536) = false := decide_eq_false (by omega)
 have hd3 : decide ((n : Int) < 4294967296) = false := decide_eq_false (by omega)
 have HC := Lib.hid (show countL n = toL 255 (sz8 1) ++ toL n (sz8 8) by unfold countL; rw [if_neg (by omega), if_neg (by omega), if_neg (by omega)]; rfl)
 have HM := Lib.hid hM
 have HLO := Lib.hid hlo
 have HLN := Lib.hid hlen
 clear hM hlo hlen
 go_enter Tryd.func67, Tryd.ntmps67
 go_wp2_with fail
 have hA : Below w.heap.size w (w.alloc (.cells #[.int .u64 255] 22)) := (Below.refl _ _).alloc (Nat.le_refl _) _
 refine (put_any g lo w.heap.size 1 255 xs v _ (hG.alloc _) (HM.out.keep hA) (Nat.le_trans HLO.out hA.size) (Bk.new _ _ _) (by have := HLN.out; omega)).mono ?_
 rintro e w1 h
 obtain ⟨rfl, v1, G1, M1, B1, O1⟩ := h.before hA
 have hl1 : (xs ++ toL 255 (sz8 1)).length = xs.length + 1 := by rw [List.length_append, toL_length]; rfl
 have HL1 := Lib.hid hl1
 clear hl1 hA hG
 go_wp2_with fail
 have hA : Below w1.heap.size w1 (w1.alloc (.cells #[.int .u64 (n : Int)] 22)) := (Below.refl _ _).alloc (Nat.le_refl _) _
 refine (put_any g lo w1.heap.size 8 n _ v1 _ (G1.alloc _) (M1.keep hA) (Nat.le_trans (Nat.le_trans HLO.out B1.size) hA.size) (Bk.new _ _ _) (by have := HLN.out; have := HL1.out; omega)).mono ?_
 rintro e w2 h
 have h := (h.before hA).behind B1 O1
 rw [List.append_assoc, ← HC.out] at h
 obtain ⟨rfl, v2, G2, M2, B2, O2⟩ := h
 go_wp2_with fail
 go_end0
 exact ⟨rfl, v2, G2, M2, B2, O2⟩
theorem count_any (g lo n : Nat) (xs : List Nat) (v : Value) (w : World) (hG : Bk w g 104 #[v]) (hM : Mine w lo v xs) (hlo : lo ≤ w.heap.size) (hlen : xs.length + 16 ≤ 8000000000) :
  Calls Tryd.prog 67 #[.pointer (some ⟨g, 0, none⟩), .int .u64 (n : Int)] w (Wrote g lo v (xs ++ countL n) w) := by
 by_cases h1 : n < 253
 ·exact count_one g lo n xs v w hG hM hlo hlen h1
 by_cases h2 : n < 65536
 ·exact count_three g lo n xs v w hG hM hlo hlen (by omega) h2
 by_cases h3 : n < 4294967296
 ·exact count_five g lo n xs v w hG hM hlo hlen (by omega) h3
 ·exact count_nine g lo n xs v w hG hM hlo hlen (by omega)
def BsN (w : World) (S : Nat → Prop) (v : Value) (xs : List Nat) : Prop := ∃ s cap, v = .slice s xs.length cap ∧ xs.length ≤ cap ∧ cap < 9223372036854775808 ∧ (∀ x ∈ xs, x < 256) ∧
 (xs ≠ [] → ∃ b o, s = some ⟨b, o, none⟩ ∧ b < w.heap.size ∧ ¬ S b ∧ ∀ i, i < xs.length → w.cell? ⟨b, o + i, none⟩ = some (.int .u8 ((nth xs i : Nat) : Int)))
theorem BsN.bs {w : World} {S : Nat → Prop} {v : Value} {xs : List Nat} (h : BsN w S v xs) : BsV w w.heap.size v xs := by
 obtain ⟨s, cap, rfl, h1, h2, h3, h4⟩ := h
 refine ⟨s, cap, rfl, h1, h2, h3, fun hne => ?_⟩
 obtain ⟨b, o, e, hb, _, hc⟩ := h4 hne
 exact ⟨b, o, e, hb, hc⟩
theorem BsN.but {w w' : World} {S : Nat → Prop} {v : Value} {xs : List Nat} (h : BsN w S v xs) (hb : But S w w') : BsN w' S v xs := by
 obtain ⟨s, cap, rfl, h1, h2, h3, h4⟩ := h
 refine ⟨s, cap, rfl, h1, h2, h3, fun hne => ?_⟩
 obtain ⟨b, o, e, hlt, hn, hc⟩ := h4 hne
 exact ⟨b, o, e, Nat.lt_of_lt_of_le hlt hb.size, hn, fun i hi => (hb.cell (p := ⟨b, o + i, none⟩) hlt hn).trans (hc i hi)⟩
theorem BsN.keep {w w' : World} {S : Nat → Prop} {v : Value} {xs : List Nat} (h : BsN w S v xs) (hb : Below w.heap.size w w') : BsN w' S v xs := h.but (But.of hb)
theorem BsN.of_bs {w : World} {B : Nat} {S : Nat → Prop} {v : Value} {xs : List Nat} (h : BsV w B v xs) (hB : B ≤ w.heap.size) (hS : ∀ k, k < B → ¬ S k) : BsN w S v xs := by
 obtain ⟨s, cap, rfl, h1, h2, h3, h4⟩ := h
 refine ⟨s, cap, rfl, h1, h2, h3, fun hne => ?_⟩
 obtain ⟨b, o, e, hlt, hc⟩ := h4 hne
 exact ⟨b, o, e, by omega, hS b hlt, hc⟩
theorem BsN.mono {w : World} {S S' : Nat → Prop} {v : Value} {xs : List Nat} (h : BsN w S v xs) (hS : ∀ k, k < w.heap.size → S' k → S k) : BsN w S' v xs := by
 obtain ⟨s, cap, rfl, h1, h2, h3, h4⟩ := h
 refine ⟨s, cap, rfl, h1, h2, h3, fun hne => ?_⟩
 obtain ⟨b, o, e, hlt, hn, hc⟩ := h4 hne
 exact ⟨b, o, e, hlt, fun h => hn (hS b hlt h), hc⟩
def PartsN (w : World) (S : Nat → Prop) (sp : Option Addr) (ps : List (List Nat)) : Prop := ps ≠ [] → ∃ pb po, sp = some ⟨pb, po, none⟩ ∧ pb < w.heap.size ∧ ¬ S pb ∧ ∀ k ys, ps[k]? = some ys → ∃ u, w.cell? ⟨pb, po + k, none⟩ = some u ∧ BsN w S u ys
theorem partsN_one {w : World} {h : Nat} {S : Nat → Prop} {ys : List Nat} {u : TypeId} {v : Value} (hv : BsN w S v ys) (hh : Bk w h u #[v]) (hS : ¬ S h) : PartsN w S (some ⟨h, 0, none⟩) [ys] := by
 intro _
 refine ⟨h, 0, rfl, hh.lt, hS, fun k zs hk => ?_⟩
 match k with
 | 0 =>
  obtain rfl : ys = zs := by simpa using hk
  exact ⟨v, hh.cell 0, hv⟩
 | k + 1 => simp at hk
set_option maxRecDepth 100000 in
set_option maxHeartbeats 1000000 in
theorem raw_any (g lo : Nat) (sp : Option Addr) (kc : Nat) (ps : List (List Nat)) (xs : List Nat) (v : Value) (w : World) (hG : Bk w g 104 #[v]) (hM : Mine w lo v xs) (hlo : lo ≤ w.heap.size) (hlen : xs.length + ps.flatten.length ≤ 8000000000) (hk31 : ps.length < 2147483648)
  (hp : PartsN w (fun k => k = g ∨ slb v k) sp ps) :
  Calls Tryd.prog 40 #[.pointer (some ⟨g, 0, none⟩), .slice sp ps.length kc] w (Wrote g lo v (xs ++ ps.flatten) w) := by
 have HM := Lib.hid hM
 have HLO := Lib.hid hlo
 have HLN := Lib.hid hlen
 have HP := Lib.hid hp
 obtain ⟨m, hm⟩ : ∃ m, m = ps.length := ⟨_, rfl⟩
 rw [← hm] at hk31 ⊢
 have HMM := Lib.hid hm
 clear hM hlo hlen hp hm
 go_enter Tryd.func40, Tryd.ntmps40
 go_wp2_with fail
 go_loopw [8] (fun i wr => ∃ (k : Nat) (v' : Value), k ≤ m ∧ i = .int .i64 k ∧ Bk wr g 104 #[v'] ∧ Hid (Mine wr lo v' (xs ++ (ps.take k).flatten)) ∧ Hid (But (fun k => k = g ∨ slb v k) w wr) ∧ Hid (∀ k, slb v' k → slb v k ∨ w.heap.size ≤ k)) (fun i _ => m - (intOf i).toNat)
 case atStart => exact ⟨0, v, Nat.zero_le _, rfl, hG, by rw [List.take_zero, List.flatten_nil, List.append_nil]; exact HM.out, But.refl _ _, fun k h => .inl h⟩
 case round =>
  obtain ⟨k, v', hk, rfl, G1, M1, B1, O1⟩ := hrel
  clear hG
  by_cases hlt : k < m
  ·obtain ⟨ys, hys⟩ : ∃ ys, ps[k]? = some ys := ⟨_, List.getElem?_eq_getElem (by rw [← HMM.out]; exact hlt)⟩
   obtain ⟨pb, po, rfl, hpb, hpn, hparts⟩ := HP.out (by intro e; rw [e] at hys; simp at hys)
   obtain ⟨u, hu, hbu⟩ := hparts k ys hys
   have hcell : wr.cell? ⟨pb, po + k, none⟩ = some u := (B1.out.cell (p := ⟨pb, po + k, none⟩) hpb hpn).trans hu
   have hbs := (hbu.but B1.out).bs
   have hfl := flat_len ps k ys hys
   have hl2 : (xs ++ (ps.take k).flatten).length + ys.length ≤ 8589934592 := by rw [List.length_append]; have := HLN.out; omega
   obtain ⟨v5, W5, hrun, M5, B5, O5⟩ := app3 _ ys v' u lo wr M1.out (Nat.le_trans HLO.out B1.out.size) hbs hl2
   obtain ⟨s5, k5, e5⟩ := M5.slice
   generalize ((xs ++ (ps.take k).flatten) ++ ys).length = q5 at e5
   subst e5
   have G5 := B5.keep G1 (M1.out.apart G1 wt_ne)
   have HFS := Lib.hid (flat_step ps k ys hys)
   have c0 := G1.cell 0
   have f0 := G1.frozen 0
   have z0 := G1.lt
   have c5 := G5.cell 0
   have f5 := G5.frozen 0
   have z5 := G5.lt
   have HBU := Lib.hid hbu
   have M5 := Lib.hid M5
   have B5 := Lib.hid B5
   have O5 := Lib.hid O5
   obtain ⟨su, cu, rfl, _⟩ := hbs
   clear hparts hu hys hbu hl2 hfl
   go_wp2_with (at_builtin; refine wpList_app (v1 := v') (v2 := .slice su ys.length cu) (v := .slice s5 q5 k5) rfl (.tmp 16) (.tmp 17) rfl rfl rfl rfl hrun ?_)
   go_roundw
   case rel =>
    refine ⟨k + 1, .slice s5 q5 k5, by omega, by go_num, G5.set_ 0 _, ?_, ?_, ?_⟩
    ·show Mine _ _ _ _
     rw [HFS.out, ← List.append_assoc]
     exact Mine.but M5.out (S := fun k => k = g) (But.set_ (S := fun k => k = g) (But.refl _ W5) (.inl rfl) 0 none _) (fun i hi e => M5.out.apart G5 wt_ne (by rw [← e]; exact hi))
    ·show But _ _ _
     have h := B1.out.trans B5.out (fun i hi h => by
      rcases O1.out i h with h | h
      ·exact .inr h
      ·exact absurd hi (by omega))
     exact h.set_ (.inl (.inl rfl)) 0 none _
    ·intro i hi
     rcases O5.out i hi with h | h
     ·exact O1.out i h
     ·exact .inr (Nat.le_trans B1.out.size h)
   case measure => simp [intOf]; omega
  ·have hkm : k = m := by omega
   have hdk : decide (k < m) = false := decide_eq_false (by omega)
   have e1 : ps.take k = ps := List.take_of_length_le (by have := HMM.out; omega)
   rw [e1] at M1
   clear hlt hkm e1
   go_wp2_with fail
   go_end0
   exact ⟨rfl, v', G1, M1.out, B1.out, O1.out⟩
end Go.Proofs.YtkpffjcdalclmaaDoor
namespace Go.Proofs.YtkpffjcdalclmaaDoor
open Go.RowKit
set_option linter.unusedVariables false
theorem BsN.next {w w' : World} {S S' : Nat → Prop} {v : Value} {xs : List Nat} (h : BsN w S v xs) (hb : But S w w') (hS : ∀ k, S' k → S k ∨ w.heap.size ≤ k) : BsN w' S' v xs := by
 obtain ⟨s, cap, rfl, h1, h2, h3, h4⟩ := h
 refine ⟨s, cap, rfl, h1, h2, h3, fun hne => ?_⟩
 obtain ⟨b, o, e, hlt, hn, hc⟩ := h4 hne
 exact ⟨b, o, e, Nat.lt_of_lt_of_le hlt hb.size, fun h => (hS b h).elim hn (by omega), fun i hi => (hb.cell (p := ⟨b, o + i, none⟩) hlt hn).trans (hc i hi)⟩
set_option maxRecDepth 100000 in
set_option maxHeartbeats 1000000 in
theorem text_any (g lo : Nat) (u : Value) (ys xs : List Nat) (v : Value) (w : World) (hG : Bk w g 104 #[v]) (hM : Mine w lo v xs) (hlo : lo ≤ w.heap.size) (hlen : xs.length + ys.length + 16 ≤ 8000000000)
  (hu : BsN w (fun k => k = g ∨ slb v k) u ys) :
  Calls Tryd.prog 92 #[.pointer (some ⟨g, 0, none⟩), u] w (Wrote g lo v (xs ++ (countL ys.length ++ ys)) w) := by
 have HU := Lib.hid hu
 obtain ⟨s, cap, rfl, h1, h2, h3, h4⟩ := hu
 have HM := Lib.hid hM
 have HLO := Lib.hid hlo
 have HLN := Lib.hid hlen
 generalize hn : ys.length = n at *
 have HN := Lib.hid hn
 have q : IntKind.u64.wrap ((n : Nat) : Int) = (n : Int) := by rw [IntKind.wrap_u64]; omega
 clear hM hlo hlen hn h1 h2 h3 h4
 go_enter Tryd.func92, Tryd.ntmps92
 go_wp2_with fail
 refine (count_any g lo n xs v w hG HM.out HLO.out (by have := HLN.out; omega)).mono ?_
 rintro e w1 ⟨rfl, v1, G1, M1, B1, O1⟩
 have hU1 : BsN w1 (fun k => k = g ∨ slb v1 k) (.slice s n cap) ys := HU.out.next B1 (fun k h => by
  rcases h with h | h
  ·exact .inl (.inl h)
  ·rcases O1 k h with h | h
   ·exact .inl (.inr h)
   ·exact .inr h)
 have hl : (xs ++ countL n).length ≤ xs.length + 9 := by rw [List.length_append]; have := countL_len n; omega
 have HL := Lib.hid hl
 have HU1 := Lib.hid hU1
 clear hl hU1 hG
 go_wp2_with fail
 have hA : Below w1.heap.size w1 (w1.alloc (.cells #[.slice s n cap] 32)) := (Below.refl _ _).alloc (Nat.le_refl _) _
 have hgl := G1.lt
 refine (raw_any g lo (some ⟨w1.heap.size, 0, none⟩) 1 [ys] (xs ++ countL n) v1 _ (G1.alloc _) (M1.keep hA) (Nat.le_trans (Nat.le_trans HLO.out B1.size) hA.size) ?_ (by simp) (partsN_one (HU1.out.keep hA) (Bk.new _ _ _) ?_)).mono ?_
 ·have := HLN.out
  have := HL.out
  have := HN.out
  simp only [List.flatten_cons, List.flatten_nil, List.append_nil]
  omega
 ·rintro (h | h)
  ·omega
  ·have := (M1.slb_lo h).2.1
   omega
 rintro e w2 h
 have h := (h.before hA).behind B1 O1
 simp only [List.flatten_cons, List.flatten_nil, List.append_nil] at h
 rw [List.append_assoc] at h
 obtain ⟨rfl, v2, G2, M2, B2, O2⟩ := h
 go_wp2_with fail
 go_end0
 exact ⟨rfl, v2, G2, M2, B2, O2⟩
set_option maxRecDepth 100000 in
set_option maxHeartbeats 1000000 in
theorem clone_any (xs : List Nat) (v : Value) (w : World) (hb : BsV w w.heap.size v xs) (hlt : xs.length ≤ 8000000000) :
  Calls Tryd.prog 57 #[v] w fun e w' => ∃ v', e = .returned v' ∧ Mine w' w.heap.size v' xs ∧ Below w.heap.size w w' := by
 have q22 : ∀ (w : World) (a : Option Addr) (n c n' c' : Nat), (binOp .eql 32 (.slice a n c) (.slice none n' c')).run Tryd.prog w = .ok (.bool a.isNone) w := fun w a n c n' c' => Lib.run_eql_slice_nil w _ _ a n c n' c' Tryd.underlying32
 have u22 : ∀ w, Sem.run Tryd.prog (underlying 32) w = .ok (TypeDesc.slice 5) w := run_underlying Tryd.underlying32
 have hb0 := hb
 obtain ⟨s, cap, rfl, h1, h2, h3, h4⟩ := hb
 cases s with
 | none =>
  have h0 : xs = [] := by
   by_cases h : xs = []
   ·exact h
   ·obtain ⟨b, o, e, _⟩ := h4 h
    cases e
  subst h0
  clear hb0 h1 h2 h3 h4
  go_enter Tryd.func57, Tryd.ntmps57
  go_wp2_with fail
  go_ret
  exact ⟨_, rfl, .inl ⟨rfl, rfl⟩, Below.refl _ _⟩
 | some a =>
  have hA : Below w.heap.size w (w.alloc (.cells #[] 5)) := (Below.refl _ _).alloc (Nat.le_refl _) _
  obtain ⟨v', W, hrun, M, B, O⟩ := app3 [] xs (.slice (some ⟨w.heap.size, 0, none⟩) 0 0) (.slice (some a) xs.length cap) w.heap.size (w.alloc (.cells #[] 5)) (.inr ⟨w.heap.size, 0, 0, rfl, rfl, by omega, Nat.le_refl _, Bk.new _ _ _⟩) hA.size ((hb0.keep hA (Nat.le_refl _)).mono hA.size) (by simpa using Nat.le_trans hlt (by omega))
  have hBW : Below w.heap.size w W := hA.trans (B.below hA.size (fun k hk => by rw [slb_some hk]; exact Nat.le_refl _))
  rw [List.nil_append] at M
  obtain ⟨s5, k5, rfl⟩ := M.slice
  have M := Lib.hid M
  generalize xs.length = n at *
  clear hb0 h1 h2 h3 h4 hA B O hlt
  go_enter Tryd.func57, Tryd.ntmps57
  go_wp2_with (at_builtin; refine wpList_app (v1 := .slice (some ⟨w.heap.size, 0, none⟩) 0 0) (v2 := .slice (some a) n cap) (v := .slice s5 n k5) rfl (.tmp 5) (.tmp 6) rfl rfl rfl rfl hrun ?_)
  go_ret
  exact ⟨_, rfl, M.out, hBW⟩
set_option maxRecDepth 100000 in
set_option maxHeartbeats 1000000 in
theorem bytes_any (g lo : Nat) (xs : List Nat) (v : Value) (w : World) (hG : Bk w g 104 #[v]) (hM : Mine w lo v xs) (hx : ∀ x ∈ xs, x < 256) (hlt : xs.length ≤ 8000000000) :
  Calls Tryd.prog 41 #[.pointer (some ⟨g, 0, none⟩)] w fun e w' => ∃ v', e = .returned v' ∧ Mine w' w.heap.size v' xs ∧ Below w.heap.size w w' := by
 have HC := Lib.hid (clone_any xs v w (hM.bs hx) hlt)
 obtain ⟨s, c, rfl⟩ := hM.slice
 generalize xs.length = n at *
 have c0 := hG.cell 0
 have f0 := hG.frozen 0
 have z0 := hG.lt
 clear hM
 go_enter Tryd.func41, Tryd.ntmps41
 go_wp2_with fail
 refine HC.out.mono ?_
 rintro e w1 ⟨v', rfl, M, B⟩
 have M := Lib.hid M
 go_wp2_with fail
 go_ret
 exact ⟨_, rfl, M.out, B⟩
def Rd (w : World) (p : Nat) (v : Value) (xs : List Nat) (e : Nat) : Prop := Bk w p 156 #[v, .int .i64 (e : Int)] ∧ BsN w (fun k => k = p) v xs ∧ ∀ n c, v = .slice none n c → c = 0
set_option maxRecDepth 100000 in
set_option maxHeartbeats 1000000 in
theorem read_any (xs : List Nat) (v : Value) (w : World) (hb : BsV w w.heap.size v xs) (hlt : xs.length ≤ 8000000000) (hx : ∀ x ∈ xs, x < 256) :
  Calls Tryd.prog 74 #[v] w fun e w' => ∃ p v', e = .returned (.pointer (some ⟨p, 0, none⟩)) ∧ Rd w' p v' xs 0 ∧ Below w.heap.size w w' ∧ w.heap.size ≤ p ∧ ∀ k, slb v' k → w.heap.size ≤ k := by
 have HC := Lib.hid (clone_any xs v w hb hlt)
 have HX := Lib.hid hx
 obtain ⟨s, c, rfl, _⟩ := hb
 generalize hn : xs.length = n at *
 have HN := Lib.hid hn
 clear hx hn
 go_enter Tryd.func74, Tryd.ntmps74
 go_wp2_with fail
 refine HC.out.mono ?_
 rintro e w1 ⟨v', rfl, M, B⟩
 have M := Lib.hid M
 obtain ⟨s5, c5, e5⟩ := M.out.slice
 rw [HN.out] at e5
 subst e5
 go_wp2_with fail
 go_ret
 have hA : Below w1.heap.size w1 (w1.alloc (.cells #[.slice s5 n c5, .int .i64 0] 156)) := (Below.refl _ _).alloc (Nat.le_refl _) _
 refine ⟨w1.heap.size, _, rfl, ⟨Bk.new _ _ _, BsN.of_bs ((M.out.bs HX.out).keep hA (Nat.le_refl _)) hA.size (fun k hk e => by omega), ?_⟩, B.alloc B.size _, B.size, fun k hk => (M.out.slb_lo hk).1⟩
 intro n' c' e
 rcases M.out with ⟨h, _⟩ | ⟨T, cap, z, h, _⟩
 ·rw [h] at e
  cases e
  rfl
 ·rw [h] at e
  cases e
end Go.Proofs.YtkpffjcdalclmaaDoor
