/- A peer's small functions. -/
import Derived.Test.YtkpffjcdalclmaaDoorZFrJ
import Derived.Laws.StructEq
import Derived.StillTailTactics
namespace Go.Proofs.YtkpffjcdalclmaaDoor
open Go.RowKit
set_option linter.unusedVariables false
set_option linter.unusedSimpArgs false
set_option maxRecDepth 100000
theorem still_skip {ops : Array Oper} {rest : List Oper} {o : Oper} {a : Act} {w : World} {Q : Act → Prop} (hw : Region.wanted o (yielded ops a.tmps) = false) (h : ∀ K : Act → Prop, (∀ b, wpStill Tryd.prog ops w Q rest b → K b) → K (a.put o.dst undef)) : wpStill Tryd.prog ops w Q (o :: rest) a := by
  refine wpStill_step (fun K hK => ?_)
  rw [if_neg (by rw [hw]; decide)]
  exact h K hK
theorem still_want {ops : Array Oper} {rest : List Oper} {o : Oper} {a : Act} {w : World} {Q : Act → Prop} (hw : Region.wanted o (yielded ops a.tmps) = true) (h : ∀ K : Act → Prop, (∀ b, wpStill Tryd.prog ops w Q rest b → K b) → o.still Tryd.prog a w K) : wpStill Tryd.prog ops w Q (o :: rest) a := by
  refine wpStill_step (fun K hK => ?_)
  rw [if_pos hw]
  exact h K hK
structure Sh (p : Prop) : Prop where
  out : p
theorem hs_step {ops : Array Oper} {rest : List Oper} {o : Oper} {a : Act} {w : World} {Q : Act → Prop} (h : ∀ K : Act → Prop, (∀ b, Sh (wpStill Tryd.prog ops w Q rest b) → K b) → if Region.wanted o (yielded ops a.tmps) then o.still Tryd.prog a w K else K (a.put o.dst undef)) : Sh (wpStill Tryd.prog ops w Q (o :: rest) a) :=
  Sh.mk (wpStill_step (fun K hK => h K (fun b hb => hK b hb.out)))
theorem hs_skip {ops : Array Oper} {rest : List Oper} {o : Oper} {a : Act} {w : World} {Q : Act → Prop} (hw : Region.wanted o (yielded ops a.tmps) = false) (h : ∀ K : Act → Prop, (∀ b, Sh (wpStill Tryd.prog ops w Q rest b) → K b) → K (a.put o.dst undef)) : Sh (wpStill Tryd.prog ops w Q (o :: rest) a) :=
  Sh.mk (still_skip hw (fun K hK => h K (fun b hb => hK b hb.out)))
theorem hs_want {ops : Array Oper} {rest : List Oper} {o : Oper} {a : Act} {w : World} {Q : Act → Prop} (hw : Region.wanted o (yielded ops a.tmps) = true) (h : ∀ K : Act → Prop, (∀ b, Sh (wpStill Tryd.prog ops w Q rest b) → K b) → o.still Tryd.prog a w K) : Sh (wpStill Tryd.prog ops w Q (o :: rest) a) :=
  Sh.mk (still_want hw (fun K hK => h K (fun b hb => hK b hb.out)))
theorem hs_nil {ops : Array Oper} {a : Act} {w : World} {Q : Act → Prop} (h : Q a) : Sh (wpStill Tryd.prog ops w Q [] a) := Sh.mk (wpStill_nil h)
structure PeM where
  sc : Int
  nc : Nat
  si : Int
  wt : Bool
  h : List Nat
  e : Nat
  kn : Bool
  rd : Bool
  ht : Nat
def peA (m : PeM) (v : Value) : Array Value := #[.int .i64 m.sc, .int .u64 (m.nc : Int), .int .i64 m.si, .bool m.wt, v, .int .i64 (m.e : Int), .bool m.kn, .bool m.rd, .int .u32 (m.ht : Int)]
def PeK (w : World) (p : Nat) (m : PeM) (v : Value) : Prop := Bk w p 65 (peA m v)
def blI (s n : Int) : Int := s + min (max n 0) (100 - s)
theorem blI_in {s : Int} (n : Int) (h : 0 ≤ s ∧ s ≤ 100) : 0 ≤ blI s n ∧ blI s n ≤ 100 ∧ s ≤ blI s n := by unfold blI; omega
theorem PeK.keep {w W : World} {p : Nat} {m : PeM} {v : Value} (h : PeK w p m v) (hb : Below w.heap.size w W) : PeK W p m v := Bk.keep h hb
theorem PeK.lt {w : World} {p : Nat} {m : PeM} {v : Value} (h : PeK w p m v) : p < w.heap.size := Bk.lt h
set_option maxHeartbeats 4000000 in
theorem blame_any (p : Nat) (m : PeM) (v : Value) (n : Int) (w : World) (K : PeK w p m v) (hm : 0 ≤ m.sc ∧ m.sc ≤ 100) (hn : -9223372036854775808 ≤ n ∧ n ≤ 9223372036854775807) :
    Calls Tryd.prog 19 #[.pointer (some ⟨p, 0, none⟩), .int .i64 n] w fun r w' => r = .returned (.tuple #[]) ∧ PeK w' p { m with sc := blI m.sc n } v ∧ But (fun k => k = p) w w' := by
  obtain ⟨sc, nc, si, wt, h, e, kn, rd, ht⟩ := m
  obtain ⟨h1, h2⟩ := hm
  simp only at h1 h2
  have HK := Lib.hid K
  have c0 : w.cell? ⟨p, 0, none⟩ = some (.int .i64 sc) := (Bk.cell K 0).trans rfl
  have fz := Bk.frozen K 0
  have z0 := Bk.lt K
  have q1 : IntKind.i64.wrap (100 - sc) = 100 - sc := IntWalk.i64_in _ (by omega)
  have q2 : IntKind.i64.wrap (sc + min (max n 0) (100 - sc)) = sc + min (max n 0) (100 - sc) := IntWalk.i64_in _ (by omega)
  have HP : Hid (∀ z : Int, z = blI sc n → PeK (w.setCell ⟨p, 0, none⟩ (.int .i64 z)).drew p ⟨blI sc n, nc, si, wt, h, e, kn, rd, ht⟩ v ∧ But (fun k => k = p) w (w.setCell ⟨p, 0, none⟩ (.int .i64 z)).drew) := by
    rintro z rfl
    exact ⟨Bk.keep (Bk.set_ K 0 _) (Below.refl _ _).drew, ((But.refl (fun k => k = p) w).set_ (.inl rfl) 0 none _).drew⟩
  clear K q1 q2
  go_enter Tryd.func19, Tryd.ntmps19
  go_still_tail 15, (by kernel_rfl)
  change wpList _ _ _ _ _ w.drew
  go_wp2_with fail
  all_goals go_end0
  all_goals refine ⟨rfl, HP.out _ ?_⟩
  all_goals first | (unfold blI; omega) | (unfold blI wrap64; omega)
set_option maxHeartbeats 4000000 in
theorem score_any (p : Nat) (m : PeM) (v : Value) (w : World) (K : PeK w p m v) :
    Calls Tryd.prog 21 #[.pointer (some ⟨p, 0, none⟩)] w fun r w' => r = .returned (.int .i64 m.sc) ∧ w' = w := by
  obtain ⟨sc, nc, si, wt, h, e, kn, rd, ht⟩ := m
  have c0 : w.cell? ⟨p, 0, none⟩ = some (.int .i64 sc) := (Bk.cell K 0).trans rfl
  have z0 := Bk.lt K
  clear K
  go_enter Tryd.func21, Tryd.ntmps21
  go_wp2_with fail
  go_ret
  exact ⟨rfl, rfl⟩
set_option maxHeartbeats 4000000 in
theorem bad_any (p : Nat) (m : PeM) (v : Value) (w : World) (K : PeK w p m v) :
    Calls Tryd.prog 22 #[.pointer (some ⟨p, 0, none⟩)] w fun r w' => r = .returned (.bool (m.sc == 100)) ∧ w' = w := by
  obtain ⟨sc, nc, si, wt, h, e, kn, rd, ht⟩ := m
  have c0 : w.cell? ⟨p, 0, none⟩ = some (.int .i64 sc) := (Bk.cell K 0).trans rfl
  have z0 := Bk.lt K
  clear K
  go_enter Tryd.func22, Tryd.ntmps22
  go_wp2_with fail
  go_ret
  exact ⟨rfl, rfl⟩
def curI (m : PeM) : Int := IntKind.u64.wrap ((m.nc : Int) + IntKind.u64.wrap m.si)
set_option maxHeartbeats 4000000 in
theorem current_any (p : Nat) (m : PeM) (v : Value) (w : World) (K : PeK w p m v) :
    Calls Tryd.prog 60 #[.pointer (some ⟨p, 1, none⟩)] w fun r w' => r = .returned (.int .u64 (curI m)) ∧ Below w.heap.size w w' := by
  obtain ⟨sc, nc, si, wt, h, e, kn, rd, ht⟩ := m
  have c0 : w.cell? ⟨p, 1, none⟩ = some (.int .u64 (nc : Int)) := (Bk.cell K 1).trans rfl
  have c1 : w.cell? ⟨p, 2, none⟩ = some (.int .i64 si) := (Bk.cell K 2).trans rfl
  have z0 := Bk.lt K
  clear K
  unfold curI
  go_enter Tryd.func60, Tryd.ntmps60
  go_upto_region 1 with fail
  go_still_tail 10, (by kernel_rfl)
  change wpList _ _ _ _ _ w.drew
  go_wp2_with fail
  go_ret
  exact ⟨rfl, (Below.refl _ _).drew⟩
theorem current_any' (p : Nat) (m : PeM) (v : Value) (w : World) (K : PeK w p m v) :
    Calls Tryd.prog 60 #[.pointer (some ⟨p, 1, none⟩)] w fun r w' => ∃ c : Int, c = curI m ∧ r = .returned (.int .u64 c) ∧ Below w.heap.size w w' := (current_any p m v w K).mono fun _ _ h => ⟨_, rfl, h⟩
def ansF (m : PeM) (n : Nat) : PeM := if ((n : Int) == curI m) = true then { m with wt := false } else m
set_option maxHeartbeats 4000000 in
theorem answered_any (p n : Nat) (m : PeM) (v : Value) (w : World) (K : PeK w p m v) :
    Calls Tryd.prog 36 #[.pointer (some ⟨p, 1, none⟩), .int .u64 (n : Int)] w fun r w' => r = .returned (.tuple #[]) ∧ PeK w' p (ansF m n) v ∧ But (fun k => k = p) w w' := by
  have HK := Lib.hid K
  have HC := Lib.hid (current_any' p m v w K)
  have HCU : Hid (∀ c : Int, c = curI m → ansF m n = if ((n : Int) == c) = true then { m with wt := false } else m) := fun c h => by rw [h]; rfl
  clear K
  go_enter Tryd.func36, Tryd.ntmps36
  go_wp2_with fail
  refine HC.out.mono ?_
  rintro e w1 ⟨c, hc, rfl, hb⟩
  have hm := HCU.out c hc
  have HM := Lib.hid hm
  have HK1 := Lib.hid (HK.out.keep hb)
  have HB := Lib.hid hb
  have z1 := HK1.out.lt
  have fz := Bk.frozen HK1.out 3
  have c3 : w1.cell? ⟨p, 3, none⟩ = some (.bool m.wt) := (Bk.cell HK1.out 3).trans rfl
  clear hc hm hb HC
  by_cases h : (n : Int) = c
  · have q : ((n : Int) == c) = true := by rw [beq_iff_eq]; exact h
    have hm := HM.out.trans (if_pos q)
    have HP : Hid (PeK (w1.setCell ⟨p, 3, none⟩ (.bool false)) p (ansF m n) v ∧ But (fun k => k = p) w (w1.setCell ⟨p, 3, none⟩ (.bool false))) := by
      rw [hm]
      exact ⟨Bk.set_ HK1.out 3 _, (But.of (S := fun k => k = p) HB.out).set_ (.inl rfl) 3 none _⟩
    clear h hm
    go_wp2_with fail
    go_end0
    exact ⟨rfl, HP.out⟩
  · have q : ((n : Int) == c) = false := by rw [beq_eq_false_iff_ne]; exact h
    have hm := HM.out.trans (if_neg (by rw [q]; decide))
    have HP : Hid (PeK w1 p (ansF m n) v ∧ But (fun k => k = p) w w1) := by
      rw [hm]
      exact ⟨HK1.out, But.of HB.out⟩
    clear h hm
    go_wp2_with fail
    go_end0
    exact ⟨rfl, HP.out⟩
end Go.Proofs.YtkpffjcdalclmaaDoor
