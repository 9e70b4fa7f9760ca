/-
  Package trace: may a message be said?
-/
import Derived.Test.YtcedljfdnbenoaaTrG
namespace Go.Proofs.Ytcedljfdnbenoaa
open Go.RowKit
open Go.Maps (Keyed IsMap)
set_option linter.unusedVariables false
set_option linter.unusedSimpArgs false
set_option maxRecDepth 100000

/-- May it be said: the error's number; and what then is. -/
def saidE (M : BkM) (id kd : Int) (L : List I32) : Int :=
  match M.T id with
  | none => 4
  | some k => if kd = 1 then (greet1 k).1 else if kd = 2 then (greet2 k).1 else if (!k.s2 || !k.h2) = true then 7 else if kd = 6 then askE M id L else 0
def saidM (M : BkM) (id kd : Int) (L : List I32) : BkM :=
  match M.T id with
  | none => M
  | some k => if kd = 1 then setT M id (greet1 k).2 else if kd = 2 then setT M id (greet2 k).2 else if (!k.s2 || !k.h2) = true then M else if kd = 6 then askM M id L else M
theorem Goes.mono {S : Nat → Prop} {w w' : World} {g N N' : Nat} {M : BkM} (h : Goes S w g N M w') (hN : N ≤ N') : Goes S w g N' M w' := by
  obtain ⟨S', r1, r2, r3⟩ := h
  exact ⟨S', r1.mono hN, r2, r3⟩
set_option maxHeartbeats 8000000 in
theorem said_any {w : World} {S : Nat → Prop} {g N : Nat} {M : BkM} (h : BkI w S g N M) (id : Int) (hid : InI id) (MS : Array Value) (kd : Int) (nv : Value) (L : List I32) (h0 : MS[0]? = some (.int .i64 kd)) (h3 : MS[3]? = some nv)
    (hL : kd = 6 → RowV idR w w.heap.size nv L ∧ L.length ≤ 1000000) (hN : N ≤ 1000000) (hA : (M.L id).length ≤ 1000000) :
    Calls Try.prog 9 #[bkP g, .int .i64 id, .agg MS] w fun e w' => e = .returned (.int .i64 (saidE M id kd L)) ∧ Goes S w g (N + 16) (saidM M id kd L) w' := by
  obtain ⟨w1, hw1⟩ : ∃ w1, w1 = w.alloc (.cells MS 44) := ⟨_, rfl⟩
  have hB : Below w.heap.size w w1 := by rw [hw1]; exact (Below.refl _ _).alloc (Nat.le_refl _) _
  have hs1 : w1.heap.size = w.heap.size + 1 := by rw [hw1]; simp
  have hKM : Bk w1 w.heap.size 44 MS := by rw [hw1]; exact Bk.new _ _ _
  have hI := h.keep hB
  have HI := Lib.hid hI
  obtain ⟨tv, av, sz, P, h1, h⟩ := h
  have h2 := h.keep hB
  have c0 : w1.cell? ⟨g, 0, none⟩ = some tv := h2.G.cell 0
  have m0 : w1.cell? ⟨w.heap.size, 0, none⟩ = some (.int .i64 kd) := (hKM.cell 0).trans h0
  have m3 : w1.cell? ⟨w.heap.size, 3, none⟩ = some nv := (hKM.cell 3).trans h3
  have hl : (Instr.lookup 24 tv (.int .i64 id) true).run Try.prog w1 = _ := h2.mt.look tkE_ok (x := id) hid
  have hg := h.G.lt
  unfold bkP
  have HB := Lib.hid hB
  cases hT : M.T id with
  | none =>
    rw [hT] at hl
    change _ = Result.ok (Value.tuple #[.pointer none, .bool false]) w1 at hl
    have hE : saidE M id kd L = 4 := by unfold saidE; rw [hT]
    have hG : Hid (Goes S w g (N + 16) (saidM M id kd L) w1) := by
      unfold saidM
      rw [hT]
      exact Goes.stay ⟨tv, av, sz, P, by omega, h⟩ hB
    rw [hE]
    clear h h2 hI hKM hT hB hL
    go_enter Try.func9, Try.ntmps9
    go_upto_region 1 with fail
    rw [← hw1]
    clear hw1
    go_wp2_with (at_lookup; refine wpList_lk rfl _ _ _ rfl rfl rfl hl ?_)
    go_ret
    exact ⟨rfl, hG.out⟩
  | some k =>
    rw [hT] at hl
    change _ = Result.ok (Value.tuple #[.pointer (some ⟨P id, 0, none⟩), .bool true]) w1 at hl
    obtain ⟨hsp, hKp⟩ := h2.tk id k hT
    have p2 : w1.cell? ⟨P id, 2, none⟩ = some (.bool k.h2) := hKp.cell 2
    have p5 : w1.cell? ⟨P id, 5, none⟩ = some (.bool k.s2) := hKp.cell 5
    have hpl := hKp.lt
    have hg1 := greet1_any k (P id) w1 hKp
    have hg2 := greet2_any k (P id) w1 hKp
    have hE : saidE M id kd L = if kd = 1 then (greet1 k).1 else if kd = 2 then (greet2 k).1 else if (!k.s2 || !k.h2) = true then 7 else if kd = 6 then askE M id L else 0 := by unfold saidE; rw [hT]
    have hM : saidM M id kd L = if kd = 1 then setT M id (greet1 k).2 else if kd = 2 then setT M id (greet2 k).2 else if (!k.s2 || !k.h2) = true then M else if kd = 6 then askM M id L else M := by unfold saidM; rw [hT]
    have HG1 : Hid (∀ W k', Bk W (P id) 71 (tkC k') → But (fun q => q = P id) w1 W → Goes S w g (N + 16) (setT M id k') W) := by
      show ∀ W k', _
      intro W k' hk hb
      exact ((tk_goes h2 h1 hT hk hb).later hB).mono (by omega)
    have HST : Hid (Goes S w g (N + 16) M w1) := Goes.stay ⟨tv, av, sz, P, by omega, h⟩ hB
    have HT : Hid ((M.T id).isSome = true) := by show _ = _; rw [hT]; rfl
    have HL := Lib.hid hL
    clear h h2 hI hKM hT hB hL
    by_cases e1 : kd = 1
    · have d1 : (kd == 1) = true := by simp [e1]
      rw [if_pos e1] at hE hM
      rw [hE, hM]
      subst e1
      clear hg2
      go_enter Try.func9, Try.ntmps9
      go_upto_region 1 with fail
      rw [← hw1]
      clear hw1
      go_wp2_with (at_lookup; refine wpList_lk rfl _ _ _ rfl rfl rfl hl ?_)
      refine hg1.mono ?_
      rintro e W ⟨rfl, hk, hb⟩
      have hG := Lib.hid (HG1.out W _ hk hb)
      clear hk hb hg1
      go_wp2_with fail
      go_ret
      exact ⟨rfl, hG.out⟩
    have d1 : (kd == 1) = false := by simp [e1]
    rw [if_neg e1] at hE hM
    by_cases e2 : kd = 2
    · have d2 : (kd == 2) = true := by simp [e2]
      rw [if_pos e2] at hE hM
      rw [hE, hM]
      subst e2
      clear hg1
      go_enter Try.func9, Try.ntmps9
      go_upto_region 1 with fail
      rw [← hw1]
      clear hw1
      go_wp2_with (at_lookup; refine wpList_lk rfl _ _ _ rfl rfl rfl hl ?_)
      refine hg2.mono ?_
      rintro e W ⟨rfl, hk, hb⟩
      have hG := Lib.hid (HG1.out W _ hk hb)
      clear hk hb hg2
      go_wp2_with fail
      go_ret
      exact ⟨rfl, hG.out⟩
    have d2 : (kd == 2) = false := by simp [e2]
    rw [if_neg e2] at hE hM
    clear hg1 hg2
    obtain ⟨h1', h2', s1', s2'⟩ := k
    by_cases es : (!s2' || !h2') = true
    · rw [if_pos es] at hE hM
      rw [hE, hM]
      clear e1 e2
      cases s2' <;> cases h2' <;> first | (cases es; done) | (go_enter Try.func9, Try.ntmps9; go_upto_region 1 with fail; rw [← hw1]; clear hw1; go_wp2_with (at_lookup; refine wpList_lk rfl _ _ _ rfl rfl rfl hl ?_); go_ret; exact ⟨rfl, HST.out⟩)
    rw [if_neg es] at hE hM
    have es2 : s2' = true ∧ h2' = true := by
      clear hE hM p2 p5 HG1
      cases s2' <;> cases h2' <;> first | exact ⟨rfl, rfl⟩ | exact absurd (by decide) es
    obtain ⟨rfl, rfl⟩ := es2
    clear es
    by_cases e6 : kd = 6
    · have d6 : (kd == 6) = true := by simp [e6]
      rw [if_pos e6] at hE hM
      rw [hE, hM]
      obtain ⟨hrow, h63⟩ := HL.out e6
      have hask := ask_any HI.out id HT.out nv L w.heap.size (hrow.keep HB.out (Nat.le_refl _)) HB.out.size h63 hN hA
      unfold bkP at hask
      clear hrow h63 HL HST e6 e1 e2 hE hM
      go_enter Try.func9, Try.ntmps9
      go_upto_region 1 with fail
      rw [← hw1]
      clear hw1
      go_wp2_with (at_lookup; refine wpList_lk rfl _ _ _ rfl rfl rfl hl ?_)
      refine hask.mono ?_
      rintro e W ⟨rfl, hW⟩
      have hG := Lib.hid (hW.later HB.out)
      clear hW hask
      go_wp2_with fail
      go_ret
      exact ⟨rfl, hG.out⟩
    have d6 : (kd == 6) = false := by simp [e6]
    rw [if_neg e6] at hE hM
    rw [hE, hM]
    clear e1 e2 e6 HL
    go_enter Try.func9, Try.ntmps9
    go_upto_region 1 with fail
    rw [← hw1]
    clear hw1
    go_wp2_with (at_lookup; refine wpList_lk rfl _ _ _ rfl rfl rfl hl ?_)
    go_ret
    exact ⟨rfl, HST.out⟩
end Go.Proofs.Ytcedljfdnbenoaa
