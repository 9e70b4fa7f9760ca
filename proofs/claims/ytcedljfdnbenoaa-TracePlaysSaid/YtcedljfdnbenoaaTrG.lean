/-
  Package trace: greetings; what is heard.
-/
import Derived.Test.YtcedljfdnbenoaaTrF
namespace Go.Proofs.Ytcedljfdnbenoaa
open Go.RowKit
open Go.Maps (Keyed IsMap)
set_option linter.unusedVariables false
set_option linter.unusedSimpArgs false
set_option maxRecDepth 100000

theorem BkI.tight {w : World} {S : Nat → Prop} {g N : Nat} {M : BkM} (h : BkI w S g N M) : BkI w (fun k => S k ∧ k < w.heap.size) g N M := by
  obtain ⟨tv, av, sz, P, h1, h⟩ := h
  refine ⟨tv, av, sz, P, h1, h.G, ⟨h.sg, h.G.lt⟩, h.mt, h.ma, fun k e => ⟨h.st k e, ?_⟩, fun k e => ⟨h.sa k e, ?_⟩, h.ne, h.nn, h.hA, h.nd, fun i k e => ⟨⟨(h.tk i k e).1, (h.tk i k e).2.lt⟩, (h.tk i k e).2⟩, h.tj⟩
  · rcases h.mt with ⟨e', _⟩ | ⟨b, e', hm⟩
    · rw [e'] at e; cases e
    · rw [e'] at e; cases e; exact hm.lt
  · rcases h.ma with ⟨e', _⟩ | ⟨b, e', hm⟩
    · rw [e'] at e; cases e
    · rw [e'] at e; cases e; exact hm.lt
def greet1 (k : TkM) : Int × TkM := (if k.s1 = true then 5 else 0, ⟨k.h1, k.h2, true, k.s2⟩)
def greet2 (k : TkM) : Int × TkM := if k.s2 = true then (5, k) else if (!k.s1 || !k.h1) = true then (7, k) else (0, ⟨k.h1, k.h2, k.s1, true⟩)
theorem greet1_any (k : TkM) (p : Nat) (w : World) (hK : Bk w p 71 (tkC k)) :
    Calls Try.prog 17 #[.pointer (some ⟨p, 0, none⟩), .int .i64 1] w fun e w' => e = .returned (.int .i64 (greet1 k).1) ∧ Bk w' p 71 (tkC (greet1 k).2) ∧ But (fun q => q = p) w w' := by
  obtain ⟨h1, h2, s1, s2⟩ := k
  have c4 : w.cell? ⟨p, 4, none⟩ = some (.bool s1) := hK.cell 4
  have f4 := hK.frozen 4
  have hp := hK.lt
  have hG : Bk (w.setCell ⟨p, 4, none⟩ (.bool true)) p 71 (tkC ⟨h1, h2, true, s2⟩) := hK.set_ 4 _
  have hB : But (fun q => q = p) w (w.setCell ⟨p, 4, none⟩ (.bool true)) := (But.refl (fun q => q = p) w).set_ (.inl rfl) 4 none _
  cases s1 with
  | true =>
    go_enter Try.func17, Try.ntmps17
    go_wp2_with fail
    go_ret
    exact ⟨rfl, hK, But.refl _ _⟩
  | false =>
    go_enter Try.func17, Try.ntmps17
    go_wp2_with fail
    go_ret
    exact ⟨rfl, hG, hB⟩
theorem greet2_any (k : TkM) (p : Nat) (w : World) (hK : Bk w p 71 (tkC k)) :
    Calls Try.prog 17 #[.pointer (some ⟨p, 0, none⟩), .int .i64 2] w fun e w' => e = .returned (.int .i64 (greet2 k).1) ∧ Bk w' p 71 (tkC (greet2 k).2) ∧ But (fun q => q = p) w w' := by
  obtain ⟨h1, h2, s1, s2⟩ := k
  have c1 : w.cell? ⟨p, 1, none⟩ = some (.bool h1) := hK.cell 1
  have c4 : w.cell? ⟨p, 4, none⟩ = some (.bool s1) := hK.cell 4
  have c5 : w.cell? ⟨p, 5, none⟩ = some (.bool s2) := hK.cell 5
  have f5 := hK.frozen 5
  have hp := hK.lt
  have hG : Bk (w.setCell ⟨p, 5, none⟩ (.bool true)) p 71 (tkC ⟨h1, h2, s1, true⟩) := hK.set_ 5 _
  have hB : But (fun q => q = p) w (w.setCell ⟨p, 5, none⟩ (.bool true)) := (But.refl (fun q => q = p) w).set_ (.inl rfl) 5 none _
  have hB0 := But.refl (fun q => q = p) w
  cases s2 with
  | true =>
    go_enter Try.func17, Try.ntmps17
    go_wp2_with fail
    go_ret
    exact ⟨rfl, hK, hB0⟩
  | false =>
    cases s1 <;> cases h1 <;> (go_enter Try.func17, Try.ntmps17; go_wp2_with fail; go_ret; first | exact ⟨rfl, hK, hB0⟩ | exact ⟨rfl, hG, hB⟩)
def setT (M : BkM) (id : Int) (k : TkM) : BkM := { M with T := updT M.T id (some k) }
theorem tk_goes {w w' : World} {S : Nat → Prop} {g N : Nat} {M : BkM} {tv av : Value} {sz : Nat} {P : Int → Nat} (h : BkJ w S g M tv av sz P) (hN : sz ≤ N) {id : Int} {k k' : TkM} (hT : M.T id = some k) (hK : Bk w' (P id) 71 (tkC k')) (hB : But (fun q => q = P id) w w') : Goes S w g N (setT M id k') w' := by
  obtain ⟨hsp, hKp⟩ := h.tk id k hT
  have hgp : ¬ g = P id := fun e => by
    have := h.G
    rw [e] at this
    exact absurd (Bk.type_eq this hKp) (by decide)
  refine ⟨S, ⟨tv, av, sz, P, hN, hB.keep h.G hgp, h.sg, ?_, h.ma.but hB (fun q e e' => not_map hKp h.ma (by rw [e, e'])), h.st, h.sa, h.ne, h.nn, h.hA, h.nd, fun i q e => ?_, fun i j q q' e e' ep => ?_⟩, fun q hq => .inl hq, hB.mono (fun q _ e => by rw [e]; exact hsp)⟩
  · have hf : (fun i => ((setT M id k').T i).map fun _ => P i) = (fun i => (M.T i).map fun _ => P i) := by
      funext i
      unfold setT updT
      by_cases e : i = id
      · subst e
        rw [hT]
        simp
      · simp [e]
    show MapV tkE w' tv M.n (fun i => ((setT M id k').T i).map fun _ => P i)
    rw [hf]
    exact h.mt.but hB (fun q e e' => not_map hKp h.mt (by rw [e, e']))
  · change updT M.T id (some k') i = some q at e
    unfold updT at e
    by_cases ei : i = id
    · rw [if_pos ei] at e
      cases e
      rw [ei]
      exact ⟨hsp, hK⟩
    · rw [if_neg ei] at e
      refine ⟨(h.tk i q e).1, hB.keep (h.tk i q e).2 (fun ep => ei (h.tj i id q k e hT ep))⟩
  · change updT M.T id (some k') i = some q at e
    change updT M.T id (some k') j = some q' at e'
    have up : ∀ i q, updT M.T id (some k') i = some q → ∃ q0, M.T i = some q0 := fun i q e => by
      unfold updT at e
      by_cases ei : i = id
      · exact ⟨k, by rw [ei]; exact hT⟩
      · rw [if_neg ei] at e; exact ⟨q, e⟩
    obtain ⟨q0, e0⟩ := up i q e
    obtain ⟨q1, e1⟩ := up j q' e'
    exact h.tj i j q0 q1 e0 e1 ep
/-- What is heard. -/
def heardM (M : BkM) (id kd : Int) (x : I32) (L : List I32) : BkM :=
  match M.T id with
  | none => M
  | some k => if kd = 1 then setT M id ⟨true, k.h2, k.s1, k.s2⟩ else if kd = 2 then setT M id ⟨k.h1, k.h1, k.s1, k.s2⟩ else if kd = 7 then freeM M id x else if kd = 8 then L.foldl (fun M z => freeM M id z) M else M
theorem Goes.later {S : Nat → Prop} {w w1 w' : World} {g N : Nat} {M : BkM} (h : Goes S w1 g N M w') (hb : Below w.heap.size w w1) : Goes S w g N M w' := by
  obtain ⟨S', r1, r2, r3⟩ := h
  exact ⟨S', r1, fun k hk => (r2 k hk).elim .inl (fun h => .inr (Nat.le_trans hb.size h)), (But.of (S := S) hb).trans r3 (fun _ _ h => h)⟩
theorem Goes.next {S S' : Nat → Prop} {w W w' : World} {g N : Nat} {M : BkM} (h : Goes S' W g N M w') (hs : ∀ k, S' k → S k ∨ w.heap.size ≤ k) (hb : But S w W) : Goes S w g N M w' := by
  obtain ⟨S'', r1, r2, r3⟩ := h
  refine ⟨S'', r1, fun k hk => ?_, hb.trans r3 (fun i hi h => (hs i h).elim (fun h => h) (fun h => by omega))⟩
  rcases r2 k hk with h | h
  · exact hs k h
  · exact .inr (Nat.le_trans hb.size h)
set_option maxHeartbeats 8000000 in
theorem heard_any {w : World} {S : Nat → Prop} {g N : Nat} {M : BkM} (h : BkI w S g N M) (id : Int) (hid : InI id) (MS : Array Value) (kd : Int) (nv : Value) (x : I32) (L : List I32) (h0 : MS[0]? = some (.int .i64 kd)) (h3 : MS[3]? = some nv)
    (hL : kd = 8 → RowV idR w w.heap.size nv L ∧ (∀ k, slb nv k → ¬ S k) ∧ L.length ≤ 1000000) :
    Calls Try.prog 10 #[bkP g, .int .i64 id, .agg MS, idV x] w fun e w' => e = .returned (.tuple #[]) ∧ Goes S w g N (heardM M id kd x L) w' := by
  obtain ⟨w1, hw1⟩ : ∃ w1, w1 = (w.alloc (.cells MS 44)).alloc (.cells (idL x).toArray 36) := ⟨_, rfl⟩
  have hB : Below w.heap.size w w1 := by rw [hw1]; exact ((Below.refl _ _).alloc (Nat.le_refl _) _).alloc (by simp) _
  have hs1 : w1.heap.size = w.heap.size + 2 := by rw [hw1]; simp
  have hKM : Bk w1 w.heap.size 44 MS := by rw [hw1]; exact (Bk.new _ _ _).alloc _
  have hKI : Bk w1 (w.heap.size + 1) 36 (idL x).toArray := by
    rw [hw1]
    have := Bk.new (w.alloc (.cells MS 44)) 36 (idL x).toArray
    rw [show (w.alloc (.cells MS 44)).heap.size = w.heap.size + 1 by simp] at this
    exact this
  have hI := h.keep hB
  have hfr := free_any hI id x
  have HI := Lib.hid hI
  obtain ⟨tv, av, sz, P, h1, h⟩ := h
  have h2 := h.keep hB
  have c0 : w1.cell? ⟨g, 0, none⟩ = some tv := h2.G.cell 0
  have m0 : w1.cell? ⟨w.heap.size, 0, none⟩ = some (.int .i64 kd) := (hKM.cell 0).trans h0
  have m3 : w1.cell? ⟨w.heap.size, 3, none⟩ = some nv := (hKM.cell 3).trans h3
  have hl : (Instr.lookup 24 tv (.int .i64 id) true).run Try.prog w1 = _ := h2.mt.look tkE_ok (x := id) hid
  have hg := h.G.lt
  unfold bkP idV
  obtain ⟨XA, hXA⟩ : ∃ XA, XA = (idL x).toArray := ⟨_, rfl⟩
  have HXA := Lib.hid hXA
  rw [← hXA] at hw1 hKI ⊢
  have HIX := Lib.hid hKI
  have HB := Lib.hid hB
  cases hT : M.T id with
  | none =>
    rw [hT] at hl
    change _ = Result.ok (Value.tuple #[.pointer none, .bool false]) w1 at hl
    have hG : Hid (Goes S w g N (heardM M id kd x L) w1) := by
      unfold heardM
      rw [hT]
      exact Goes.stay ⟨tv, av, sz, P, h1, h⟩ hB
    clear h h2 hI hKM hKI hXA hT hfr hB hL
    go_enter Try.func10, Try.ntmps10
    go_upto_region 1 with fail
    rw [← hw1]
    clear hw1
    go_wp2_with (first | (at_lookup; refine wpList_lk rfl _ _ _ rfl rfl rfl hl ?_) | go_in)
    refine bodyPost_ret (results_none rfl _ _ _) rfl ?_
    exact ⟨rfl, hG.out⟩
  | some k =>
    rw [hT] at hl
    change _ = Result.ok (Value.tuple #[.pointer (some ⟨P id, 0, none⟩), .bool true]) w1 at hl
    obtain ⟨hsp, hKp⟩ := h2.tk id k hT
    have p1 : w1.cell? ⟨P id, 1, none⟩ = some (.bool k.h1) := hKp.cell 1
    have p2 : w1.cell? ⟨P id, 2, none⟩ = some (.bool k.h2) := hKp.cell 2
    have f1 := hKp.frozen 1
    have f2 := hKp.frozen 2
    have hpl := hKp.lt
    have G1 : Hid (kd = 1 → Goes S w g N (heardM M id kd x L) (w1.setCell ⟨P id, 1, none⟩ (.bool true))) := fun e => by
      have := tk_goes h2 h1 hT (k' := ⟨true, k.h2, k.s1, k.s2⟩) (hKp.set_ 1 (.bool true)) ((But.refl (fun q => q = P id) w1).set_ (.inl rfl) 1 none _)
      unfold heardM
      rw [hT]
      simp only [e, if_pos]
      exact this.later hB
    have G2 : Hid (kd = 2 → ∀ W, Below w1.heap.size w1 W → Goes S w g N (heardM M id kd x L) (W.setCell ⟨P id, 2, none⟩ (.bool k.h1))) := by
      show kd = 2 → ∀ W, _
      intro e W hb
      have := tk_goes (h2.keep hb) h1 hT (k' := ⟨k.h1, k.h1, k.s1, k.s2⟩) ((hKp.keep hb).set_ 2 (.bool k.h1)) ((But.refl (fun q => q = P id) W).set_ (.inl rfl) 2 none _)
      unfold heardM
      rw [hT, e]
      exact (this.later hb).later hB
    have G7 : Hid (kd = 7 → ∀ W, Goes S w1 g N (freeM M id x) W → Goes S w g N (heardM M id kd x L) W) := by
      show kd = 7 → ∀ W, _
      intro e W hG
      unfold heardM
      rw [hT, e]
      exact hG.later hB
    have G9 : Hid (kd ≠ 1 → kd ≠ 2 → kd ≠ 7 → kd ≠ 8 → Goes S w g N (heardM M id kd x L) w1) := fun e1 e2 e7 e8 => by
      unfold heardM
      rw [hT]
      simp only [e1, e2, e7, e8, if_false]
      exact Goes.stay ⟨tv, av, sz, P, h1, h⟩ hB
    have G8 : Hid (kd = 8 → heardM M id kd x L = L.foldl (fun M z => freeM M id z) M) := fun e => by
      unfold heardM
      rw [hT, e]
      rfl
    have HL := Lib.hid hL
    have HKp := Lib.hid hKp
    have HFR := Lib.hid hfr
    clear h h2 hI hKM hKI hXA hT hB hL hKp hfr
    by_cases e1 : kd = 1
    · have d1 : (kd == 1) = true := by simp [e1]
      have hG := Lib.hid (G1.out e1)
      clear G1 G2 G7 G8 G9 e1
      go_enter Try.func10, Try.ntmps10
      go_upto_region 1 with fail
      rw [← hw1]
      clear hw1
      go_wp2_with (first | (at_lookup; refine wpList_lk rfl _ _ _ rfl rfl rfl hl ?_) | go_in)
      go_end0
      exact ⟨rfl, hG.out⟩
    have d1 : (kd == 1) = false := by simp [e1]
    by_cases e2 : kd = 2
    · have d2 : (kd == 2) = true := by simp [e2]
      have hd : Below w1.heap.size w1 w1.drew := (Below.refl _ _).drew
      have hG := Lib.hid (G2.out e2 _ hd)
      have hc1 : w1.drew.cell? ⟨P id, 1, none⟩ = some (.bool k.h1) := (HKp.out.keep hd).cell 1
      have hf2 : w1.drew.frozen? ⟨P id, 2, none⟩ = false := (HKp.out.keep hd).frozen 2
      have hc2 : w1.drew.cell? ⟨P id, 2, none⟩ = some (.bool k.h2) := (HKp.out.keep hd).cell 2
      clear G1 G2 G7 G8 G9 e1 e2
      go_enter Try.func10, Try.ntmps10
      go_upto_region 1 with fail
      rw [← hw1]
      clear hw1
      go_upto_region 7 with (first | (at_lookup; refine wpList_lk rfl _ _ _ rfl rfl rfl hl ?_) | go_in)
      have s1 : (w1.drew.setCell ⟨P id, 2, none⟩ (.bool k.h1)).cell? ⟨P id, 1, none⟩ = some (.bool k.h1) := ((HKp.out.keep hd).set_ 2 (.bool k.h1)).cell 1
      go_region_held (fun W' => W'.cell? ⟨P id, 1, none⟩ = some (.bool k.h1)) (first | with_reducible assumption | exact hc1 | exact s1) (fail)
      go_wp2_with fail
      go_end0
      exact ⟨rfl, hG.out⟩
    have d2 : (kd == 2) = false := by simp [e2]
    by_cases e7 : kd = 7
    · have d7 : (kd == 7) = true := by simp [e7]
      have hrg := idb_range (x := x) (by have := HIX.out; rw [HXA.out] at this; exact this)
      have hps := id_size x
      have hs32 := idL_len x
      have hG := G7.out e7
      have hfr := HFR.out
      unfold idV bkP at hfr
      rw [← HXA.out] at hfr
      obtain ⟨PL, hPL⟩ : ∃ PL, PL = idL x := ⟨_, rfl⟩
      have hx2 : XA = PL.toArray := by rw [hPL, HXA.out]
      rw [← hPL] at hrg hps hs32
      subst hx2
      have HG := Lib.hid hG
      have hq : w.heap.size + 1 < w1.heap.size := by omega
      clear G1 G2 G7 G8 G9 e1 e2 e7 hG hPL
      go_enter Try.func10, Try.ntmps10
      go_upto_region 1 with fail
      rw [← hw1]
      clear hw1
      go_upto_region 9 with (first | (at_lookup; refine wpList_lk rfl _ _ _ rfl rfl rfl hl ?_) | go_in)
      go_wp2_with (refine wpList_load_mid rfl 36 (.tmp 7) rfl (w.heap.size + 1) 0 rfl PL _ hrg Try.underlying36 rfl hps ?_)
      refine hfr.mono ?_
      rintro e W ⟨rfl, hW⟩
      have hG := Lib.hid (HG.out W hW)
      clear hW hfr hrg
      go_wp2_with fail
      go_end0
      exact ⟨rfl, hG.out⟩
    have d7 : (kd == 7) = false := by simp [e7]
    by_cases e8 : kd = 8
    · have d8 : (kd == 8) = true := by simp [e8]
      rw [G8.out e8]
      obtain ⟨hrow0, hns, h63⟩ := HL.out e8
      obtain ⟨s0, c, rfl⟩ : ∃ s c, nv = .slice s L.length c := hrow0.slice
      have hrow := row_at hrow0
      obtain ⟨n, hn⟩ : ∃ n, n = L.length := ⟨_, rfl⟩
      have HN := Lib.hid hn
      rw [← hn] at hrow h63 m3
      have HLR : Hid (∀ k, k < n → ∃ x b o, L[k]? = some x ∧ s0 = some ⟨b, o, none⟩ ∧ b < w1.heap.size ∧ ¬ S b ∧ w1.rangeAt b (o + k * 32) (idL x)) := by
        show ∀ k, _
        intro k hk
        obtain ⟨x, b, o, e1, e2, e3, e4⟩ := hrow k hk
        exact ⟨x, b, o, e1, e2, by omega, hns b (by rw [e2]; exact slb_mk b o _ _), rr_below e4 HB.out e3⟩
      have H0 : Hid (Goes S w1 g N ((L.take 0).foldl (fun M z => freeM M id z) M) w1) := Goes.stay HI.out (Below.refl _ _)
      have HGB : Hid (g < w1.heap.size) := HI.out.lt
      clear G1 G2 G7 G8 G9 e1 e2 e7 e8 hrow0 hns hrow hn HL
      go_enter Try.func10, Try.ntmps10
      go_upto_region 1 with fail
      rw [← hw1]
      clear hw1
      go_upto_region 12 with (first | (at_lookup; refine wpList_lk rfl _ _ _ rfl rfl rfl hl ?_) | go_in)
      clear hl c0 m0 m3 p1 p2 f1 f2 d1 d2 d7 d8
      go_loopw [53] (fun i wr => ∃ k : Nat, k ≤ n ∧ i = .int .i64 k ∧ Hid (Goes S w1 g N ((L.take k).foldl (fun M z => freeM M id z) M) wr)) (fun i _ => n - (intOf i).toNat)
      case atStart => exact ⟨0, Nat.zero_le _, rfl, H0⟩
      case round =>
        obtain ⟨k, hk, rfl, HG⟩ := hrel
        clear H0
        by_cases hlt : k < n
        · obtain ⟨x, b, o, hkx, rfl, hbw, hbs, hrg⟩ := HLR.out k hlt
          have j1 : decide ((k : Int) < (n : Int)) = true := decide_eq_true (by omega)
          have hsz1 : w1.heap.size ≤ wr.heap.size := by obtain ⟨S', _, _, h⟩ := HG.out; exact h.size
          have hrg : wr.rangeAt b (o + k * 32) (idL x) := by
            obtain ⟨S', _, _, hB⟩ := HG.out
            exact fun j v hv => (hB.cell (p := ⟨b, o + k * 32 + j, none⟩) hbw hbs).trans (hrg j v hv)
          have hbr : b < wr.heap.size := Nat.lt_of_lt_of_le hbw hsz1
          have hTK : L.take (k + 1) = L.take k ++ [x] := by
            rw [List.take_add_one, hkx]
            rfl
          obtain ⟨hstc, K3, B3⟩ := id_made x wr
          obtain ⟨M', hM'⟩ : ∃ M', M' = (L.take k).foldl (fun M z => freeM M id z) M := ⟨_, rfl⟩
          have HMX : Hid (freeM M' id x = (L.take (k + 1)).foldl (fun M z => freeM M id z) M) := by
            show _ = _
            rw [hTK, List.foldl_append, ← hM']
            rfl
          rw [← hM'] at HG
          obtain ⟨S', gB, gS, gBut⟩ := HG.out
          have hg3 := gB.keep B3
          have HBT := Lib.hid (gBut.step B3)
          have hps := id_size x
          have hs32 := idL_len x
          obtain ⟨PL, hPL⟩ : ∃ PL, PL = idL x := ⟨_, rfl⟩
          have HPL := Lib.hid hPL
          have HGS := Lib.hid gS
          rw [← hPL] at hstc K3 B3 hps hs32 hrg hg3 HBT
          clear hPL hTK HG hkx hM' gB gS gBut
          go_upto_region 14 with (refine wpList_load_mid rfl 36 (.tmp 55) rfl b (o + k * 32) rfl PL _ hrg Try.underlying36 rfl hps ?_)
          refine wp_any (fun W => Bk W wr.heap.size 36 PL.toArray ∧ BkI W S' g N M' ∧ But S w1 W) ⟨K3, hg3, HBT.out⟩ ?_
          clear K3 hg3 HBT hstc B3 hrg hbr hsz1
          generalize wr.heap.size = k0 at *
          clear wr
          rintro W ⟨K, hM, hB⟩
          have hrg := fun h => idb_range (w := W) (g := k0) (t := 36) (x := x) h
          rw [← HPL.out] at hrg
          have hrg := hrg K
          have hcall := free_any hM id x
          unfold idV bkP at hcall
          rw [← HPL.out] at hcall
          have hkl := K.lt
          have HB := Lib.hid hB
          clear K hM hB
          go_wp2_with (refine wpList_load_mid rfl 36 (.tmp 11) rfl k0 0 rfl PL _ hrg Try.underlying36 rfl hps ?_)
          refine hcall.mono ?_
          rintro e W2 ⟨rfl, hW⟩
          have hG : Hid (Goes S w1 g N (freeM M' id x) W2) := hW.next HGS.out HB.out
          rw [HMX.out] at hG
          clear hW hcall hrg HMX HB HGS
          go_wp2_with fail
          go_roundw
          case rel => exact ⟨k + 1, by omega, by go_num, hG⟩
          case measure => simp [intOf]; omega
        · obtain rfl : k = n := by omega
          have j1 : decide ((k : Int) < (k : Int)) = false := decide_eq_false (by omega)
          have hG : Hid (Goes S w g N (L.foldl (fun M z => freeM M id z) M) wr) := by
            have h := HG.out
            rw [HN.out, List.take_length] at h
            exact h.later HB.out
          clear hlt HG
          go_wp2_with fail
          go_end0
          exact ⟨rfl, hG.out⟩
    have d8 : (kd == 8) = false := by simp [e8]
    have hG := Lib.hid (G9.out e1 e2 e7 e8)
    clear G1 G2 G7 G8 G9 e1 e2 e7 e8
    go_enter Try.func10, Try.ntmps10
    go_upto_region 1 with fail
    rw [← hw1]
    clear hw1
    go_wp2_with (first | (at_lookup; refine wpList_lk rfl _ _ _ rfl rfl rfl hl ?_) | go_in)
    go_end0
    exact ⟨rfl, hG.out⟩
end Go.Proofs.Ytcedljfdnbenoaa
