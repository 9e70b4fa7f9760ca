/- WholeManners: what holds between two steps. -/
import Derived.Test.YtkpffjcdalclmaaDoorZMapI
import Derived.Test.YtkpffjcdalclmaaDoorZBanE
import Derived.Test.YtkpffjcdalclmaaDoorZPfA
namespace Go.Proofs.YtkpffjcdalclmaaDoor
open Go.RowKit
set_option linter.unusedVariables false
set_option linter.unusedSimpArgs false
set_option maxRecDepth 100000
def mnS : ElT Int := ⟨81, 3, litI, fun a => .lit (.int .i64 a), fun a => .int .i64 a, 0⟩
def mnG : ElT Bool := ⟨80, 4, litB, fun a => .lit (.bool a), fun a => .bool a, false⟩
def mnP : ElT (Option Nat) := ⟨79, 26, litP, ptrE, ptrV, none⟩
theorem mnS_ok : mnS.Ok := ⟨Tryd.underlying81, fun w => by kernel_rfl, fun x => rfl, litI_inv, fun x y h => by injection h with h; injection h⟩
theorem mnG_ok : mnG.Ok := ⟨Tryd.underlying80, fun w => by kernel_rfl, fun x => rfl, litB_inv, fun x y h => by injection h with h; injection h⟩
theorem mnP_ok : mnP.Ok := ⟨Tryd.underlying79, fun w => by kernel_rfl, fun x => by cases x <;> rfl, litP_inv, ptrE_inj⟩
def mnM (sc : Int) (gr : Bool) : PeM := ⟨sc, 1, 0, false, [], 0, gr, gr, 0⟩
theorem mn_sc {sc : Int} (gr : Bool) (h : 0 ≤ sc ∧ sc ≤ 100) : ScOk (mnM sc gr) := h
theorem mn_fs (sc : Int) (gr : Bool) : FsOk ⟨(mnM sc gr).h, (mnM sc gr).e, []⟩ := pe0_fs 1 0
theorem hel_d20 : decE (kindL 1) (verD 2 0) = 0 ∧ (decKey 1 (verD 2 0)).2.1 = 2 ∧ decHt 1 (verD 2 0) = 0 := by decide +kernel
theorem mn_hello {sc : Int} (hs : sc ≠ 100) : hearM (mnM sc false) (helB 2 0) = (mnM sc true, [], [verK]) := by
  obtain ⟨hd, hk, hh⟩ := hel_d20
  have h1 : hear1 (mnM sc false) (kindL 1, verD 2 0) = (⟨sc, 1, 0, false, [], 0, true, false, 0⟩, [], [verK]) := by
    unfold hear1
    rw [if_neg (show ¬ (mnM sc false).sc = 100 from hs), if_neg (by show ¬ decE (kindL 1) (verD 2 0) = 90; rw [hd]; decide), if_neg (by show ¬ decE (kindL 1) (verD 2 0) ≠ 0; rw [hd]; decide), if_pos (.inl rfl)]
    show ((greetF (mnM sc false) ((kindN (kindL 1) : Nat) : Int) (decKey (kindN (kindL 1)) (verD 2 0)).2.1 (decHt (kindN (kindL 1)) (verD 2 0))).1, [], if (greetF (mnM sc false) ((kindN (kindL 1) : Nat) : Int) (decKey (kindN (kindL 1)) (verD 2 0)).2.1 (decHt (kindN (kindL 1)) (verD 2 0))).2 = true then [verK] else []) = _
    rw [show kindN (kindL 1) = 1 by decide, hk, hh]
    unfold greetF
    rw [if_pos ⟨rfl, rfl⟩, if_neg (by show ¬ (2 : Nat) = 1; decide)]
    rfl
  have h2 : hear1 ⟨sc, 1, 0, false, [], 0, true, false, 0⟩ (kindL 2, []) = (⟨sc, 1, 0, false, [], 0, true, true, 0⟩, [], []) := by
    unfold hear1
    rw [if_neg (show ¬ sc = 100 from hs), if_neg (by decide), if_neg (by decide), if_pos (.inl rfl)]
    show ((greetF _ ((kindN (kindL 2) : Nat) : Int) _ _).1, [], if (greetF _ ((kindN (kindL 2) : Nat) : Int) _ _).2 = true then [verK] else []) = _
    rw [show kindN (kindL 2) = 2 by decide]
    unfold greetF
    rw [if_neg (by simp), if_pos ⟨rfl, rfl, rfl⟩]
    rfl
  rw [hearM_of (mnM sc false) (helB 2 0) ⟨[], 0, [(kindL 1, verD 2 0), (kindL 2, [])]⟩ (hel_feed 2 0).symm]
  have e : hearF { mnM sc false with h := [], e := 0 } [(kindL 1, verD 2 0), (kindL 2, [])] = (mnM sc true, [], [verK]) := by
    rw [show ({ mnM sc false with h := [], e := 0 } : PeM) = mnM sc false from rfl, hearF_two, h1, h2]
    rfl
  rw [e]
  rfl
theorem mn_again {sc : Int} (hs : sc ≠ 100) : hearM (mnM sc true) (encL (kindL 2) []) = (mnM (blI sc 10) true, [], []) := by
  have h := hear_enc (mnM sc true) vk2.1 rfl rfl (fun _ => ⟨by decide, kind_ok (by decide) (by decide), fun b hb => by cases hb⟩)
  rw [show encB vk2.1 = encL (kindL 2) [] from rfl, if_pos (show msE vk2.1 = 0 from rfl)] at h
  rw [h]
  show hear1 (mnM sc true) (kindL 2, []) = _
  unfold hear1
  rw [if_neg (show ¬ (mnM sc true).sc = 100 from hs), if_neg (by decide), if_neg (by decide), if_pos (.inr (.inr (by decide)))]
  show ((greetF (mnM sc true) ((kindN (kindL 2) : Nat) : Int) _ _).1, [], if (greetF (mnM sc true) ((kindN (kindL 2) : Nat) : Int) _ _).2 = true then [verK] else []) = _
  rw [show kindN (kindL 2) = 2 by decide]
  unfold greetF
  rw [if_neg (by simp), if_neg (by simp [mnM])]
  rfl
theorem MapF.nbk {β : Type} {E : ElT β} {w : World} {b n : Nat} {f : Int → β} {t : TypeId} {cs : Array Value} (h : MapF E w b n f) (K : Bk w b t cs) : False := by
  obtain ⟨D, ⟨es, clock, h1, _⟩, _⟩ := h
  have e := h1.symm.trans K
  cases e
def upd {β : Type} (f : Int → β) (i : Int) (x : β) : Int → β := fun j => if j = i then x else f j
theorem upd_same {β : Type} (f : Int → β) (i : Int) (x : β) : upd f i x i = x := if_pos rfl
theorem upd_other {β : Type} (f : Int → β) {i j : Int} (x : β) (h : j ≠ i) : upd f i x j = f j := if_neg h
theorem upd_self {β : Type} (f : Int → β) (i : Int) : upd f i (f i) = f := by
  funext j
  unfold upd
  split
  · rename_i h; rw [h]
  · rfl
structure WmI (wr : World) (lo P G S T n : Nat) (un ex : Int) (f : Int → Option Nat) (gm : Int → Bool) (sm : Int → Int) (g : Int → Bool) (s : Int → Int) (vp : Int → Value) (vt : Value) (L : List BanM) : Prop where
  mp : MapF mnP wr P n f
  mg : MapF mnG wr G n gm
  ms : MapF mnS wr S n sm
  pe : ∀ i p, f i = some p → lo ≤ p ∧ PeK wr p (mnM (s i) (g i)) (vp i) ∧ Mine wr lo (vp i) []
  no : ∀ i, f i = none → s i = 0 ∧ g i = false ∧ vp i = .slice none 0 0
  rg : ∀ i p, f i = some p → 0 ≤ i ∧ i < 5
  sc : ∀ i, 0 ≤ s i ∧ s i ≤ 100
  inj : ∀ i j p, f i = some p → f j = some p → i = j
  ap : ∀ i j k, i ≠ j → slb (vp i) k → ¬ slb (vp j) k
  tb : Tab wr T vt lo L
  bl : ∀ x ∈ L, x.til = un ∧ s x.addr = 100
  bn : ∀ i, s i = 100 → i ≠ ex → ∃ x ∈ L, x.addr = i
  nd : (L.map (·.addr)).Nodup
  ne : P ≠ G ∧ P ≠ S ∧ G ≠ S
section
variable {wr w1 : World} {lo P G S T n : Nat} {un ex : Int} {f : Int → Option Nat} {gm g : Int → Bool} {sm s : Int → Int} {vp : Int → Value} {vt : Value} {L : List BanM}
theorem WmI.mono (I : WmI wr lo P G S T n un ex f gm sm g s vp vt L) {n2 : Nat} (h : n ≤ n2) : WmI wr lo P G S T n2 un ex f gm sm g s vp vt L :=
  ⟨by obtain ⟨D, h1, h2⟩ := I.mp; exact ⟨D, h1.mono h, h2⟩, by obtain ⟨D, h1, h2⟩ := I.mg; exact ⟨D, h1.mono h, h2⟩, by obtain ⟨D, h1, h2⟩ := I.ms; exact ⟨D, h1.mono h, h2⟩, I.pe, I.no, I.rg, I.sc, I.inj, I.ap, I.tb, I.bl, I.bn, I.nd, I.ne⟩
theorem WmI.vps (I : WmI wr lo P G S T n un ex f gm sm g s vp vt L) {i : Int} {k : Nat} (h : slb (vp i) k) : lo ≤ k ∧ k < wr.heap.size ∧ ∃ ys, Bk wr k 5 (idA ys) := by
  rcases hf : f i with _ | p
  · rw [(I.no i hf).2.2] at h
    exact absurd h (slb_none _ _ _)
  · exact (I.pe i p hf).2.2.slb_lo h
theorem WmI.keep (I : WmI wr lo P G S T n un ex f gm sm g s vp vt L) (hb : Below wr.heap.size wr w1) : WmI w1 lo P G S T n un ex f gm sm g s vp vt L :=
  ⟨I.mp.keep hb, I.mg.keep hb, I.ms.keep hb, fun i p h => ⟨(I.pe i p h).1, (I.pe i p h).2.1.keep hb, (I.pe i p h).2.2.keep hb⟩, I.no, I.rg, I.sc, I.inj, I.ap, I.tb.keep hb, I.bl, I.bn, I.nd, I.ne⟩
theorem WmI.peer (I : WmI wr lo P G S T n un ex f gm sm g s vp vt L) {p : Nat} (hf : f ex = some p) (hs : s ex ≠ 100) (s2 : Int) (g2 : Bool) (v2 : Value) (h2 : 0 ≤ s2 ∧ s2 ≤ 100) (hb : But (fun k => k = p ∨ slb (vp ex) k) wr w1)
    (hK : PeK w1 p (mnM s2 g2) v2) (hM : Mine w1 lo v2 []) (hv : ∀ k, slb v2 k → slb (vp ex) k ∨ wr.heap.size ≤ k) : WmI w1 lo P G S T n un ex f gm sm (upd g ex g2) (upd s ex s2) (upd vp ex v2) vt L := by
  have hp := (I.pe ex p hf).2.1
  have nm : ∀ {β : Type} {E : ElT β} {b : Nat} {q : Int → β}, MapF E wr b n q → ¬ (b = p ∨ slb (vp ex) b) := fun hm h => by
    rcases h with h | h
    · subst h; exact hm.nbk hp
    · obtain ⟨_, _, ys, K⟩ := I.vps h; exact hm.nbk K
  have nT : ¬ (T = p ∨ slb (vp ex) T) := fun h => by
    rcases h with h | h
    · subst h; exact absurd (Bk.type_eq I.tb.G hp) (by decide)
    · obtain ⟨_, _, ys, K⟩ := I.vps h; exact absurd (Bk.type_eq I.tb.G K) (by decide)
  have nt : ∀ k, slb vt k → ¬ (k = p ∨ slb (vp ex) k) := fun k hk h => by
    obtain ⟨_, _, ys, K0⟩ := I.tb.M.slb_lo hk
    rcases h with h | h
    · subst h; exact absurd (Bk.type_eq K0 hp) (by decide)
    · obtain ⟨_, _, ys, K⟩ := I.vps h; exact absurd (Bk.type_eq K0 K) (by decide)
  exact {
    mp := I.mp.but hb (nm I.mp)
    mg := I.mg.but hb (nm I.mg)
    ms := I.ms.but hb (nm I.ms)
    pe := fun i q h => by
      by_cases e : i = ex
      · subst e
        have e2 : q = p := by rw [hf] at h; injection h with h; exact h.symm
        subst e2
        rw [upd_same, upd_same, upd_same]
        exact ⟨(I.pe i q h).1, hK, hM⟩
      · rw [upd_other _ _ e, upd_other _ _ e, upd_other _ _ e]
        have h0 := I.pe i q h
        have nq : ¬ (q = p ∨ slb (vp ex) q) := fun h3 => by
          rcases h3 with h3 | h3
          · subst h3; exact e (I.inj i ex q h hf)
          · obtain ⟨_, _, ys, K⟩ := I.vps h3; exact absurd (Bk.type_eq h0.2.1 K) (by decide)
        refine ⟨h0.1, hb.keep h0.2.1 nq, h0.2.2.but hb (fun k hk h3 => ?_)⟩
        rcases h3 with h3 | h3
        · subst h3
          obtain ⟨_, _, ys, K⟩ := I.vps hk
          exact absurd (Bk.type_eq hp K) (by decide)
        · exact I.ap i ex k e hk h3
    no := fun i h => by
      by_cases e : i = ex
      · subst e; rw [hf] at h; cases h
      · rw [upd_other _ _ e, upd_other _ _ e, upd_other _ _ e]; exact I.no i h
    rg := I.rg
    sc := fun i => by
      by_cases e : i = ex
      · subst e; rw [upd_same]; exact h2
      · rw [upd_other _ _ e]; exact I.sc i
    inj := I.inj
    ap := fun i j k e h1 h3 => by
      by_cases e1 : i = ex
      · subst e1
        rw [upd_same] at h1
        rw [upd_other _ _ (Ne.symm e)] at h3
        rcases hv k h1 with h4 | h4
        · exact I.ap i j k e h4 h3
        · have := (I.vps h3).2.1; omega
      · rw [upd_other _ _ e1] at h1
        by_cases e2 : j = ex
        · subst e2
          rw [upd_same] at h3
          rcases hv k h3 with h4 | h4
          · exact I.ap i j k e h1 h4
          · have := (I.vps h1).2.1; omega
        · rw [upd_other _ _ e2] at h3
          exact I.ap i j k e h1 h3
    tb := ⟨hb.keep I.tb.G nT, I.tb.M.but_ hb nt⟩
    bl := fun x hx => by
      have h0 := I.bl x hx
      have e : x.addr ≠ ex := fun e => hs (by rw [← e]; exact h0.2)
      rw [upd_other _ _ e]
      exact h0
    bn := fun i h e => by
      rw [upd_other _ _ e] at h
      exact I.bn i h e
    nd := I.nd
    ne := I.ne }
theorem WmI.maps (I : WmI wr lo P G S T n un ex f gm sm g s vp vt L) {B : Nat} (hb : But (fun k => k = B) wr w1) (hB : B = G ∨ B = S) {gm2 : Int → Bool} {sm2 : Int → Int} (hP : MapF mnP w1 P (n + 1) f) (hG : MapF mnG w1 G (n + 1) gm2) (hS : MapF mnS w1 S (n + 1) sm2) :
    WmI w1 lo P G S T (n + 1) un ex f gm2 sm2 g s vp vt L := by
  have nb : ∀ {q : Nat} {t : TypeId} {cs : Array Value}, Bk wr q t cs → ¬ q = B := fun K e => by
    subst e
    rcases hB with h | h
    · subst h; exact I.mg.nbk K
    · subst h; exact I.ms.nbk K
  exact ⟨hP, hG, hS, fun i p h => ⟨(I.pe i p h).1, hb.keep (I.pe i p h).2.1 (nb (I.pe i p h).2.1), (I.pe i p h).2.2.but hb (fun k hk e => by obtain ⟨_, _, ys, K⟩ := I.vps hk; exact nb K e)⟩, I.no, I.rg, I.sc, I.inj, I.ap,
    ⟨hb.keep I.tb.G (nb I.tb.G), I.tb.M.but_ hb (fun k hk e => by obtain ⟨_, _, ys, K⟩ := I.tb.M.slb_lo hk; exact nb K e)⟩, I.bl, I.bn, I.nd, I.ne⟩
theorem WmI.putG (I : WmI wr lo P G S T n un ex f gm sm g s vp vt L) {i : Int} (hi : InI i) (b : Bool) (hn : n ≤ 1000) :
    ∃ w', (Instr.mapUpdate 80 (.map (some G)) (.int .i64 i) (.bool b)).run Tryd.prog wr = .ok () w' ∧ WmI w' lo P G S T (n + 1) un ex f (upd gm i b) sm g s vp vt L ∧ But (fun k => k = G) wr w' := by
  obtain ⟨w', hrun, h1, hb⟩ := I.mg.put mnG_ok hi b hn
  have m2 := I.mono (Nat.le_succ n)
  exact ⟨w', hrun, I.maps hb (.inl rfl) (m2.mp.but hb (fun e => I.ne.1 e)) h1 (m2.ms.but hb (fun e => I.ne.2.2 e.symm)), hb⟩
theorem WmI.putS (I : WmI wr lo P G S T n un ex f gm sm g s vp vt L) {i : Int} (hi : InI i) (b : Int) (hn : n ≤ 1000) :
    ∃ w', (Instr.mapUpdate 81 (.map (some S)) (.int .i64 i) (.int .i64 b)).run Tryd.prog wr = .ok () w' ∧ WmI w' lo P G S T (n + 1) un ex f gm (upd sm i b) g s vp vt L ∧ But (fun k => k = S) wr w' := by
  obtain ⟨w', hrun, h1, hb⟩ := I.ms.put mnS_ok hi b hn
  have m2 := I.mono (Nat.le_succ n)
  exact ⟨w', hrun, I.maps hb (.inr rfl) (m2.mp.but hb (fun e => I.ne.2.1 e)) (m2.mg.but hb (fun e => I.ne.2.2 e)) h1, hb⟩
theorem WmI.new (I : WmI wr lo P G S T n un ex f gm sm g s vp vt L) {i : Int} (hi : 0 ≤ i ∧ i < 5) (hf : f i = none) {p : Nat} (hb : Below wr.heap.size wr w1) (hp : wr.heap.size ≤ p) (hlo : lo ≤ wr.heap.size) (hK : PeK w1 p (pe0 1 0) (.slice none 0 0)) (hn : n ≤ 1000) :
    ∃ w', (Instr.mapUpdate 79 (.map (some P)) (.int .i64 i) (.pointer (some ⟨p, 0, none⟩))).run Tryd.prog w1 = .ok () w' ∧ WmI w' lo P G S T (n + 1) un ex (upd f i (some p)) gm sm g s vp vt L ∧ But (fun k => k = P) w1 w' := by
  have J := I.keep hb
  obtain ⟨w', hrun, h1, hb2⟩ := J.mp.put mnP_ok (i := i) (by unfold InI; omega) (some p) hn
  have m2 := J.mono (Nat.le_succ n)
  have nb : ∀ {q : Nat} {t : TypeId} {cs : Array Value}, Bk w1 q t cs → ¬ q = P := fun K e => by subst e; exact J.mp.nbk K
  have n0 := I.no i hf
  refine ⟨w', hrun, ?_, hb2⟩
  exact {
    mp := h1
    mg := m2.mg.but hb2 (fun e => I.ne.1 e.symm)
    ms := m2.ms.but hb2 (fun e => I.ne.2.1 e.symm)
    pe := fun j q h => by
      by_cases e : j = i
      · subst e
        rw [upd_same] at h
        injection h with h
        subst h
        rw [n0.1, n0.2.1, n0.2.2]
        exact ⟨Nat.le_trans hlo hp, hb2.keep (hK : PeK w1 p (mnM 0 false) (.slice none 0 0)) (nb hK), .inl ⟨rfl, rfl⟩⟩
      · rw [upd_other _ _ e] at h
        have h0 := J.pe j q h
        exact ⟨h0.1, hb2.keep h0.2.1 (nb h0.2.1), h0.2.2.but hb2 (fun k hk e => by obtain ⟨_, _, ys, K⟩ := J.vps hk; exact nb K e)⟩
    no := fun j h => by
      by_cases e : j = i
      · subst e; rw [upd_same] at h; cases h
      · rw [upd_other _ _ e] at h; exact I.no j h
    rg := fun j q h => by
      by_cases e : j = i
      · subst e; exact hi
      · rw [upd_other _ _ e] at h; exact I.rg j q h
    sc := I.sc
    inj := fun a b q h3 h4 => by
      by_cases ea : a = i
      · subst ea
        rw [upd_same] at h3
        injection h3 with h3
        by_cases eb : b = a
        · exact eb.symm
        · rw [upd_other _ _ eb] at h4
          have := (I.pe b q h4).2.1.lt
          omega
      · rw [upd_other _ _ ea] at h3
        by_cases eb : b = i
        · subst eb
          rw [upd_same] at h4
          injection h4 with h4
          have := (I.pe a q h3).2.1.lt
          omega
        · rw [upd_other _ _ eb] at h4
          exact I.inj a b q h3 h4
    ap := I.ap
    tb := ⟨hb2.keep J.tb.G (nb J.tb.G), J.tb.M.but_ hb2 (fun k hk e => by obtain ⟨_, _, ys, K⟩ := J.tb.M.slb_lo hk; exact nb K e)⟩
    bl := I.bl
    bn := I.bn
    nd := I.nd
    ne := I.ne }
theorem raise_same (a u : Int) : ∀ (L : List BanM), (∀ x ∈ L, x.til = u) → raise a u L = L := by
  intro L
  induction L with
  | nil => intro _; rfl
  | cons x r ih =>
    intro h
    unfold raise
    split
    · rw [h x List.mem_cons_self, Int.max_self]
      have e := h x List.mem_cons_self
      obtain ⟨xa, xt⟩ := x
      simp only at e
      rw [e]
    · rw [ih (fun y hy => h y (List.mem_cons_of_mem _ hy))]
theorem find_is {a : Int} {L : List BanM} : ((L.find? (isA a)).isSome = true ↔ ∃ x ∈ L, x.addr = a) := by
  rw [List.find?_isSome]
  unfold isA
  simp
theorem WmI.til_is (I : WmI wr lo P G S T n un ex f gm sm g s vp vt L) {i : Int} (hi : i ≠ ex) : til L i = if s i = 100 then (un, true) else (0, false) := by
  unfold til
  by_cases h : s i = 100
  · rw [if_pos h]
    have h1 := find_is.2 (I.bn i h hi)
    obtain ⟨x, hx⟩ := Option.isSome_iff_exists.1 h1
    rw [hx]
    simp only
    rw [(I.bl x (List.mem_of_find?_eq_some hx)).1]
  · rw [if_neg h]
    have h1 : L.find? (isA i) = none := by
      rw [List.find?_eq_none]
      intro x hx e
      unfold isA at e
      rw [beq_iff_eq] at e
      exact h (by rw [← e]; exact (I.bl x hx).2)
    rw [h1]
theorem WmI.range (I : WmI wr lo P G S T n un ex f gm sm g s vp vt L) {i : Int} (h : s i = 100) : 0 ≤ i ∧ i < 5 := by
  rcases hf : f i with _ | p
  · have := (I.no i hf).1; omega
  · exact I.rg i p hf
def cntL (l : List Int) (k : Nat) : Nat := (l.filter fun i => decide (0 ≤ i ∧ i < (k : Int))).length
theorem cntL_succ (k : Nat) : ∀ l : List Int, l.Nodup → cntL l (k + 1) = cntL l k + (if (k : Int) ∈ l then 1 else 0) := by
  intro l
  induction l with
  | nil => intro _; rfl
  | cons a r ih =>
    intro h
    obtain ⟨h1, h2⟩ := List.nodup_cons.1 h
    have e := ih h2
    unfold cntL at e ⊢
    by_cases ha : a = (k : Int)
    · subst ha
      rw [if_neg h1] at e
      rw [List.filter_cons_of_pos (by simp; omega), List.filter_cons_of_neg (by simp), List.length_cons, e, if_pos List.mem_cons_self]
    · have hm : ((k : Int) ∈ a :: r) ↔ (k : Int) ∈ r := by
        rw [List.mem_cons]
        exact ⟨fun h => h.resolve_left (fun e => ha e.symm), .inr⟩
      by_cases h0 : 0 ≤ a ∧ a < (k : Int)
      · rw [List.filter_cons_of_pos (by simp; omega), List.filter_cons_of_pos (by simp; omega), List.length_cons, List.length_cons, e]
        simp only [hm]
        omega
      · rw [List.filter_cons_of_neg (by simp; omega), List.filter_cons_of_neg (by simp; omega), e]
        simp only [hm]
theorem cntL_le (l : List Int) (h : l.Nodup) : ∀ k, cntL l k ≤ k := by
  intro k
  induction k with
  | zero =>
    have e : cntL l 0 = 0 := by
      unfold cntL
      rw [List.filter_eq_nil_iff.2 (fun i _ => by simp)]
      rfl
    omega
  | succ k ih =>
    rw [cntL_succ k l h]
    split <;> omega
theorem cntL_all (l : List Int) (k : Nat) (h : ∀ i ∈ l, 0 ≤ i ∧ i < (k : Int)) : cntL l k = l.length := by
  unfold cntL
  rw [List.filter_eq_self.2 (fun i hi => by simpa using h i hi)]
theorem nodup_len {l : List Int} (h : l.Nodup) (hr : ∀ i ∈ l, 0 ≤ i ∧ i < 5) : l.length ≤ 5 := by
  rw [← cntL_all l 5 hr]
  exact cntL_le l h 5
theorem WmI.len (I : WmI wr lo P G S T n un ex f gm sm g s vp vt L) : L.length ≤ 5 := by
  have h := nodup_len I.nd (fun i hi => by
    obtain ⟨x, hx, rfl⟩ := List.mem_map.1 hi
    exact I.range (I.bl x hx).2)
  rwa [List.length_map] at h
theorem WmI.ban (I : WmI wr lo P G S T n un ex f gm sm g s vp vt L) (h100 : s ex = 100) {e : Ending} (h : Turned T vt lo (banF L ex un) wr e w1) :
    ∃ vt2 L2, WmI w1 lo P G S T n un (-1) f gm sm g s vp vt2 L2 ∧ But (fun k => k = T ∨ slb vt k) wr w1 := by
  obtain ⟨vt2, hT, hb, hv⟩ := h.ex
  have nm : ∀ {β : Type} {E : ElT β} {b : Nat} {q : Int → β}, MapF E wr b n q → ¬ (b = T ∨ slb vt b) := fun hm h => by
    rcases h with h | h
    · subst h; exact hm.nbk I.tb.G
    · obtain ⟨_, _, ys, K⟩ := I.tb.M.slb_lo h; exact hm.nbk K
  have hbl : ∀ x ∈ banF L ex un, x.til = un ∧ s x.addr = 100 := fun x hx => by
    unfold banF at hx
    split at hx
    · rw [raise_same ex un L (fun y hy => (I.bl y hy).1)] at hx
      exact I.bl x hx
    · rw [if_pos (by have := I.len; omega)] at hx
      rcases List.mem_append.1 hx with h | h
      · exact I.bl x h
      · rw [List.mem_singleton.1 h]; exact ⟨rfl, h100⟩
  have hsub : ∀ x ∈ L, x ∈ banF L ex un := fun x hx => by
    unfold banF
    split
    · rw [raise_same ex un L (fun y hy => (I.bl y hy).1)]; exact hx
    · rw [if_pos (by have := I.len; omega)]; exact List.mem_append_left _ hx
  have hex : ∃ x ∈ banF L ex un, x.addr = ex := by
    unfold banF
    split
    · rename_i h1
      rw [raise_same ex un L (fun y hy => (I.bl y hy).1)]
      exact find_is.1 h1
    · rw [if_pos (by have := I.len; omega)]
      exact ⟨⟨ex, un⟩, List.mem_append_right _ (List.mem_singleton.2 rfl), rfl⟩
  have hnd : ((banF L ex un).map (·.addr)).Nodup := by
    unfold banF
    split
    · rw [raise_same ex un L (fun y hy => (I.bl y hy).1)]; exact I.nd
    · rename_i h1
      rw [if_pos (by have := I.len; omega), List.map_append, List.nodup_append]
      refine ⟨I.nd, by simp, fun a ha b hb => ?_⟩
      have hb2 : b = ex := by simpa using hb
      rintro rfl
      obtain ⟨x, hx, e⟩ := List.mem_map.1 ha
      exact h1 (find_is.2 ⟨x, hx, by rw [e, hb2]⟩)
  refine ⟨vt2, banF L ex un, ?_, hb⟩
  have np : ∀ {q : Nat} {cs : Array Value}, Bk wr q 65 cs → ¬ (q = T ∨ slb vt q) := fun K h => by
    rcases h with h | h
    · subst h; exact absurd (Bk.type_eq I.tb.G K) (by decide)
    · obtain ⟨_, _, ys, K2⟩ := I.tb.M.slb_lo h; exact absurd (Bk.type_eq K2 K) (by decide)
  have nu : ∀ {q : Nat} {cs : Array Value}, Bk wr q 5 cs → ¬ (q = T ∨ slb vt q) := fun K h => by
    rcases h with h | h
    · subst h; exact absurd (Bk.type_eq I.tb.G K) (by decide)
    · obtain ⟨_, _, ys, K2⟩ := I.tb.M.slb_lo h; exact absurd (Bk.type_eq K2 K) (by decide)
  exact {
    mp := I.mp.but hb (nm I.mp)
    mg := I.mg.but hb (nm I.mg)
    ms := I.ms.but hb (nm I.ms)
    pe := fun i p h => ⟨(I.pe i p h).1, hb.keep (I.pe i p h).2.1 (np (I.pe i p h).2.1), (I.pe i p h).2.2.but hb (fun k hk => by obtain ⟨_, _, ys, K⟩ := I.vps hk; exact nu K)⟩
    no := I.no
    rg := I.rg
    sc := I.sc
    inj := I.inj
    ap := I.ap
    tb := hT
    bl := hbl
    bn := fun i h _ => by
      by_cases e : i = ex
      · subst e; exact hex
      · obtain ⟨x, hx, e2⟩ := I.bn i h e
        exact ⟨x, hsub x hx, e2⟩
    nd := hnd
    ne := I.ne }
theorem WmI.calm (I : WmI wr lo P G S T n un ex f gm sm g s vp vt L) (h : s ex ≠ 100) : WmI wr lo P G S T n un (-1) f gm sm g s vp vt L :=
  ⟨I.mp, I.mg, I.ms, I.pe, I.no, I.rg, I.sc, I.inj, I.ap, I.tb, I.bl, fun i h1 _ => I.bn i h1 (fun e => h (by rw [← e]; exact h1)), I.nd, I.ne⟩
theorem WmI.at_ (I : WmI wr lo P G S T n un (-1) f gm sm g s vp vt L) (i : Int) : WmI wr lo P G S T n un i f gm sm g s vp vt L :=
  ⟨I.mp, I.mg, I.ms, I.pe, I.no, I.rg, I.sc, I.inj, I.ap, I.tb, I.bl, fun j h1 _ => I.bn j h1 (fun e => by have := I.range h1; omega), I.nd, I.ne⟩
def bads (s : Int → Int) (k : Nat) : Nat := ((List.range k).filter fun (i : Nat) => decide (s (i : Int) = 100)).length
theorem bads_succ (s : Int → Int) (k : Nat) : bads s (k + 1) = bads s k + (if s (k : Int) = 100 then 1 else 0) := by
  unfold bads
  rw [List.range_succ, List.filter_append, List.length_append]
  congr 1
  by_cases h : s (k : Int) = 100
  · simp [h]
  · simp [h]
theorem cnt_bads {l : List Int} {s : Int → Int} (h : l.Nodup) (hm : ∀ i : Nat, (i : Int) ∈ l ↔ s (i : Int) = 100) : ∀ k, cntL l k = bads s k := by
  intro k
  induction k with
  | zero =>
    unfold cntL
    rw [List.filter_eq_nil_iff.2 (fun i _ => by simp)]
    rfl
  | succ k ih =>
    rw [cntL_succ k l h, bads_succ, ih]
    simp only [hm k]
theorem WmI.count (I : WmI wr lo P G S T n un (-1) f gm sm g s vp vt L) : L.length = bads s 5 := by
  have hm : ∀ i : Nat, (i : Int) ∈ L.map (·.addr) ↔ s (i : Int) = 100 := fun i => by
    constructor
    · intro h
      obtain ⟨x, hx, e⟩ := List.mem_map.1 h
      rw [← e]
      exact (I.bl x hx).2
    · intro h
      obtain ⟨x, hx, e⟩ := I.bn (i : Int) h (by omega)
      exact List.mem_map.2 ⟨x, hx, e⟩
  rw [← cnt_bads I.nd hm 5, cntL_all _ 5 (fun i hi => by
    obtain ⟨x, hx, rfl⟩ := List.mem_map.1 hi
    exact I.range (I.bl x hx).2), List.length_map]
theorem WmI.swept (I : WmI wr lo P G S T n un ex f gm sm g s vp vt L) : L.filter (fun x => !decide (x.til ≤ un)) = [] := by
  rw [List.filter_eq_nil_iff]
  intro x hx
  rw [(I.bl x hx).1]
  simp
end
end Go.Proofs.YtkpffjcdalclmaaDoor
