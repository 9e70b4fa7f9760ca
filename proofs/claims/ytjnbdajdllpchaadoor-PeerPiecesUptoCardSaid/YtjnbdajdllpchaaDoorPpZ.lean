/-
  Texts in one: PcA, PpA, PpR, Alk.
-/
import Derived.Test.YtjnbdajdllpchaaDoorHrA
import Derived.Test.YtjnbdajdllpchaaDoorPsZ
import Derived.Test.YtjnbdajdllpchaaDoorPcI
import Derived.Test.YtjnbdajdllpchaaDoorFrN
import Derived.Test.YtjnbdajdllpchaaDoorPeZ
namespace Go.Proofs.YtjnbdajdllpchaaDoor
open Go.RowKit
set_option linter.unusedVariables false
set_option linter.unusedSimpArgs false
set_option maxRecDepth 100000
def PeM.at_ (m : PeM) (h : List Nat) (e : Nat) : PeM := { m with h := h, e := e }
def PeM.worst (m : PeM) : PeM := { m with sc := blI m.sc 100 }
theorem at_at (m : PeM) (h h2 : List Nat) (e e2 : Nat) : (m.at_ h e).at_ h2 e2 = m.at_ h2 e2 := rfl
theorem greetF_at (m : PeM) (h : List Nat) (e : Nat) (k : Int) (n t : Nat) : greetF (m.at_ h e) k n t = ((greetF m k n t).1.at_ h e, (greetF m k n t).2) := by
  unfold greetF
  by_cases h1 : k = 1 ∧ m.kn = false
  · rw [if_pos (show k = 1 ∧ (m.at_ h e).kn = false from h1), if_pos h1]
    by_cases h2 : n = m.nc
    · rw [if_pos (show n = (m.at_ h e).nc from h2), if_pos h2]
      rfl
    · rw [if_neg (show ¬ n = (m.at_ h e).nc from h2), if_neg h2]
      rfl
  · rw [if_neg (show ¬ (k = 1 ∧ (m.at_ h e).kn = false) from h1), if_neg h1]
    by_cases h2 : k = 2 ∧ m.kn = true ∧ m.rd = false
    · rw [if_pos (show k = 2 ∧ (m.at_ h e).kn = true ∧ (m.at_ h e).rd = false from h2), if_pos h2]
      rfl
    · rw [if_neg (show ¬ (k = 2 ∧ (m.at_ h e).kn = true ∧ (m.at_ h e).rd = false) from h2), if_neg h2]
      rfl
theorem ansF_at (m : PeM) (h : List Nat) (e : Nat) (n : Nat) : ansF (m.at_ h e) n = (ansF m n).at_ h e := by
  unfold ansF
  by_cases hh : ((n : Int) == curI m) = true
  · rw [if_pos (show ((n : Int) == curI (m.at_ h e)) = true from hh), if_pos hh]
    rfl
  · rw [if_neg (show ¬ ((n : Int) == curI (m.at_ h e)) = true from hh), if_neg hh]
theorem hear1_at (m : PeM) (h : List Nat) (e : Nat) (f : List Nat × List Nat) : hear1 (m.at_ h e) f = ((hear1 m f).1.at_ h e, (hear1 m f).2.1, (hear1 m f).2.2) := by
  unfold hear1
  by_cases h1 : m.sc = 100
  · rw [if_pos (show (m.at_ h e).sc = 100 from h1), if_pos h1]
  rw [if_neg (show ¬ (m.at_ h e).sc = 100 from h1), if_neg h1]
  by_cases h2 : decE f.1 f.2 = 90
  · rw [if_pos h2, if_pos h2]
  rw [if_neg h2, if_neg h2]
  by_cases h3 : decE f.1 f.2 ≠ 0
  · rw [if_pos h3, if_pos h3]
    rfl
  rw [if_neg h3, if_neg h3]
  by_cases h4 : m.rd = false ∨ kindN f.1 = 1 ∨ kindN f.1 = 2
  · rw [if_pos (show (m.at_ h e).rd = false ∨ kindN f.1 = 1 ∨ kindN f.1 = 2 from h4), if_pos h4]
    simp only [greetF_at]
  rw [if_neg (show ¬ ((m.at_ h e).rd = false ∨ kindN f.1 = 1 ∨ kindN f.1 = 2) from h4), if_neg h4]
  by_cases h5 : kindN f.1 = 9
  · rw [if_pos h5, if_pos h5]
  rw [if_neg h5, if_neg h5]
  by_cases h6 : kindN f.1 = 10
  · rw [if_pos h6, if_pos h6]
    simp only [ansF_at]
  rw [if_neg h6, if_neg h6]
theorem hearF_at (l : List (List Nat × List Nat)) (h : List Nat) (e : Nat) : ∀ m : PeM, hearF (m.at_ h e) l = ((hearF m l).1.at_ h e, (hearF m l).2.1, (hearF m l).2.2) := by
  induction l with
  | nil => intro m; rfl
  | cons f l ih => intro m; simp only [hearF, hear1_at, ih]
theorem hearM_as (m : PeM) (B : List Nat) (s : FS) (hs : s = feedL ⟨m.h, m.e, []⟩ B) : hearM m B = (if s.e ≠ 0 then ((hearF m s.out).1.at_ s.h s.e).worst else (hearF m s.out).1.at_ s.h s.e, (hearF m s.out).2.1, (hearF m s.out).2.2) := by
  rw [hearM_of m B s hs]
  have h := hearF_at s.out s.h s.e m
  unfold PeM.at_ at h
  rw [h]
  rfl
theorem bl_100 {s : Int} (h : 0 ≤ s ∧ s ≤ 100) : blI s 100 = 100 := by unfold blI; omega
/-- In pieces. -/
theorem hearM_app {m : PeM} (hs : ScOk m) (a b : List Nat) : hearM m (a ++ b) = ((hearM (hearM m a).1 b).1, (hearM m a).2.1 ++ (hearM (hearM m a).1 b).2.1, (hearM m a).2.2 ++ (hearM (hearM m a).1 b).2.2) := by
  obtain ⟨s1, h1⟩ : ∃ s, s = feedL ⟨m.h, m.e, []⟩ a := ⟨_, rfl⟩
  obtain ⟨s, h0⟩ : ∃ s, s = feedL ⟨m.h, m.e, []⟩ (a ++ b) := ⟨_, rfl⟩
  have hc := hearF_sc s1.out hs
  rw [hearM_as m (a ++ b) s h0, hearM_as m a s1 h1]
  rw [feedL_app, ← h1] at h0
  by_cases he : s1.e ≠ 0
  · rw [feedL_bad s1 he] at h0
    subst h0
    rw [if_pos he]
    obtain ⟨F, hF⟩ : ∃ F, F = hearF m s.out := ⟨_, rfl⟩
    rw [← hF] at hc ⊢
    have h2 : (⟨s.h, s.e, []⟩ : FS) = feedL ⟨s.h, s.e, []⟩ b := (feedL_bad ⟨s.h, s.e, []⟩ he b).symm
    have h3 := hearM_as (F.1.at_ s.h s.e).worst b ⟨s.h, s.e, []⟩ h2
    rw [if_pos he] at h3
    rw [h3]
    have h4 : blI (blI F.1.sc 100) 100 = blI F.1.sc 100 := by
      rw [bl_100 hc.1]
      exact bl_100 (by omega)
    simp only [hearF, List.append_nil]
    have h5 : (((F.1.at_ s.h s.e).worst).at_ s.h s.e).worst = (F.1.at_ s.h s.e).worst := by
      unfold PeM.worst PeM.at_
      simp only [h4]
    rw [h5]
  · rw [if_neg he]
    obtain ⟨s2, h2⟩ : ∃ s, s = feedL ⟨s1.h, s1.e, []⟩ b := ⟨_, rfl⟩
    have ho := feedL_out b s1.h s1.e s1.out
    rw [← h2, show (⟨s1.h, s1.e, s1.out⟩ : FS) = s1 from rfl, ← h0] at ho
    rw [ho]
    have h3 := hearM_as ((hearF m s1.out).1.at_ s1.h s1.e) b s2 h2
    rw [h3]
    simp only [hearF_app, hearF_at, at_at]
end Go.Proofs.YtjnbdajdllpchaaDoor
namespace Go.Proofs.YtjnbdajdllpchaaDoor
open Go.ChangeShapes Go.WideShapes Go.ChangeAt Go.RowKit
set_option linter.unusedVariables false
set_option linter.unusedSimpArgs false
set_option maxRecDepth 100000
/-- A part of a slice of bytes. -/
theorem mid_slice {w : World} {B0 m cb : Nat} {sb : Option Addr} {B : List Nat} (h : BsV w B0 (.slice sb m cb) B) (k q : Nat) (hk : k + q ≤ B.length) :
    ∃ s2 c2, (∀ W, (Instr.slice 32 (.slice sb m cb) (some (.int .i64 (k : Int))) (some (.int .i64 ((k : Int) + (q : Int)))) none).run Tryd.prog W = .ok (.slice s2 q c2) W) ∧ BsV w B0 (.slice s2 q c2) ((B.drop k).take q) := by
  have hcp : m = B.length ∧ m ≤ cb ∧ cb < 9223372036854775808 := by
    obtain ⟨s, cap, e, h1, h2, h3, h4⟩ := h
    cases e
    exact ⟨rfl, h1, h2⟩
  have hlen : ((B.drop k).take q).length = q := by rw [List.length_take, List.length_drop]; omega
  have h1 : (0 : Int) ≤ (k : Int) := by omega
  have h2 : (k : Int) ≤ (k : Int) + (q : Int) := by omega
  have h3 : (k : Int) + (q : Int) ≤ (cb : Int) := by omega
  have h5 : ((k : Int) + (q : Int)).toNat = k + q := by omega
  have h6 : (0 : Int) ≤ (k : Int) + (q : Int) := by omega
  have h7 : k + q - k = q := by omega
  cases sb with
  | none =>
    have hm : m = 0 := by
      obtain ⟨s, cap, e, g1, g2, g3, g4⟩ := h
      cases e
      rcases Nat.eq_zero_or_pos B.length with hz | hz
      · exact hz
      · obtain ⟨b, o, e1, _⟩ := g4 (by rintro rfl; cases hz)
        cases e1
    have hk0 : k = 0 := by omega
    have hq0 : q = 0 := by omega
    subst hk0 hq0
    refine ⟨none, cb, fun W => ?_, ⟨none, cb, rfl, Nat.zero_le _, hcp.2.2, by simp, fun h => absurd rfl h⟩⟩
    by_cases hc : cb = 0
    · subst hc
      go_simp
    · go_simp
  | some a =>
    by_cases hne : B = []
    · subst hne
      have hk0 : k = 0 := by simp at hk; omega
      have hq0 : q = 0 := by simp at hk; omega
      have hm : m = 0 := hcp.1
      subst hk0 hq0 hm
      refine ⟨some a, cb, fun W => ?_, ⟨some a, cb, rfl, Nat.zero_le _, hcp.2.2, by simp, fun h => absurd rfl h⟩⟩
      clear h h1 h2 h3 h5 h6 h7 hlen hk hcp
      by_cases hc : cb = 0
      · subst hc
        go_simp
      · go_simp
    · obtain ⟨b, o, rfl⟩ : ∃ b o, a = ⟨b, o, none⟩ := by
        obtain ⟨s, cap, e, g1, g2, g3, g4⟩ := h
        obtain ⟨b, o, e1, _⟩ := g4 hne
        cases e
        cases e1
        exact ⟨_, _, rfl⟩
      have hp := bsv_part k q h hk
      rw [Go.WideShapes.add_plain] at hp
      by_cases hc : cb = k
      · have hq0 : q = 0 := by omega
        subst hq0
        subst hc
        refine ⟨some ⟨b, o, none⟩, 0, fun W => ?_, ⟨_, _, rfl, Nat.zero_le _, by omega, by simp, fun h => absurd rfl h⟩⟩
        go_simp
      · refine ⟨some ⟨b, o + k, none⟩, cb - k, fun W => ?_, hp⟩
        go_simp

def bytesD (l : List DeM) : List Nat := (l.map fun d => allB d.list ++ d.data).flatten
theorem bytesD_take (l : List DeM) (k : Nat) (x : DeM) (h : l[k]? = some x) : bytesD (l.take (k + 1)) = (bytesD (l.take k) ++ allB x.list) ++ x.data := by
  unfold bytesD
  rw [List.take_add_one, h, List.map_append, List.flatten_append]
  simp
theorem bytesD_len (l : List DeM) (h : ∀ d ∈ l, d.list.length ≤ 6 ∧ d.data.length ≤ 2000) : (bytesD l).length ≤ 51296 * l.length := by
  induction l with
  | nil => exact Nat.le_refl _
  | cons d r ih =>
    show ((allB d.list ++ d.data) ++ bytesD r).length ≤ _
    have h1 := ih (fun x hx => h x (List.mem_cons_of_mem _ hx))
    have h2 := h d List.mem_cons_self
    have h3 := allB_len d.list
    rw [List.length_append, List.length_append, List.length_cons]
    omega
theorem bytesD_lt {w : World} {B : Nat} {L : List DeM} (h : ∀ d ∈ L, DeV w B d) : ∀ x ∈ bytesD L, x < 256 := by
  intro x hx
  unfold bytesD at hx
  simp only [List.mem_flatten, List.mem_map] at hx
  obtain ⟨_, ⟨d, hd, rfl⟩, hx⟩ := hx
  rcases List.mem_append.1 hx with h1 | h1
  · exact allB_lt (h d hd).2.2.2.1 x h1
  · obtain ⟨_, _, _, _, _, h5, _⟩ := (h d hd).2.2.2.2
    exact h5 x h1
theorem hearM_len (m : PeM) (B : List Nat) : (hearM m B).2.1.length + (hearM m B).2.2.length ≤ B.length := by
  have h1 := hearF_len (feedL ⟨m.h, m.e, []⟩ B).out { m with h := (feedL ⟨m.h, m.e, []⟩ B).h, e := (feedL ⟨m.h, m.e, []⟩ B).e }
  have h2 := feedL_outlen B ⟨m.h, m.e, []⟩
  have e : ([] : List (List Nat × List Nat)).length = 0 := rfl
  simp only [e] at h2
  unfold hearM
  simp only
  omega
theorem keysM_len (L : List MsI) : (keysM L).length = L.length := by unfold keysM; rw [List.length_map]
theorem take_take_drop (X : List Nat) (a j : Nat) : X.take (a + j) = X.take a ++ (X.drop a).take j := by rw [List.take_add]
/-- What holds between the rounds of PeerPieces. -/
structure PpI (w2 wr : World) (q lo : Nat) (X : List Nat) (a : Nat) (mv ov vq : Value) (mq : PeM) (M O : List MsI) : Prop where
  k : PeK wr q mq vq
  m : Mine wr lo vq mq.h
  own : ∀ k, slb vq k → w2.heap.size ≤ k
  sc : ScOk mq
  fs : FsOk ⟨mq.h, mq.e, []⟩
  e : hearM (pe0 3 0) (X.take a) = (mq, keysM M, keysM O)
  r1 : MineR msR wr w2.heap.size mv M
  r2 : MineR msR wr w2.heap.size ov O
  ap : ∀ k, slb mv k → ¬ slb ov k
  b : But (fun k => k = q) w2 wr
theorem PpI.next {w2 wr w5 : World} {q lo a j : Nat} {X : List Nat} {mv ov vq u : Value} {mq : PeM} {M O : List MsI} (I : PpI w2 wr q lo X a mv ov vq mq M O) (hq : q < w2.heap.size) (hX : X.length ≤ 1400000) (hXb : ∀ x ∈ X, x < 256)
    (h : HearP wr w5 q lo vq mq ((X.drop a).take j) (.returned u)) :
    ∃ (x y : Value) (W6 W7 : World) (v6 v7 vq5 : Value) (mq5 : PeM) (M5 O5 : List MsI), u = .tuple #[x, y] ∧ (Builtin.append_ #[27, 27] 27 #[mv, x]).run Tryd.prog w5 = .ok v6 W6 ∧
      (Builtin.append_ #[27, 27] 27 #[ov, y]).run Tryd.prog W6 = .ok v7 W7 ∧ PpI w2 W7 q lo X (a + j) v6 v7 vq5 mq5 M5 O5 := by
  obtain ⟨vq5, x, y, S, A, hu, hK, hM, hS, hA, hkS, hkA, hbt, hsl⟩ := h
  injection hu with hu
  have hs0 : ScOk (pe0 3 0) := pe0_sc 3 0
  have he := hearM_app hs0 (X.take a) ((X.drop a).take j)
  rw [I.e] at he
  rw [← take_take_drop] at he
  have hlen := hearM_len (pe0 3 0) (X.take (a + j))
  have hXl : (X.take (a + j)).length ≤ 1400000 := by rw [List.length_take]; omega
  have hsc5 := hearM_sc ((X.drop a).take j) I.sc
  have hh5 := hearM_h mq ((X.drop a).take j)
  have hfs5 := feedL_fs ((X.drop a).take j) I.fs (fun x hx => hXb x (List.mem_of_mem_drop (List.mem_of_mem_take hx)))
  obtain ⟨H, hH⟩ : ∃ H, H = hearM mq ((X.drop a).take j) := ⟨_, rfl⟩
  rw [← hH] at hK hM hkS hkA he hsc5 hh5
  simp only at he
  rw [← hkS, ← hkA, ← keysM_app, ← keysM_app] at he
  rw [he] at hlen
  simp only [keysM_len, List.length_append] at hlen
  have hsz := hbt.size
  have hb2 := I.b.size
  have n1 : ∀ k, slb mv k → ¬ (k = q ∨ slb vq k) := fun k hk h => by
    have h1 := I.r1.slb_lo hk
    rcases h with h | h
    · omega
    · obtain ⟨_, _, ys, K1⟩ := I.m.slb_lo h
      obtain ⟨zs, K2⟩ := h1.2.2
      exact absurd (K1.type_eq K2) (by decide)
  have n2 : ∀ k, slb ov k → ¬ (k = q ∨ slb vq k) := fun k hk h => by
    have h1 := I.r2.slb_lo hk
    rcases h with h | h
    · omega
    · obtain ⟨_, _, ys, K1⟩ := I.m.slb_lo h
      obtain ⟨zs, K2⟩ := h1.2.2
      exact absurd (K1.type_eq K2) (by decide)
  have r15 := I.r1.but_ hbt n1
  have r25 := I.r2.but_ hbt n2
  have own5 : ∀ k, slb vq5 k → w2.heap.size ≤ k := fun k hk => (hsl k hk).elim (I.own k) (fun h => Nat.le_trans hb2 h)
  obtain ⟨v6, W6, hr6, M6, b6, o6⟩ := appB msR_ok M S mv x w2.heap.size w5 r15 (by omega) (hS.rows msR_ok) (by omega)
  have r26 := r25.but_ b6 (fun k hk h => I.ap k h hk)
  have hA6 : MineR msR W6 wr.heap.size y A := hA.but_ b6 (fun k hk h => by
    have h1 := (hA.slb_lo hk).1
    have h2 := (I.r1.slb_lo h).2.1
    omega)
  have hs6 := b6.size
  obtain ⟨v7, W7, hr7, M7, b7, o7⟩ := appB msR_ok O A ov y w2.heap.size W6 r26 (by omega) (hA6.rows msR_ok) (by omega)
  have nq1 : ¬ slb mv q := fun h => by have := (I.r1.slb_lo h).1; omega
  have nq2 : ¬ slb ov q := fun h => by have := (I.r2.slb_lo h).1; omega
  have mt : ∀ (z : Value) (Z : List MsI), MineR msR w5 w2.heap.size z Z → ∀ k, slb vq5 k → ¬ slb z k := fun z Z hz k hk h => by
    obtain ⟨_, _, ys, K1⟩ := hM.slb_lo hk
    obtain ⟨_, _, zs, K2⟩ := hz.slb_lo h
    exact absurd (K1.type_eq K2) (by decide)
  refine ⟨x, y, W6, W7, v6, v7, vq5, H.1, M ++ S, O ++ A, hu, hr6, hr7, ?_⟩
  exact {
    k := b7.keep (b6.keep hK nq1) nq2
    m := (hM.but b6 (mt mv M r15)).but b7 (mt ov O r25)
    own := own5
    sc := hsc5.1
    fs := by
      rw [hh5.1, hh5.2.1]
      exact ⟨hfs5.1, hfs5.2.1, (by intro x hx; cases hx)⟩
    e := he
    r1 := M6.but_ b7 (fun k hk h => by
      rcases o6 k hk with h1 | h1
      · exact I.ap k h1 h
      · have := (r25.slb_lo h).2.1; omega)
    r2 := M7
    ap := fun k hk h => by
      rcases o7 k h with h1 | h1
      · rcases o6 k hk with h2 | h2
        · exact I.ap k h2 h1
        · have := (r25.slb_lo h1).2.1; omega
      · have := (M6.slb_lo hk).2.1; omega
    b := ((I.b.trans hbt (fun k hk h => h.elim id (fun h => by have := I.own k h; omega))).trans b6 (fun k hk h => by have := (I.r1.slb_lo h).1; omega)).trans b7 (fun k hk h => by have := (I.r2.slb_lo h).1; omega) }
end Go.Proofs.YtjnbdajdllpchaaDoor
namespace Go.Proofs.YtjnbdajdllpchaaDoor
open Go.RowKit
set_option linter.unusedVariables false
set_option linter.unusedSimpArgs false
set_option maxRecDepth 100000
set_option maxRecDepth 100000 in
set_option maxHeartbeats 16000000 in
theorem pieceA (p6 lo n0 c0 nl xlc nd xdc m1 : Nat) (xk xn : Int) (s0 xls xds : Option Addr) (X Y D : List Nat) (V : World) (t0 t1 t2 t3 t4 t6 t8 t9 t10 t11 t12 t13 t14 t15 t16 t17 t18 t19 t20 t21 t22 t23 t24 t25 t26 t27 t28 t29 t30 t31 t32 t33 t34 t35 t36 t37 t38 t39 t40 t41 t42 t43 t44 t45 t46 t47 t48 t49 t50 t51 t52 t53 t54 t55 t56 t57 t58 t59 t60 t61 t62 t63 t64 t65 t66 t67 t68 t69 t70 t71 t72 t73 t74 t75 t76 t77 t78 t79 t80 t81 t82 t83 t84 t85 t86 t87 t88 t89 t90 t91 t92 t93 t94 t95 t96 t97 t98 t99 t100 t101 t102 t103 t104 t105 t106 t107 t108 t109 t110 t111 t112 t113 t114 t115 t116 t117 t118 t119 t120 t121 t122 t123 t124 t125 t126 t127 t128 t129 t130 t131 t132 : Value) (Q : Exit → Act → World → Prop) (HD : Hid (Bk V p6 39 #[.int .i64 xk, .int .i64 xn, .slice xls nl xlc, .slice xds nd xdc])) (HM : Hid (Mine V lo (.slice s0 n0 c0) X)) (hlo : lo ≤ V.heap.size) (HDA : Hid (∀ W, Below lo V W → BsV W W.heap.size (.slice xds nd xdc) D)) (hlen1 : X.length + Y.length ≤ 1500000) (hlen2 : (X ++ Y).length + D.length ≤ 1500000) (hYx : ∀ x ∈ Y, x < 256) (HNE : Hid (¬ slb (.slice s0 n0 c0) p6)) (HBY : Hid (∀ W, Below lo V W → Calls Tryd.prog 12 #[.slice xls nl xlc] W fun r w' => ∃ u, r = .returned u ∧ ∃ s c, u = .slice s m1 c ∧ Mine w' W.heap.size (.slice s m1 c) Y ∧ Below W.heap.size W w')) (HQ : Hid (∀ (x37 x38 x39 x40 x41 x42 x43 x44 : Value) (v7 : Value)  (w' : World), Mine w' lo v7 ((X ++ Y) ++ D) → Below lo V w' → Q .normal { tmps := List.toArray (t0 :: t1 :: t2 :: t3 :: t4 :: v7 :: t6 :: .pointer (some ⟨p6, 0, none⟩) :: t8 :: t9 :: t10 :: t11 :: t12 :: t13 :: t14 :: t15 :: t16 :: t17 :: t18 :: t19 :: t20 :: t21 :: t22 :: t23 :: t24 :: t25 :: t26 :: t27 :: t28 :: t29 :: t30 :: t31 :: t32 :: t33 :: t34 :: t35 :: t36 :: x37 :: x38 :: x39 :: x40 :: x41 :: x42 :: x43 :: x44 :: t45 :: t46 :: t47 :: t48 :: t49 :: t50 :: t51 :: t52 :: t53 :: t54 :: t55 :: t56 :: t57 :: t58 :: t59 :: t60 :: t61 :: t62 :: t63 :: t64 :: t65 :: t66 :: t67 :: t68 :: t69 :: t70 :: t71 :: t72 :: t73 :: t74 :: t75 :: t76 :: t77 :: t78 :: t79 :: t80 :: t81 :: t82 :: t83 :: t84 :: t85 :: t86 :: t87 :: t88 :: t89 :: t90 :: t91 :: t92 :: t93 :: t94 :: t95 :: t96 :: t97 :: t98 :: t99 :: t100 :: t101 :: t102 :: t103 :: t104 :: t105 :: t106 :: t107 :: t108 :: t109 :: t110 :: t111 :: t112 :: t113 :: t114 :: t115 :: t116 :: t117 :: t118 :: t119 :: t120 :: t121 :: t122 :: t123 :: t124 :: t125 :: t126 :: t127 :: t128 :: t129 :: t130 :: t131 :: t132 :: []), defers := [] } w')) :
    Code.wp Tryd.prog (Code.region 9 #[{ dst := some 37, op := Op.move (Operand.tmp 5), type := 32, pos := "law.go:287", after := #[], guard := none },
{ dst := some 38, op := Op.fieldAddr 39 (Operand.tmp 7) 2, type := 0, pos := "law.go:287", after := #[], guard := none },
{ dst := some 39, op := Op.load 27 (Operand.tmp 38), type := 27, pos := "law.go:287", after := #[{ on := 1, ground := Ground.data }], guard := none },
{ dst := some 40, op := Op.call { callee := Callee.value (Operand.func 12), args := #[Operand.tmp 39], argTypes := #[27] }, type := 32, pos := "law.go:287", after := #[{ on := 2, ground := Ground.data }], guard := none },
{ dst := some 41, op := Op.call { callee := Callee.builtin Builtin.append, args := #[Operand.tmp 37, Operand.tmp 40], argTypes := #[32, 32] }, type := 32, pos := "law.go:287", after := #[{ on := 0, ground := Ground.data }, { on := 3, ground := Ground.data }, { on := 3, ground := Ground.chain }], guard := none },
{ dst := some 42, op := Op.fieldAddr 39 (Operand.tmp 7) 3, type := 0, pos := "law.go:287", after := #[], guard := none },
{ dst := some 43, op := Op.load 32 (Operand.tmp 42), type := 32, pos := "law.go:287", after := #[{ on := 5, ground := Ground.data }], guard := none },
{ dst := some 44, op := Op.call { callee := Callee.builtin Builtin.append, args := #[Operand.tmp 41, Operand.tmp 43], argTypes := #[32, 32] }, type := 32, pos := "law.go:287", after := #[{ on := 4, ground := Ground.data }, { on := 6, ground := Ground.data }, { on := 4, ground := Ground.chain }], guard := none },
{ dst := some 5, op := Op.assign (Operand.tmp 44), type := 32, pos := "law.go:287", after := #[{ on := 7, ground := Ground.data }, { on := 7, ground := Ground.chain }, { on := 0, ground := Ground.phase }, { on := 1, ground := Ground.phase }, { on := 2, ground := Ground.phase }, { on := 3, ground := Ground.phase }, { on := 4, ground := Ground.phase }, { on := 5, ground := Ground.phase }, { on := 6, ground := Ground.phase }, { on := 7, ground := Ground.phase }], guard := none }] true) Q { tmps := List.toArray (t0 :: t1 :: t2 :: t3 :: t4 :: .slice s0 n0 c0 :: t6 :: .pointer (some ⟨p6, 0, none⟩) :: t8 :: t9 :: t10 :: t11 :: t12 :: t13 :: t14 :: t15 :: t16 :: t17 :: t18 :: t19 :: t20 :: t21 :: t22 :: t23 :: t24 :: t25 :: t26 :: t27 :: t28 :: t29 :: t30 :: t31 :: t32 :: t33 :: t34 :: t35 :: t36 :: t37 :: t38 :: t39 :: t40 :: t41 :: t42 :: t43 :: t44 :: t45 :: t46 :: t47 :: t48 :: t49 :: t50 :: t51 :: t52 :: t53 :: t54 :: t55 :: t56 :: t57 :: t58 :: t59 :: t60 :: t61 :: t62 :: t63 :: t64 :: t65 :: t66 :: t67 :: t68 :: t69 :: t70 :: t71 :: t72 :: t73 :: t74 :: t75 :: t76 :: t77 :: t78 :: t79 :: t80 :: t81 :: t82 :: t83 :: t84 :: t85 :: t86 :: t87 :: t88 :: t89 :: t90 :: t91 :: t92 :: t93 :: t94 :: t95 :: t96 :: t97 :: t98 :: t99 :: t100 :: t101 :: t102 :: t103 :: t104 :: t105 :: t106 :: t107 :: t108 :: t109 :: t110 :: t111 :: t112 :: t113 :: t114 :: t115 :: t116 :: t117 :: t118 :: t119 :: t120 :: t121 :: t122 :: t123 :: t124 :: t125 :: t126 :: t127 :: t128 :: t129 :: t130 :: t131 :: t132 :: []), defers := [] } V := by
  refine wp_region_noPanic ?_
  refine wp_region_held_drew (S := (fun w' => Bk w' p6 39 #[.int .i64 xk, .int .i64 xn, .slice xls nl xlc, .slice xds nd xdc])) (by kernel_rfl) (Bk.below HD.out (Below.refl _ _).drew HD.out.lt) (fun hHeld => ?_)
  have hB : Bk V.drew p6 39 #[.int .i64 xk, .int .i64 xn, .slice xls nl xlc, .slice xds nd xdc] := (Bk.below HD.out (Below.refl _ _).drew HD.out.lt)
  show wpAnyH _ _ _ _ _ 9 _ _ _
  have bl : Below lo V V.drew := ((Below.refl _ _).drew)
  have m0 : Mine V.drew lo (.slice s0 n0 c0) X := (HM.out.keep (Below.refl _ _).drew)
  refine wpAnyH_take (i := 0) (oi := { dst := some 37, op := Op.move (Operand.tmp 5), type := 32, pos := "law.go:287", after := #[], guard := none }) (v := .slice s0 n0 c0) rfl (by kernel_rfl) (by kernel_rfl) (by kernel_rfl) (fun _ _ _ h => h) ?_ hB ?_
  · (refine Or.inl ⟨by kernel_rfl, ?_⟩; intro w hSw; go_simp)
  simp only [Act.put, List.setIfInBounds_toArray, List.set_cons_zero, List.set_cons_succ]
  refine wpAnyH_take (i := 1) (oi := { dst := some 38, op := Op.fieldAddr 39 (Operand.tmp 7) 2, type := 0, pos := "law.go:287", after := #[], guard := none }) (v := .pointer (some ⟨p6, 2, none⟩)) rfl (by kernel_rfl) (by kernel_rfl) (by kernel_rfl) (fun _ _ _ h => h) ?_ hB ?_
  · (refine Or.inl ⟨by kernel_rfl, ?_⟩; intro w hSw; have h1 := hSw.cell 1; have h2 := hSw.cell 2; have h3 := hSw.cell 3; have hz := hSw.lt; go_simp)
  simp only [Act.put, List.setIfInBounds_toArray, List.set_cons_zero, List.set_cons_succ]
  refine wpAnyH_take (i := 2) (oi := { dst := some 39, op := Op.load 27 (Operand.tmp 38), type := 27, pos := "law.go:287", after := #[{ on := 1, ground := Ground.data }], guard := none }) (v := .slice xls nl xlc) rfl (by kernel_rfl) (by kernel_rfl) (by kernel_rfl) (fun _ _ _ h => h) ?_ hB ?_
  · (refine Or.inl ⟨by kernel_rfl, ?_⟩; intro w hSw; have h1 := hSw.cell 1; have h2 := hSw.cell 2; have h3 := hSw.cell 3; have hz := hSw.lt; go_simp)
  simp only [Act.put, List.setIfInBounds_toArray, List.set_cons_zero, List.set_cons_succ]
  refine wpAnyH_take (i := 5) (oi := { dst := some 42, op := Op.fieldAddr 39 (Operand.tmp 7) 3, type := 0, pos := "law.go:287", after := #[], guard := none }) (v := .pointer (some ⟨p6, 3, none⟩)) rfl (by kernel_rfl) (by kernel_rfl) (by kernel_rfl) (fun _ _ _ h => h) ?_ hB ?_
  · (refine Or.inl ⟨by kernel_rfl, ?_⟩; intro w hSw; have h1 := hSw.cell 1; have h2 := hSw.cell 2; have h3 := hSw.cell 3; have hz := hSw.lt; go_simp)
  simp only [Act.put, List.setIfInBounds_toArray, List.set_cons_zero, List.set_cons_succ]
  refine wpAnyH_take (i := 6) (oi := { dst := some 43, op := Op.load 32 (Operand.tmp 42), type := 32, pos := "law.go:287", after := #[{ on := 5, ground := Ground.data }], guard := none }) (v := .slice xds nd xdc) rfl (by kernel_rfl) (by kernel_rfl) (by kernel_rfl) (fun _ _ _ h => h) ?_ hB ?_
  · (refine Or.inl ⟨by kernel_rfl, ?_⟩; intro w hSw; have h1 := hSw.cell 1; have h2 := hSw.cell 2; have h3 := hSw.cell 3; have hz := hSw.lt; go_simp)
  simp only [Act.put, List.setIfInBounds_toArray, List.set_cons_zero, List.set_cons_succ]
  refine wpAnyH_ready (rs := [3]) (by kernel_rfl) (by simp) ?_
  refine AllReadyH.cons rfl (fun K hK => ?_) AllReadyH.nil
  refine stepP_call (by kernel_rfl) _ _ (HBY.out _ bl) (by kernel_rfl) (fun v6 w6 h6 => ?_)
  obtain ⟨s1, c1, rfl, n1, hb6⟩ := h6
  have bl6 := below_step bl (Nat.le_trans hlo bl.size) hb6
  have m06 := m0.keep hb6
  have kp6 := Bk.keep hB hb6
  simp only [Act.put, List.setIfInBounds_toArray, List.set_cons_zero, List.set_cons_succ]
  have hB2 := kp6
  refine hK.out _ _ hB2 (fun _ => ?_)
  have n1 := n1.mono bl.size
  have bl := bl6
  have m0 := m06
  show wpAnyH _ _ _ _ _ 3 #[true, true, true, true, false, true, true, false, false] { tmps := List.toArray (t0 :: t1 :: t2 :: t3 :: t4 :: .slice s0 n0 c0 :: t6 :: .pointer (some ⟨p6, 0, none⟩) :: t8 :: t9 :: t10 :: t11 :: t12 :: t13 :: t14 :: t15 :: t16 :: t17 :: t18 :: t19 :: t20 :: t21 :: t22 :: t23 :: t24 :: t25 :: t26 :: t27 :: t28 :: t29 :: t30 :: t31 :: t32 :: t33 :: t34 :: t35 :: t36 :: .slice s0 n0 c0 :: .pointer (some ⟨p6, 2, none⟩) :: .slice xls nl xlc :: .slice s1 m1 c1 :: t41 :: .pointer (some ⟨p6, 3, none⟩) :: .slice xds nd xdc :: t44 :: t45 :: t46 :: t47 :: t48 :: t49 :: t50 :: t51 :: t52 :: t53 :: t54 :: t55 :: t56 :: t57 :: t58 :: t59 :: t60 :: t61 :: t62 :: t63 :: t64 :: t65 :: t66 :: t67 :: t68 :: t69 :: t70 :: t71 :: t72 :: t73 :: t74 :: t75 :: t76 :: t77 :: t78 :: t79 :: t80 :: t81 :: t82 :: t83 :: t84 :: t85 :: t86 :: t87 :: t88 :: t89 :: t90 :: t91 :: t92 :: t93 :: t94 :: t95 :: t96 :: t97 :: t98 :: t99 :: t100 :: t101 :: t102 :: t103 :: t104 :: t105 :: t106 :: t107 :: t108 :: t109 :: t110 :: t111 :: t112 :: t113 :: t114 :: t115 :: t116 :: t117 :: t118 :: t119 :: t120 :: t121 :: t122 :: t123 :: t124 :: t125 :: t126 :: t127 :: t128 :: t129 :: t130 :: t131 :: t132 :: []), defers := [] } _
  clear hB hK K
  have hB := hB2
  clear hB2
  refine wpAnyH_ready (rs := [4]) (by kernel_rfl) (by simp) ?_
  refine AllReadyH.cons rfl (fun K hK => ?_) AllReadyH.nil
  refine stepB_app X Y lo rfl (.tmp 37) (.tmp 40) rfl rfl rfl rfl m0 (Nat.le_trans hlo bl.size) (n1.bs hYx) hlen1 (fun v4 w4 m4 b4 y4 => ?_)
  have kp4 : Bk w4 p6 39 #[.int .i64 xk, .int .i64 xn, .slice xls nl xlc, .slice xds nd xdc] := b4.keep hB HNE.out
  have ny : ¬ slb v4 p6 := fun h => (y4 p6 h).elim HNE.out (fun h2 => absurd hB.lt (Nat.not_lt.2 h2))
  have bl4 : Below lo V w4 := bl.trans (b4.below (Nat.le_trans hlo bl.size) (fun k hk => (m0.slb_lo hk).1))
  simp only [Act.put, List.setIfInBounds_toArray, List.set_cons_zero, List.set_cons_succ]
  have hB2 := kp4
  refine hK.out _ _ hB2 (fun _ => ?_)
  have bl := bl4
  show wpAnyH _ _ _ _ _ 2 #[true, true, true, true, true, true, true, false, false] { tmps := List.toArray (t0 :: t1 :: t2 :: t3 :: t4 :: .slice s0 n0 c0 :: t6 :: .pointer (some ⟨p6, 0, none⟩) :: t8 :: t9 :: t10 :: t11 :: t12 :: t13 :: t14 :: t15 :: t16 :: t17 :: t18 :: t19 :: t20 :: t21 :: t22 :: t23 :: t24 :: t25 :: t26 :: t27 :: t28 :: t29 :: t30 :: t31 :: t32 :: t33 :: t34 :: t35 :: t36 :: .slice s0 n0 c0 :: .pointer (some ⟨p6, 2, none⟩) :: .slice xls nl xlc :: .slice s1 m1 c1 :: v4 :: .pointer (some ⟨p6, 3, none⟩) :: .slice xds nd xdc :: t44 :: t45 :: t46 :: t47 :: t48 :: t49 :: t50 :: t51 :: t52 :: t53 :: t54 :: t55 :: t56 :: t57 :: t58 :: t59 :: t60 :: t61 :: t62 :: t63 :: t64 :: t65 :: t66 :: t67 :: t68 :: t69 :: t70 :: t71 :: t72 :: t73 :: t74 :: t75 :: t76 :: t77 :: t78 :: t79 :: t80 :: t81 :: t82 :: t83 :: t84 :: t85 :: t86 :: t87 :: t88 :: t89 :: t90 :: t91 :: t92 :: t93 :: t94 :: t95 :: t96 :: t97 :: t98 :: t99 :: t100 :: t101 :: t102 :: t103 :: t104 :: t105 :: t106 :: t107 :: t108 :: t109 :: t110 :: t111 :: t112 :: t113 :: t114 :: t115 :: t116 :: t117 :: t118 :: t119 :: t120 :: t121 :: t122 :: t123 :: t124 :: t125 :: t126 :: t127 :: t128 :: t129 :: t130 :: t131 :: t132 :: []), defers := [] } _
  clear hB hK K
  have hB := hB2
  clear hB2
  refine wpAnyH_ready (rs := [7]) (by kernel_rfl) (by simp) ?_
  refine AllReadyH.cons rfl (fun K hK => ?_) AllReadyH.nil
  refine stepB_app (X ++ Y) D lo rfl (.tmp 41) (.tmp 43) rfl rfl rfl rfl m4 (Nat.le_trans hlo bl.size) (HDA.out _ bl) hlen2 (fun v7 w7 m7 b7 y7 => ?_)
  have kp7 : Bk w7 p6 39 #[.int .i64 xk, .int .i64 xn, .slice xls nl xlc, .slice xds nd xdc] := b7.keep hB ny
  have bl7 : Below lo V w7 := bl.trans (b7.below (Nat.le_trans hlo bl.size) (fun k hk => (m4.slb_lo hk).1))
  simp only [Act.put, List.setIfInBounds_toArray, List.set_cons_zero, List.set_cons_succ]
  have hB2 := kp7
  refine hK.out _ _ hB2 (fun _ => ?_)
  have bl := bl7
  show wpAnyH _ _ _ _ _ 1 #[true, true, true, true, true, true, true, true, false] { tmps := List.toArray (t0 :: t1 :: t2 :: t3 :: t4 :: .slice s0 n0 c0 :: t6 :: .pointer (some ⟨p6, 0, none⟩) :: t8 :: t9 :: t10 :: t11 :: t12 :: t13 :: t14 :: t15 :: t16 :: t17 :: t18 :: t19 :: t20 :: t21 :: t22 :: t23 :: t24 :: t25 :: t26 :: t27 :: t28 :: t29 :: t30 :: t31 :: t32 :: t33 :: t34 :: t35 :: t36 :: .slice s0 n0 c0 :: .pointer (some ⟨p6, 2, none⟩) :: .slice xls nl xlc :: .slice s1 m1 c1 :: v4 :: .pointer (some ⟨p6, 3, none⟩) :: .slice xds nd xdc :: v7 :: t45 :: t46 :: t47 :: t48 :: t49 :: t50 :: t51 :: t52 :: t53 :: t54 :: t55 :: t56 :: t57 :: t58 :: t59 :: t60 :: t61 :: t62 :: t63 :: t64 :: t65 :: t66 :: t67 :: t68 :: t69 :: t70 :: t71 :: t72 :: t73 :: t74 :: t75 :: t76 :: t77 :: t78 :: t79 :: t80 :: t81 :: t82 :: t83 :: t84 :: t85 :: t86 :: t87 :: t88 :: t89 :: t90 :: t91 :: t92 :: t93 :: t94 :: t95 :: t96 :: t97 :: t98 :: t99 :: t100 :: t101 :: t102 :: t103 :: t104 :: t105 :: t106 :: t107 :: t108 :: t109 :: t110 :: t111 :: t112 :: t113 :: t114 :: t115 :: t116 :: t117 :: t118 :: t119 :: t120 :: t121 :: t122 :: t123 :: t124 :: t125 :: t126 :: t127 :: t128 :: t129 :: t130 :: t131 :: t132 :: []), defers := [] } _
  refine wpAnyH_take (i := 8) (oi := { dst := some 5, op := Op.assign (Operand.tmp 44), type := 32, pos := "law.go:287", after := #[{ on := 7, ground := Ground.data }, { on := 7, ground := Ground.chain }, { on := 0, ground := Ground.phase }, { on := 1, ground := Ground.phase }, { on := 2, ground := Ground.phase }, { on := 3, ground := Ground.phase }, { on := 4, ground := Ground.phase }, { on := 5, ground := Ground.phase }, { on := 6, ground := Ground.phase }, { on := 7, ground := Ground.phase }], guard := none }) (v := v7) rfl (by kernel_rfl) (by kernel_rfl) (by kernel_rfl) (fun _ _ _ h => h) ?_ hB2 ?_
  · (refine Or.inl ⟨by kernel_rfl, ?_⟩; intro w hSw; go_simp)
  simp only [Act.put, List.setIfInBounds_toArray, List.set_cons_zero, List.set_cons_succ]
  clear hB hK K
  have hB := hB2
  clear hB2
  refine wpAnyH_done (by kernel_rfl) ?_ _
  refine NoPanic.normal ?_
  have hEnd := HQ.out (.slice s0 n0 c0) (.pointer (some ⟨p6, 2, none⟩)) (.slice xls nl xlc) (.slice s1 m1 c1) (v4) (.pointer (some ⟨p6, 3, none⟩)) (.slice xds nd xdc) (v7) v7 _ m7 bl
  exact hEnd

set_option maxRecDepth 100000 in
set_option maxHeartbeats 16000000 in
theorem pieceZ (p q ht : Nat) (sc : Int) (rd : Bool) (vs va vm vo : Value) (V : World) (t0 t1 t2 t3 t4 t5 t6 t7 t9 t11 t16 t17 t18 t19 t20 t21 t22 t23 t24 t25 t26 t27 t28 t29 t30 t31 t32 t33 t34 t35 t36 t37 t38 t39 t40 t41 t42 t43 t44 t45 t46 t47 t48 t49 t50 t51 t52 t53 t54 t55 t56 t57 t58 t59 t60 t61 t62 t63 t64 t65 t66 t67 t68 t69 t70 t71 t72 t73 t74 t75 t76 t77 t78 t79 t80 t81 t82 t83 t84 t85 t86 t87 t88 t89 t90 t91 t92 t93 t94 t95 t96 t97 t98 t99 t100 t101 t102 t103 t104 t105 t106 t107 t108 t109 t110 t111 t112 t113 t114 t115 t116 t117 t118 t119 t120 t121 t122 t123 t124 t125 t126 t127 t128 t129 t130 t131 t132 : Value) (Q : Exit → Act → World → Prop) (zp : p < V.heap.size) (zq : q < V.heap.size) (e1 : (rd == rd) = true) (e2 : (sc == sc) = true) (e3 : (ht == ht) = true) (HA1 : Hid (∀ W, Below V.heap.size V W → Calls Tryd.prog 15 #[vs, vm] W fun r w' => r = .returned (.bool true) ∧ Below W.heap.size W w')) (HA2 : Hid (∀ W, Below V.heap.size V W → Calls Tryd.prog 15 #[va, vo] W fun r w' => r = .returned (.bool true) ∧ Below W.heap.size W w')) (HR1 : Hid (∀ W, Below V.heap.size V W → Calls Tryd.prog 22 #[.pointer (some ⟨p, 0, none⟩)] W fun r w' => r = .returned (.bool rd) ∧ Below W.heap.size W w')) (HR2 : Hid (∀ W, Below V.heap.size V W → Calls Tryd.prog 22 #[.pointer (some ⟨q, 0, none⟩)] W fun r w' => r = .returned (.bool rd) ∧ Below W.heap.size W w')) (HS1 : Hid (∀ W, Below V.heap.size V W → Calls Tryd.prog 20 #[.pointer (some ⟨p, 0, none⟩)] W fun r w' => r = .returned (.int .i64 sc) ∧ Below W.heap.size W w')) (HS2 : Hid (∀ W, Below V.heap.size V W → Calls Tryd.prog 20 #[.pointer (some ⟨q, 0, none⟩)] W fun r w' => r = .returned (.int .i64 sc) ∧ Below W.heap.size W w')) (HT1 : Hid (∀ W, Below V.heap.size V W → Calls Tryd.prog 23 #[.pointer (some ⟨p, 0, none⟩)] W fun r w' => r = .returned (.int .u32 (ht : Int)) ∧ Below W.heap.size W w')) (HT2 : Hid (∀ W, Below V.heap.size V W → Calls Tryd.prog 23 #[.pointer (some ⟨q, 0, none⟩)] W fun r w' => r = .returned (.int .u32 (ht : Int)) ∧ Below W.heap.size W w')) (HQ : Hid (∀ (x100 x101 x102 x103 x104 x105 x106 x107 x108 x109 x110 x111 x112 x113 x114 x115 x116 x117 x118 x119 x120 x121 x122 x123 x124 x125 x126 x127 x128 x129 x130 x131 x132 : Value)  (w' : World), Below V.heap.size V w' → Q .normal { tmps := List.toArray (t0 :: t1 :: t2 :: t3 :: .bool true :: t5 :: t6 :: t7 :: .pointer (some ⟨p, 0, none⟩) :: t9 :: .pointer (some ⟨q, 0, none⟩) :: t11 :: vs :: va :: vm :: vo :: t16 :: t17 :: t18 :: t19 :: t20 :: t21 :: t22 :: t23 :: t24 :: t25 :: t26 :: t27 :: t28 :: t29 :: t30 :: t31 :: t32 :: t33 :: t34 :: t35 :: t36 :: t37 :: t38 :: t39 :: t40 :: t41 :: t42 :: t43 :: t44 :: t45 :: t46 :: t47 :: t48 :: t49 :: t50 :: t51 :: t52 :: t53 :: t54 :: t55 :: t56 :: t57 :: t58 :: t59 :: t60 :: t61 :: t62 :: t63 :: t64 :: t65 :: t66 :: t67 :: t68 :: t69 :: t70 :: t71 :: t72 :: t73 :: t74 :: t75 :: t76 :: t77 :: t78 :: t79 :: t80 :: t81 :: t82 :: t83 :: t84 :: t85 :: t86 :: t87 :: t88 :: t89 :: t90 :: t91 :: t92 :: t93 :: t94 :: t95 :: t96 :: t97 :: t98 :: t99 :: x100 :: x101 :: x102 :: x103 :: x104 :: x105 :: x106 :: x107 :: x108 :: x109 :: x110 :: x111 :: x112 :: x113 :: x114 :: x115 :: x116 :: x117 :: x118 :: x119 :: x120 :: x121 :: x122 :: x123 :: x124 :: x125 :: x126 :: x127 :: x128 :: x129 :: x130 :: x131 :: x132 :: []), defers := [] } w')) :
    Code.wp Tryd.prog (Code.region 24 #[{ dst := some 100, op := Op.move (Operand.tmp 12), type := 27, pos := "law.go:300", after := #[], guard := none },
{ dst := some 101, op := Op.move (Operand.tmp 14), type := 27, pos := "law.go:300", after := #[], guard := none },
{ dst := some 102, op := Op.call { callee := Callee.value (Operand.func 15), args := #[Operand.tmp 100, Operand.tmp 101], argTypes := #[27, 27] }, type := 4, pos := "law.go:300", after := #[{ on := 0, ground := Ground.data }, { on := 1, ground := Ground.data }], guard := none },
{ dst := some 103, op := Op.move (Operand.tmp 102), type := 4, pos := "law.go:300", after := #[{ on := 2, ground := Ground.data }, { on := 2, ground := Ground.chain }], guard := none },
{ dst := some 104, op := Op.move (Operand.tmp 13), type := 27, pos := "law.go:300", after := #[{ on := 3, ground := Ground.guard }], guard := some (3, true) },
{ dst := some 105, op := Op.move (Operand.tmp 15), type := 27, pos := "law.go:300", after := #[{ on := 3, ground := Ground.guard }], guard := some (3, true) },
{ dst := some 106, op := Op.call { callee := Callee.value (Operand.func 15), args := #[Operand.tmp 104, Operand.tmp 105], argTypes := #[27, 27] }, type := 4, pos := "law.go:300", after := #[{ on := 4, ground := Ground.data }, { on := 5, ground := Ground.data }, { on := 3, ground := Ground.chain }, { on := 3, ground := Ground.guard }], guard := some (3, true) },
{ dst := some 107, op := Op.pick (Operand.tmp 103) (Operand.tmp 106) (Operand.const (Value.bool false)), type := 4, pos := "law.go:300", after := #[{ on := 3, ground := Ground.data }, { on := 6, ground := Ground.data }], guard := none },
{ dst := some 108, op := Op.move (Operand.tmp 107), type := 4, pos := "law.go:300", after := #[{ on := 7, ground := Ground.data }, { on := 6, ground := Ground.chain }], guard := none },
{ dst := some 109, op := Op.move (Operand.tmp 8), type := 26, pos := "law.go:300", after := #[{ on := 8, ground := Ground.guard }], guard := some (8, true) },
{ dst := some 110, op := Op.call { callee := Callee.value (Operand.func 22), args := #[Operand.tmp 109], argTypes := #[26] }, type := 4, pos := "law.go:300", after := #[{ on := 9, ground := Ground.data }, { on := 8, ground := Ground.chain }, { on := 8, ground := Ground.guard }], guard := some (8, true) },
{ dst := some 111, op := Op.move (Operand.tmp 10), type := 26, pos := "law.go:300", after := #[{ on := 8, ground := Ground.guard }], guard := some (8, true) },
{ dst := some 112, op := Op.call { callee := Callee.value (Operand.func 22), args := #[Operand.tmp 111], argTypes := #[26] }, type := 4, pos := "law.go:300", after := #[{ on := 11, ground := Ground.data }, { on := 10, ground := Ground.chain }, { on := 8, ground := Ground.guard }], guard := some (8, true) },
{ dst := some 113, op := Op.binOp BinOp.eql 4 (Operand.tmp 110) (Operand.tmp 112) 4, type := 4, pos := "law.go:300", after := #[{ on := 10, ground := Ground.data }, { on := 12, ground := Ground.data }, { on := 8, ground := Ground.guard }], guard := some (8, true) },
{ dst := some 114, op := Op.pick (Operand.tmp 108) (Operand.tmp 113) (Operand.const (Value.bool false)), type := 4, pos := "law.go:300", after := #[{ on := 8, ground := Ground.data }, { on := 13, ground := Ground.data }], guard := none },
{ dst := some 115, op := Op.move (Operand.tmp 114), type := 4, pos := "law.go:300", after := #[{ on := 14, ground := Ground.data }, { on := 12, ground := Ground.chain }], guard := none },
{ dst := some 116, op := Op.move (Operand.tmp 8), type := 26, pos := "law.go:300", after := #[{ on := 15, ground := Ground.guard }], guard := some (15, true) },
{ dst := some 117, op := Op.nilCheck (Operand.tmp 116), type := 0, pos := "law.go:300", after := #[{ on := 16, ground := Ground.data }, { on := 15, ground := Ground.guard }], guard := some (15, true) },
{ dst := some 118, op := Op.fieldAddr 65 (Operand.tmp 117) 0, type := 0, pos := "law.go:300", after := #[{ on := 17, ground := Ground.data }, { on := 15, ground := Ground.guard }], guard := some (15, true) },
{ dst := some 119, op := Op.call { callee := Callee.value (Operand.func 20), args := #[Operand.tmp 118], argTypes := #[61] }, type := 3, pos := "law.go:300", after := #[{ on := 18, ground := Ground.data }, { on := 15, ground := Ground.chain }, { on := 15, ground := Ground.guard }], guard := some (15, true) },
{ dst := some 120, op := Op.move (Operand.tmp 10), type := 26, pos := "law.go:300", after := #[{ on := 15, ground := Ground.guard }], guard := some (15, true) },
{ dst := some 121, op := Op.nilCheck (Operand.tmp 120), type := 0, pos := "law.go:300", after := #[{ on := 20, ground := Ground.data }, { on := 15, ground := Ground.guard }], guard := some (15, true) },
{ dst := some 122, op := Op.fieldAddr 65 (Operand.tmp 121) 0, type := 0, pos := "law.go:300", after := #[{ on := 21, ground := Ground.data }, { on := 15, ground := Ground.guard }], guard := some (15, true) },
{ dst := some 123, op := Op.call { callee := Callee.value (Operand.func 20), args := #[Operand.tmp 122], argTypes := #[61] }, type := 3, pos := "law.go:300", after := #[{ on := 22, ground := Ground.data }, { on := 19, ground := Ground.chain }, { on := 15, ground := Ground.guard }], guard := some (15, true) },
{ dst := some 124, op := Op.binOp BinOp.eql 3 (Operand.tmp 119) (Operand.tmp 123) 3, type := 4, pos := "law.go:300", after := #[{ on := 19, ground := Ground.data }, { on := 23, ground := Ground.data }, { on := 15, ground := Ground.guard }], guard := some (15, true) },
{ dst := some 125, op := Op.pick (Operand.tmp 115) (Operand.tmp 124) (Operand.const (Value.bool false)), type := 4, pos := "law.go:300", after := #[{ on := 15, ground := Ground.data }, { on := 24, ground := Ground.data }], guard := none },
{ dst := some 126, op := Op.move (Operand.tmp 125), type := 4, pos := "law.go:300", after := #[{ on := 25, ground := Ground.data }, { on := 23, ground := Ground.chain }], guard := none },
{ dst := some 127, op := Op.move (Operand.tmp 8), type := 26, pos := "law.go:300", after := #[{ on := 26, ground := Ground.guard }], guard := some (26, true) },
{ dst := some 128, op := Op.call { callee := Callee.value (Operand.func 23), args := #[Operand.tmp 127], argTypes := #[26] }, type := 30, pos := "law.go:300", after := #[{ on := 27, ground := Ground.data }, { on := 26, ground := Ground.chain }, { on := 26, ground := Ground.guard }], guard := some (26, true) },
{ dst := some 129, op := Op.move (Operand.tmp 10), type := 26, pos := "law.go:300", after := #[{ on := 26, ground := Ground.guard }], guard := some (26, true) },
{ dst := some 130, op := Op.call { callee := Callee.value (Operand.func 23), args := #[Operand.tmp 129], argTypes := #[26] }, type := 30, pos := "law.go:300", after := #[{ on := 29, ground := Ground.data }, { on := 28, ground := Ground.chain }, { on := 26, ground := Ground.guard }], guard := some (26, true) },
{ dst := some 131, op := Op.binOp BinOp.eql 30 (Operand.tmp 128) (Operand.tmp 130) 30, type := 4, pos := "law.go:300", after := #[{ on := 28, ground := Ground.data }, { on := 30, ground := Ground.data }, { on := 26, ground := Ground.guard }], guard := some (26, true) },
{ dst := some 132, op := Op.pick (Operand.tmp 126) (Operand.tmp 131) (Operand.const (Value.bool false)), type := 4, pos := "law.go:300", after := #[{ on := 26, ground := Ground.data }, { on := 31, ground := Ground.data }], guard := none },
{ dst := some 4, op := Op.assign (Operand.tmp 132), type := 4, pos := "law.go:300", after := #[{ on := 32, ground := Ground.data }, { on := 30, ground := Ground.chain }, { on := 0, ground := Ground.phase }, { on := 1, ground := Ground.phase }, { on := 2, ground := Ground.phase }, { on := 3, ground := Ground.phase }, { on := 4, ground := Ground.phase }, { on := 5, ground := Ground.phase }, { on := 6, ground := Ground.phase }, { on := 7, ground := Ground.phase }, { on := 8, ground := Ground.phase }, { on := 9, ground := Ground.phase }, { on := 10, ground := Ground.phase }, { on := 11, ground := Ground.phase }, { on := 12, ground := Ground.phase }, { on := 13, ground := Ground.phase }, { on := 14, ground := Ground.phase }, { on := 15, ground := Ground.phase }, { on := 16, ground := Ground.phase }, { on := 17, ground := Ground.phase }, { on := 18, ground := Ground.phase }, { on := 19, ground := Ground.phase }, { on := 20, ground := Ground.phase }, { on := 21, ground := Ground.phase }, { on := 22, ground := Ground.phase }, { on := 23, ground := Ground.phase }, { on := 24, ground := Ground.phase }, { on := 25, ground := Ground.phase }, { on := 26, ground := Ground.phase }, { on := 27, ground := Ground.phase }, { on := 28, ground := Ground.phase }, { on := 29, ground := Ground.phase }, { on := 30, ground := Ground.phase }, { on := 31, ground := Ground.phase }, { on := 32, ground := Ground.phase }], guard := none }] true) Q { tmps := List.toArray (t0 :: t1 :: t2 :: t3 :: t4 :: t5 :: t6 :: t7 :: .pointer (some ⟨p, 0, none⟩) :: t9 :: .pointer (some ⟨q, 0, none⟩) :: t11 :: vs :: va :: vm :: vo :: t16 :: t17 :: t18 :: t19 :: t20 :: t21 :: t22 :: t23 :: t24 :: t25 :: t26 :: t27 :: t28 :: t29 :: t30 :: t31 :: t32 :: t33 :: t34 :: t35 :: t36 :: t37 :: t38 :: t39 :: t40 :: t41 :: t42 :: t43 :: t44 :: t45 :: t46 :: t47 :: t48 :: t49 :: t50 :: t51 :: t52 :: t53 :: t54 :: t55 :: t56 :: t57 :: t58 :: t59 :: t60 :: t61 :: t62 :: t63 :: t64 :: t65 :: t66 :: t67 :: t68 :: t69 :: t70 :: t71 :: t72 :: t73 :: t74 :: t75 :: t76 :: t77 :: t78 :: t79 :: t80 :: t81 :: t82 :: t83 :: t84 :: t85 :: t86 :: t87 :: t88 :: t89 :: t90 :: t91 :: t92 :: t93 :: t94 :: t95 :: t96 :: t97 :: t98 :: t99 :: t100 :: t101 :: t102 :: t103 :: t104 :: t105 :: t106 :: t107 :: t108 :: t109 :: t110 :: t111 :: t112 :: t113 :: t114 :: t115 :: t116 :: t117 :: t118 :: t119 :: t120 :: t121 :: t122 :: t123 :: t124 :: t125 :: t126 :: t127 :: t128 :: t129 :: t130 :: t131 :: t132 :: []), defers := [] } V := by
  refine wp_region_noPanic ?_
  refine wp_region_held_drew (S := (fun w' => Below V.heap.size V w')) (by kernel_rfl) ((Below.refl _ _).drew) (fun hHeld => ?_)
  have hB : Below V.heap.size V V.drew := ((Below.refl _ _).drew)
  show wpAnyH _ _ _ _ _ 34 _ _ _
  refine wpAnyH_take (i := 0) (oi := { dst := some 100, op := Op.move (Operand.tmp 12), type := 27, pos := "law.go:300", after := #[], guard := none }) (v := vs) rfl (by kernel_rfl) (by kernel_rfl) (by kernel_rfl) (fun _ _ _ h => h) ?_ hB ?_
  · (refine Or.inl ⟨by kernel_rfl, ?_⟩; intro w hSw; go_simp)
  simp only [Act.put, List.setIfInBounds_toArray, List.set_cons_zero, List.set_cons_succ]
  refine wpAnyH_take (i := 1) (oi := { dst := some 101, op := Op.move (Operand.tmp 14), type := 27, pos := "law.go:300", after := #[], guard := none }) (v := vm) rfl (by kernel_rfl) (by kernel_rfl) (by kernel_rfl) (fun _ _ _ h => h) ?_ hB ?_
  · (refine Or.inl ⟨by kernel_rfl, ?_⟩; intro w hSw; go_simp)
  simp only [Act.put, List.setIfInBounds_toArray, List.set_cons_zero, List.set_cons_succ]
  refine wpAnyH_ready (rs := [2]) (by kernel_rfl) (by simp) ?_
  refine AllReadyH.cons rfl (fun K hK => ?_) AllReadyH.nil
  refine step_callG (by kernel_rfl) _ _ (.bool true) (HA1.out _ hB) (by kernel_rfl) (fun w6 hb6 => ?_)
  simp only [Act.put, List.setIfInBounds_toArray, List.set_cons_zero, List.set_cons_succ]
  have hB2 := (below_step hB hB.size hb6)
  refine hK.out _ _ hB2 (fun _ => ?_)
  show wpAnyH _ _ _ _ _ 31 #[true, true, true, false, false, false, false, false, false, false, false, false, false, false, false, false, false, false, false, false, false, false, false, false, false, false, false, false, false, false, false, false, false, false] { tmps := List.toArray (t0 :: t1 :: t2 :: t3 :: t4 :: t5 :: t6 :: t7 :: .pointer (some ⟨p, 0, none⟩) :: t9 :: .pointer (some ⟨q, 0, none⟩) :: t11 :: vs :: va :: vm :: vo :: t16 :: t17 :: t18 :: t19 :: t20 :: t21 :: t22 :: t23 :: t24 :: t25 :: t26 :: t27 :: t28 :: t29 :: t30 :: t31 :: t32 :: t33 :: t34 :: t35 :: t36 :: t37 :: t38 :: t39 :: t40 :: t41 :: t42 :: t43 :: t44 :: t45 :: t46 :: t47 :: t48 :: t49 :: t50 :: t51 :: t52 :: t53 :: t54 :: t55 :: t56 :: t57 :: t58 :: t59 :: t60 :: t61 :: t62 :: t63 :: t64 :: t65 :: t66 :: t67 :: t68 :: t69 :: t70 :: t71 :: t72 :: t73 :: t74 :: t75 :: t76 :: t77 :: t78 :: t79 :: t80 :: t81 :: t82 :: t83 :: t84 :: t85 :: t86 :: t87 :: t88 :: t89 :: t90 :: t91 :: t92 :: t93 :: t94 :: t95 :: t96 :: t97 :: t98 :: t99 :: vs :: vm :: .bool true :: t103 :: t104 :: t105 :: t106 :: t107 :: t108 :: t109 :: t110 :: t111 :: t112 :: t113 :: t114 :: t115 :: t116 :: t117 :: t118 :: t119 :: t120 :: t121 :: t122 :: t123 :: t124 :: t125 :: t126 :: t127 :: t128 :: t129 :: t130 :: t131 :: t132 :: []), defers := [] } _
  refine wpAnyH_take (i := 3) (oi := { dst := some 103, op := Op.move (Operand.tmp 102), type := 4, pos := "law.go:300", after := #[{ on := 2, ground := Ground.data }, { on := 2, ground := Ground.chain }], guard := none }) (v := .bool true) rfl (by kernel_rfl) (by kernel_rfl) (by kernel_rfl) (fun _ _ _ h => h) ?_ hB2 ?_
  · (refine Or.inl ⟨by kernel_rfl, ?_⟩; intro w hSw; go_simp)
  simp only [Act.put, List.setIfInBounds_toArray, List.set_cons_zero, List.set_cons_succ]
  refine wpAnyH_take (i := 4) (oi := { dst := some 104, op := Op.move (Operand.tmp 13), type := 27, pos := "law.go:300", after := #[{ on := 3, ground := Ground.guard }], guard := some (3, true) }) (v := va) rfl (by kernel_rfl) (by kernel_rfl) (by kernel_rfl) (fun _ _ _ h => h) ?_ hB2 ?_
  · (refine Or.inl ⟨by kernel_rfl, ?_⟩; intro w hSw; go_simp)
  simp only [Act.put, List.setIfInBounds_toArray, List.set_cons_zero, List.set_cons_succ]
  refine wpAnyH_take (i := 5) (oi := { dst := some 105, op := Op.move (Operand.tmp 15), type := 27, pos := "law.go:300", after := #[{ on := 3, ground := Ground.guard }], guard := some (3, true) }) (v := vo) rfl (by kernel_rfl) (by kernel_rfl) (by kernel_rfl) (fun _ _ _ h => h) ?_ hB2 ?_
  · (refine Or.inl ⟨by kernel_rfl, ?_⟩; intro w hSw; go_simp)
  simp only [Act.put, List.setIfInBounds_toArray, List.set_cons_zero, List.set_cons_succ]
  clear hB hK K
  have hB := hB2
  clear hB2
  refine wpAnyH_ready (rs := [6]) (by kernel_rfl) (by simp) ?_
  refine AllReadyH.cons rfl (fun K hK => ?_) AllReadyH.nil
  refine step_callG (by kernel_rfl) _ _ (.bool true) (HA2.out _ hB) (by kernel_rfl) (fun w6 hb6 => ?_)
  simp only [Act.put, List.setIfInBounds_toArray, List.set_cons_zero, List.set_cons_succ]
  have hB2 := (below_step hB hB.size hb6)
  refine hK.out _ _ hB2 (fun _ => ?_)
  show wpAnyH _ _ _ _ _ 27 #[true, true, true, true, true, true, true, false, false, false, false, false, false, false, false, false, false, false, false, false, false, false, false, false, false, false, false, false, false, false, false, false, false, false] { tmps := List.toArray (t0 :: t1 :: t2 :: t3 :: t4 :: t5 :: t6 :: t7 :: .pointer (some ⟨p, 0, none⟩) :: t9 :: .pointer (some ⟨q, 0, none⟩) :: t11 :: vs :: va :: vm :: vo :: t16 :: t17 :: t18 :: t19 :: t20 :: t21 :: t22 :: t23 :: t24 :: t25 :: t26 :: t27 :: t28 :: t29 :: t30 :: t31 :: t32 :: t33 :: t34 :: t35 :: t36 :: t37 :: t38 :: t39 :: t40 :: t41 :: t42 :: t43 :: t44 :: t45 :: t46 :: t47 :: t48 :: t49 :: t50 :: t51 :: t52 :: t53 :: t54 :: t55 :: t56 :: t57 :: t58 :: t59 :: t60 :: t61 :: t62 :: t63 :: t64 :: t65 :: t66 :: t67 :: t68 :: t69 :: t70 :: t71 :: t72 :: t73 :: t74 :: t75 :: t76 :: t77 :: t78 :: t79 :: t80 :: t81 :: t82 :: t83 :: t84 :: t85 :: t86 :: t87 :: t88 :: t89 :: t90 :: t91 :: t92 :: t93 :: t94 :: t95 :: t96 :: t97 :: t98 :: t99 :: vs :: vm :: .bool true :: .bool true :: va :: vo :: .bool true :: t107 :: t108 :: t109 :: t110 :: t111 :: t112 :: t113 :: t114 :: t115 :: t116 :: t117 :: t118 :: t119 :: t120 :: t121 :: t122 :: t123 :: t124 :: t125 :: t126 :: t127 :: t128 :: t129 :: t130 :: t131 :: t132 :: []), defers := [] } _
  refine wpAnyH_take (i := 7) (oi := { dst := some 107, op := Op.pick (Operand.tmp 103) (Operand.tmp 106) (Operand.const (Value.bool false)), type := 4, pos := "law.go:300", after := #[{ on := 3, ground := Ground.data }, { on := 6, ground := Ground.data }], guard := none }) (v := .bool true) rfl (by kernel_rfl) (by kernel_rfl) (by kernel_rfl) (fun _ _ _ h => h) ?_ hB2 ?_
  · (refine Or.inl ⟨by kernel_rfl, ?_⟩; intro w hSw; go_simp)
  simp only [Act.put, List.setIfInBounds_toArray, List.set_cons_zero, List.set_cons_succ]
  refine wpAnyH_take (i := 8) (oi := { dst := some 108, op := Op.move (Operand.tmp 107), type := 4, pos := "law.go:300", after := #[{ on := 7, ground := Ground.data }, { on := 6, ground := Ground.chain }], guard := none }) (v := .bool true) rfl (by kernel_rfl) (by kernel_rfl) (by kernel_rfl) (fun _ _ _ h => h) ?_ hB2 ?_
  · (refine Or.inl ⟨by kernel_rfl, ?_⟩; intro w hSw; go_simp)
  simp only [Act.put, List.setIfInBounds_toArray, List.set_cons_zero, List.set_cons_succ]
  refine wpAnyH_take (i := 9) (oi := { dst := some 109, op := Op.move (Operand.tmp 8), type := 26, pos := "law.go:300", after := #[{ on := 8, ground := Ground.guard }], guard := some (8, true) }) (v := .pointer (some ⟨p, 0, none⟩)) rfl (by kernel_rfl) (by kernel_rfl) (by kernel_rfl) (fun _ _ _ h => h) ?_ hB2 ?_
  · (refine Or.inl ⟨by kernel_rfl, ?_⟩; intro w hSw; go_simp)
  simp only [Act.put, List.setIfInBounds_toArray, List.set_cons_zero, List.set_cons_succ]
  refine wpAnyH_take (i := 11) (oi := { dst := some 111, op := Op.move (Operand.tmp 10), type := 26, pos := "law.go:300", after := #[{ on := 8, ground := Ground.guard }], guard := some (8, true) }) (v := .pointer (some ⟨q, 0, none⟩)) rfl (by kernel_rfl) (by kernel_rfl) (by kernel_rfl) (fun _ _ _ h => h) ?_ hB2 ?_
  · (refine Or.inl ⟨by kernel_rfl, ?_⟩; intro w hSw; go_simp)
  simp only [Act.put, List.setIfInBounds_toArray, List.set_cons_zero, List.set_cons_succ]
  clear hB hK K
  have hB := hB2
  clear hB2
  refine wpAnyH_ready (rs := [10]) (by kernel_rfl) (by simp) ?_
  refine AllReadyH.cons rfl (fun K hK => ?_) AllReadyH.nil
  refine step_callG (by kernel_rfl) _ _ (.bool rd) (HR1.out _ hB) (by kernel_rfl) (fun w6 hb6 => ?_)
  simp only [Act.put, List.setIfInBounds_toArray, List.set_cons_zero, List.set_cons_succ]
  have hB2 := (below_step hB hB.size hb6)
  refine hK.out _ _ hB2 (fun _ => ?_)
  show wpAnyH _ _ _ _ _ 22 #[true, true, true, true, true, true, true, true, true, true, true, true, false, false, false, false, false, false, false, false, false, false, false, false, false, false, false, false, false, false, false, false, false, false] { tmps := List.toArray (t0 :: t1 :: t2 :: t3 :: t4 :: t5 :: t6 :: t7 :: .pointer (some ⟨p, 0, none⟩) :: t9 :: .pointer (some ⟨q, 0, none⟩) :: t11 :: vs :: va :: vm :: vo :: t16 :: t17 :: t18 :: t19 :: t20 :: t21 :: t22 :: t23 :: t24 :: t25 :: t26 :: t27 :: t28 :: t29 :: t30 :: t31 :: t32 :: t33 :: t34 :: t35 :: t36 :: t37 :: t38 :: t39 :: t40 :: t41 :: t42 :: t43 :: t44 :: t45 :: t46 :: t47 :: t48 :: t49 :: t50 :: t51 :: t52 :: t53 :: t54 :: t55 :: t56 :: t57 :: t58 :: t59 :: t60 :: t61 :: t62 :: t63 :: t64 :: t65 :: t66 :: t67 :: t68 :: t69 :: t70 :: t71 :: t72 :: t73 :: t74 :: t75 :: t76 :: t77 :: t78 :: t79 :: t80 :: t81 :: t82 :: t83 :: t84 :: t85 :: t86 :: t87 :: t88 :: t89 :: t90 :: t91 :: t92 :: t93 :: t94 :: t95 :: t96 :: t97 :: t98 :: t99 :: vs :: vm :: .bool true :: .bool true :: va :: vo :: .bool true :: .bool true :: .bool true :: .pointer (some ⟨p, 0, none⟩) :: .bool rd :: .pointer (some ⟨q, 0, none⟩) :: t112 :: t113 :: t114 :: t115 :: t116 :: t117 :: t118 :: t119 :: t120 :: t121 :: t122 :: t123 :: t124 :: t125 :: t126 :: t127 :: t128 :: t129 :: t130 :: t131 :: t132 :: []), defers := [] } _
  clear hB hK K
  have hB := hB2
  clear hB2
  refine wpAnyH_ready (rs := [12]) (by kernel_rfl) (by simp) ?_
  refine AllReadyH.cons rfl (fun K hK => ?_) AllReadyH.nil
  refine step_callG (by kernel_rfl) _ _ (.bool rd) (HR2.out _ hB) (by kernel_rfl) (fun w6 hb6 => ?_)
  simp only [Act.put, List.setIfInBounds_toArray, List.set_cons_zero, List.set_cons_succ]
  have hB2 := (below_step hB hB.size hb6)
  refine hK.out _ _ hB2 (fun _ => ?_)
  show wpAnyH _ _ _ _ _ 21 #[true, true, true, true, true, true, true, true, true, true, true, true, true, false, false, false, false, false, false, false, false, false, false, false, false, false, false, false, false, false, false, false, false, false] { tmps := List.toArray (t0 :: t1 :: t2 :: t3 :: t4 :: t5 :: t6 :: t7 :: .pointer (some ⟨p, 0, none⟩) :: t9 :: .pointer (some ⟨q, 0, none⟩) :: t11 :: vs :: va :: vm :: vo :: t16 :: t17 :: t18 :: t19 :: t20 :: t21 :: t22 :: t23 :: t24 :: t25 :: t26 :: t27 :: t28 :: t29 :: t30 :: t31 :: t32 :: t33 :: t34 :: t35 :: t36 :: t37 :: t38 :: t39 :: t40 :: t41 :: t42 :: t43 :: t44 :: t45 :: t46 :: t47 :: t48 :: t49 :: t50 :: t51 :: t52 :: t53 :: t54 :: t55 :: t56 :: t57 :: t58 :: t59 :: t60 :: t61 :: t62 :: t63 :: t64 :: t65 :: t66 :: t67 :: t68 :: t69 :: t70 :: t71 :: t72 :: t73 :: t74 :: t75 :: t76 :: t77 :: t78 :: t79 :: t80 :: t81 :: t82 :: t83 :: t84 :: t85 :: t86 :: t87 :: t88 :: t89 :: t90 :: t91 :: t92 :: t93 :: t94 :: t95 :: t96 :: t97 :: t98 :: t99 :: vs :: vm :: .bool true :: .bool true :: va :: vo :: .bool true :: .bool true :: .bool true :: .pointer (some ⟨p, 0, none⟩) :: .bool rd :: .pointer (some ⟨q, 0, none⟩) :: .bool rd :: t113 :: t114 :: t115 :: t116 :: t117 :: t118 :: t119 :: t120 :: t121 :: t122 :: t123 :: t124 :: t125 :: t126 :: t127 :: t128 :: t129 :: t130 :: t131 :: t132 :: []), defers := [] } _
  refine wpAnyH_take (i := 13) (oi := { dst := some 113, op := Op.binOp BinOp.eql 4 (Operand.tmp 110) (Operand.tmp 112) 4, type := 4, pos := "law.go:300", after := #[{ on := 10, ground := Ground.data }, { on := 12, ground := Ground.data }, { on := 8, ground := Ground.guard }], guard := some (8, true) }) (v := .bool true) rfl (by kernel_rfl) (by kernel_rfl) (by kernel_rfl) (fun _ _ _ h => h) ?_ hB2 ?_
  · (refine Or.inl ⟨by kernel_rfl, ?_⟩; intro w hSw; have h1 := e1; have h2 := e2; have h3 := e3; go_simp)
  simp only [Act.put, List.setIfInBounds_toArray, List.set_cons_zero, List.set_cons_succ]
  refine wpAnyH_take (i := 14) (oi := { dst := some 114, op := Op.pick (Operand.tmp 108) (Operand.tmp 113) (Operand.const (Value.bool false)), type := 4, pos := "law.go:300", after := #[{ on := 8, ground := Ground.data }, { on := 13, ground := Ground.data }], guard := none }) (v := .bool true) rfl (by kernel_rfl) (by kernel_rfl) (by kernel_rfl) (fun _ _ _ h => h) ?_ hB2 ?_
  · (refine Or.inl ⟨by kernel_rfl, ?_⟩; intro w hSw; go_simp)
  simp only [Act.put, List.setIfInBounds_toArray, List.set_cons_zero, List.set_cons_succ]
  refine wpAnyH_take (i := 15) (oi := { dst := some 115, op := Op.move (Operand.tmp 114), type := 4, pos := "law.go:300", after := #[{ on := 14, ground := Ground.data }, { on := 12, ground := Ground.chain }], guard := none }) (v := .bool true) rfl (by kernel_rfl) (by kernel_rfl) (by kernel_rfl) (fun _ _ _ h => h) ?_ hB2 ?_
  · (refine Or.inl ⟨by kernel_rfl, ?_⟩; intro w hSw; go_simp)
  simp only [Act.put, List.setIfInBounds_toArray, List.set_cons_zero, List.set_cons_succ]
  refine wpAnyH_take (i := 16) (oi := { dst := some 116, op := Op.move (Operand.tmp 8), type := 26, pos := "law.go:300", after := #[{ on := 15, ground := Ground.guard }], guard := some (15, true) }) (v := .pointer (some ⟨p, 0, none⟩)) rfl (by kernel_rfl) (by kernel_rfl) (by kernel_rfl) (fun _ _ _ h => h) ?_ hB2 ?_
  · (refine Or.inl ⟨by kernel_rfl, ?_⟩; intro w hSw; go_simp)
  simp only [Act.put, List.setIfInBounds_toArray, List.set_cons_zero, List.set_cons_succ]
  refine wpAnyH_take (i := 17) (oi := { dst := some 117, op := Op.nilCheck (Operand.tmp 116), type := 0, pos := "law.go:300", after := #[{ on := 16, ground := Ground.data }, { on := 15, ground := Ground.guard }], guard := some (15, true) }) (v := .pointer (some ⟨p, 0, none⟩)) rfl (by kernel_rfl) (by kernel_rfl) (by kernel_rfl) (fun _ _ _ h => h) ?_ hB2 ?_
  · (refine Or.inl ⟨by kernel_rfl, ?_⟩; intro w hSw; have hz1 := Nat.lt_of_lt_of_le zp hSw.size; have hz2 := Nat.lt_of_lt_of_le zq hSw.size; go_simp)
  simp only [Act.put, List.setIfInBounds_toArray, List.set_cons_zero, List.set_cons_succ]
  refine wpAnyH_take (i := 18) (oi := { dst := some 118, op := Op.fieldAddr 65 (Operand.tmp 117) 0, type := 0, pos := "law.go:300", after := #[{ on := 17, ground := Ground.data }, { on := 15, ground := Ground.guard }], guard := some (15, true) }) (v := .pointer (some ⟨p, 0, none⟩)) rfl (by kernel_rfl) (by kernel_rfl) (by kernel_rfl) (fun _ _ _ h => h) ?_ hB2 ?_
  · (refine Or.inl ⟨by kernel_rfl, ?_⟩; intro w hSw; have hz1 := Nat.lt_of_lt_of_le zp hSw.size; have hz2 := Nat.lt_of_lt_of_le zq hSw.size; go_simp)
  simp only [Act.put, List.setIfInBounds_toArray, List.set_cons_zero, List.set_cons_succ]
  refine wpAnyH_take (i := 20) (oi := { dst := some 120, op := Op.move (Operand.tmp 10), type := 26, pos := "law.go:300", after := #[{ on := 15, ground := Ground.guard }], guard := some (15, true) }) (v := .pointer (some ⟨q, 0, none⟩)) rfl (by kernel_rfl) (by kernel_rfl) (by kernel_rfl) (fun _ _ _ h => h) ?_ hB2 ?_
  · (refine Or.inl ⟨by kernel_rfl, ?_⟩; intro w hSw; go_simp)
  simp only [Act.put, List.setIfInBounds_toArray, List.set_cons_zero, List.set_cons_succ]
  refine wpAnyH_take (i := 21) (oi := { dst := some 121, op := Op.nilCheck (Operand.tmp 120), type := 0, pos := "law.go:300", after := #[{ on := 20, ground := Ground.data }, { on := 15, ground := Ground.guard }], guard := some (15, true) }) (v := .pointer (some ⟨q, 0, none⟩)) rfl (by kernel_rfl) (by kernel_rfl) (by kernel_rfl) (fun _ _ _ h => h) ?_ hB2 ?_
  · (refine Or.inl ⟨by kernel_rfl, ?_⟩; intro w hSw; have hz1 := Nat.lt_of_lt_of_le zp hSw.size; have hz2 := Nat.lt_of_lt_of_le zq hSw.size; go_simp)
  simp only [Act.put, List.setIfInBounds_toArray, List.set_cons_zero, List.set_cons_succ]
  refine wpAnyH_take (i := 22) (oi := { dst := some 122, op := Op.fieldAddr 65 (Operand.tmp 121) 0, type := 0, pos := "law.go:300", after := #[{ on := 21, ground := Ground.data }, { on := 15, ground := Ground.guard }], guard := some (15, true) }) (v := .pointer (some ⟨q, 0, none⟩)) rfl (by kernel_rfl) (by kernel_rfl) (by kernel_rfl) (fun _ _ _ h => h) ?_ hB2 ?_
  · (refine Or.inl ⟨by kernel_rfl, ?_⟩; intro w hSw; have hz1 := Nat.lt_of_lt_of_le zp hSw.size; have hz2 := Nat.lt_of_lt_of_le zq hSw.size; go_simp)
  simp only [Act.put, List.setIfInBounds_toArray, List.set_cons_zero, List.set_cons_succ]
  clear hB hK K
  have hB := hB2
  clear hB2
  refine wpAnyH_ready (rs := [19]) (by kernel_rfl) (by simp) ?_
  refine AllReadyH.cons rfl (fun K hK => ?_) AllReadyH.nil
  refine step_callG (by kernel_rfl) _ _ (.int .i64 sc) (HS1.out _ hB) (by kernel_rfl) (fun w6 hb6 => ?_)
  simp only [Act.put, List.setIfInBounds_toArray, List.set_cons_zero, List.set_cons_succ]
  have hB2 := (below_step hB hB.size hb6)
  refine hK.out _ _ hB2 (fun _ => ?_)
  show wpAnyH _ _ _ _ _ 11 #[true, true, true, true, true, true, true, true, true, true, true, true, true, true, true, true, true, true, true, true, true, true, true, false, false, false, false, false, false, false, false, false, false, false] { tmps := List.toArray (t0 :: t1 :: t2 :: t3 :: t4 :: t5 :: t6 :: t7 :: .pointer (some ⟨p, 0, none⟩) :: t9 :: .pointer (some ⟨q, 0, none⟩) :: t11 :: vs :: va :: vm :: vo :: t16 :: t17 :: t18 :: t19 :: t20 :: t21 :: t22 :: t23 :: t24 :: t25 :: t26 :: t27 :: t28 :: t29 :: t30 :: t31 :: t32 :: t33 :: t34 :: t35 :: t36 :: t37 :: t38 :: t39 :: t40 :: t41 :: t42 :: t43 :: t44 :: t45 :: t46 :: t47 :: t48 :: t49 :: t50 :: t51 :: t52 :: t53 :: t54 :: t55 :: t56 :: t57 :: t58 :: t59 :: t60 :: t61 :: t62 :: t63 :: t64 :: t65 :: t66 :: t67 :: t68 :: t69 :: t70 :: t71 :: t72 :: t73 :: t74 :: t75 :: t76 :: t77 :: t78 :: t79 :: t80 :: t81 :: t82 :: t83 :: t84 :: t85 :: t86 :: t87 :: t88 :: t89 :: t90 :: t91 :: t92 :: t93 :: t94 :: t95 :: t96 :: t97 :: t98 :: t99 :: vs :: vm :: .bool true :: .bool true :: va :: vo :: .bool true :: .bool true :: .bool true :: .pointer (some ⟨p, 0, none⟩) :: .bool rd :: .pointer (some ⟨q, 0, none⟩) :: .bool rd :: .bool true :: .bool true :: .bool true :: .pointer (some ⟨p, 0, none⟩) :: .pointer (some ⟨p, 0, none⟩) :: .pointer (some ⟨p, 0, none⟩) :: .int .i64 sc :: .pointer (some ⟨q, 0, none⟩) :: .pointer (some ⟨q, 0, none⟩) :: .pointer (some ⟨q, 0, none⟩) :: t123 :: t124 :: t125 :: t126 :: t127 :: t128 :: t129 :: t130 :: t131 :: t132 :: []), defers := [] } _
  clear hB hK K
  have hB := hB2
  clear hB2
  refine wpAnyH_ready (rs := [23]) (by kernel_rfl) (by simp) ?_
  refine AllReadyH.cons rfl (fun K hK => ?_) AllReadyH.nil
  refine step_callG (by kernel_rfl) _ _ (.int .i64 sc) (HS2.out _ hB) (by kernel_rfl) (fun w6 hb6 => ?_)
  simp only [Act.put, List.setIfInBounds_toArray, List.set_cons_zero, List.set_cons_succ]
  have hB2 := (below_step hB hB.size hb6)
  refine hK.out _ _ hB2 (fun _ => ?_)
  show wpAnyH _ _ _ _ _ 10 #[true, true, true, true, true, true, true, true, true, true, true, true, true, true, true, true, true, true, true, true, true, true, true, true, false, false, false, false, false, false, false, false, false, false] { tmps := List.toArray (t0 :: t1 :: t2 :: t3 :: t4 :: t5 :: t6 :: t7 :: .pointer (some ⟨p, 0, none⟩) :: t9 :: .pointer (some ⟨q, 0, none⟩) :: t11 :: vs :: va :: vm :: vo :: t16 :: t17 :: t18 :: t19 :: t20 :: t21 :: t22 :: t23 :: t24 :: t25 :: t26 :: t27 :: t28 :: t29 :: t30 :: t31 :: t32 :: t33 :: t34 :: t35 :: t36 :: t37 :: t38 :: t39 :: t40 :: t41 :: t42 :: t43 :: t44 :: t45 :: t46 :: t47 :: t48 :: t49 :: t50 :: t51 :: t52 :: t53 :: t54 :: t55 :: t56 :: t57 :: t58 :: t59 :: t60 :: t61 :: t62 :: t63 :: t64 :: t65 :: t66 :: t67 :: t68 :: t69 :: t70 :: t71 :: t72 :: t73 :: t74 :: t75 :: t76 :: t77 :: t78 :: t79 :: t80 :: t81 :: t82 :: t83 :: t84 :: t85 :: t86 :: t87 :: t88 :: t89 :: t90 :: t91 :: t92 :: t93 :: t94 :: t95 :: t96 :: t97 :: t98 :: t99 :: vs :: vm :: .bool true :: .bool true :: va :: vo :: .bool true :: .bool true :: .bool true :: .pointer (some ⟨p, 0, none⟩) :: .bool rd :: .pointer (some ⟨q, 0, none⟩) :: .bool rd :: .bool true :: .bool true :: .bool true :: .pointer (some ⟨p, 0, none⟩) :: .pointer (some ⟨p, 0, none⟩) :: .pointer (some ⟨p, 0, none⟩) :: .int .i64 sc :: .pointer (some ⟨q, 0, none⟩) :: .pointer (some ⟨q, 0, none⟩) :: .pointer (some ⟨q, 0, none⟩) :: .int .i64 sc :: t124 :: t125 :: t126 :: t127 :: t128 :: t129 :: t130 :: t131 :: t132 :: []), defers := [] } _
  refine wpAnyH_take (i := 24) (oi := { dst := some 124, op := Op.binOp BinOp.eql 3 (Operand.tmp 119) (Operand.tmp 123) 3, type := 4, pos := "law.go:300", after := #[{ on := 19, ground := Ground.data }, { on := 23, ground := Ground.data }, { on := 15, ground := Ground.guard }], guard := some (15, true) }) (v := .bool true) rfl (by kernel_rfl) (by kernel_rfl) (by kernel_rfl) (fun _ _ _ h => h) ?_ hB2 ?_
  · (refine Or.inl ⟨by kernel_rfl, ?_⟩; intro w hSw; have h1 := e1; have h2 := e2; have h3 := e3; go_simp)
  simp only [Act.put, List.setIfInBounds_toArray, List.set_cons_zero, List.set_cons_succ]
  refine wpAnyH_take (i := 25) (oi := { dst := some 125, op := Op.pick (Operand.tmp 115) (Operand.tmp 124) (Operand.const (Value.bool false)), type := 4, pos := "law.go:300", after := #[{ on := 15, ground := Ground.data }, { on := 24, ground := Ground.data }], guard := none }) (v := .bool true) rfl (by kernel_rfl) (by kernel_rfl) (by kernel_rfl) (fun _ _ _ h => h) ?_ hB2 ?_
  · (refine Or.inl ⟨by kernel_rfl, ?_⟩; intro w hSw; go_simp)
  simp only [Act.put, List.setIfInBounds_toArray, List.set_cons_zero, List.set_cons_succ]
  refine wpAnyH_take (i := 26) (oi := { dst := some 126, op := Op.move (Operand.tmp 125), type := 4, pos := "law.go:300", after := #[{ on := 25, ground := Ground.data }, { on := 23, ground := Ground.chain }], guard := none }) (v := .bool true) rfl (by kernel_rfl) (by kernel_rfl) (by kernel_rfl) (fun _ _ _ h => h) ?_ hB2 ?_
  · (refine Or.inl ⟨by kernel_rfl, ?_⟩; intro w hSw; go_simp)
  simp only [Act.put, List.setIfInBounds_toArray, List.set_cons_zero, List.set_cons_succ]
  refine wpAnyH_take (i := 27) (oi := { dst := some 127, op := Op.move (Operand.tmp 8), type := 26, pos := "law.go:300", after := #[{ on := 26, ground := Ground.guard }], guard := some (26, true) }) (v := .pointer (some ⟨p, 0, none⟩)) rfl (by kernel_rfl) (by kernel_rfl) (by kernel_rfl) (fun _ _ _ h => h) ?_ hB2 ?_
  · (refine Or.inl ⟨by kernel_rfl, ?_⟩; intro w hSw; go_simp)
  simp only [Act.put, List.setIfInBounds_toArray, List.set_cons_zero, List.set_cons_succ]
  refine wpAnyH_take (i := 29) (oi := { dst := some 129, op := Op.move (Operand.tmp 10), type := 26, pos := "law.go:300", after := #[{ on := 26, ground := Ground.guard }], guard := some (26, true) }) (v := .pointer (some ⟨q, 0, none⟩)) rfl (by kernel_rfl) (by kernel_rfl) (by kernel_rfl) (fun _ _ _ h => h) ?_ hB2 ?_
  · (refine Or.inl ⟨by kernel_rfl, ?_⟩; intro w hSw; go_simp)
  simp only [Act.put, List.setIfInBounds_toArray, List.set_cons_zero, List.set_cons_succ]
  clear hB hK K
  have hB := hB2
  clear hB2
  refine wpAnyH_ready (rs := [28]) (by kernel_rfl) (by simp) ?_
  refine AllReadyH.cons rfl (fun K hK => ?_) AllReadyH.nil
  refine step_callG (by kernel_rfl) _ _ (.int .u32 (ht : Int)) (HT1.out _ hB) (by kernel_rfl) (fun w6 hb6 => ?_)
  simp only [Act.put, List.setIfInBounds_toArray, List.set_cons_zero, List.set_cons_succ]
  have hB2 := (below_step hB hB.size hb6)
  refine hK.out _ _ hB2 (fun _ => ?_)
  show wpAnyH _ _ _ _ _ 4 #[true, true, true, true, true, true, true, true, true, true, true, true, true, true, true, true, true, true, true, true, true, true, true, true, true, true, true, true, true, true, false, false, false, false] { tmps := List.toArray (t0 :: t1 :: t2 :: t3 :: t4 :: t5 :: t6 :: t7 :: .pointer (some ⟨p, 0, none⟩) :: t9 :: .pointer (some ⟨q, 0, none⟩) :: t11 :: vs :: va :: vm :: vo :: t16 :: t17 :: t18 :: t19 :: t20 :: t21 :: t22 :: t23 :: t24 :: t25 :: t26 :: t27 :: t28 :: t29 :: t30 :: t31 :: t32 :: t33 :: t34 :: t35 :: t36 :: t37 :: t38 :: t39 :: t40 :: t41 :: t42 :: t43 :: t44 :: t45 :: t46 :: t47 :: t48 :: t49 :: t50 :: t51 :: t52 :: t53 :: t54 :: t55 :: t56 :: t57 :: t58 :: t59 :: t60 :: t61 :: t62 :: t63 :: t64 :: t65 :: t66 :: t67 :: t68 :: t69 :: t70 :: t71 :: t72 :: t73 :: t74 :: t75 :: t76 :: t77 :: t78 :: t79 :: t80 :: t81 :: t82 :: t83 :: t84 :: t85 :: t86 :: t87 :: t88 :: t89 :: t90 :: t91 :: t92 :: t93 :: t94 :: t95 :: t96 :: t97 :: t98 :: t99 :: vs :: vm :: .bool true :: .bool true :: va :: vo :: .bool true :: .bool true :: .bool true :: .pointer (some ⟨p, 0, none⟩) :: .bool rd :: .pointer (some ⟨q, 0, none⟩) :: .bool rd :: .bool true :: .bool true :: .bool true :: .pointer (some ⟨p, 0, none⟩) :: .pointer (some ⟨p, 0, none⟩) :: .pointer (some ⟨p, 0, none⟩) :: .int .i64 sc :: .pointer (some ⟨q, 0, none⟩) :: .pointer (some ⟨q, 0, none⟩) :: .pointer (some ⟨q, 0, none⟩) :: .int .i64 sc :: .bool true :: .bool true :: .bool true :: .pointer (some ⟨p, 0, none⟩) :: .int .u32 (ht : Int) :: .pointer (some ⟨q, 0, none⟩) :: t130 :: t131 :: t132 :: []), defers := [] } _
  clear hB hK K
  have hB := hB2
  clear hB2
  refine wpAnyH_ready (rs := [30]) (by kernel_rfl) (by simp) ?_
  refine AllReadyH.cons rfl (fun K hK => ?_) AllReadyH.nil
  refine step_callG (by kernel_rfl) _ _ (.int .u32 (ht : Int)) (HT2.out _ hB) (by kernel_rfl) (fun w6 hb6 => ?_)
  simp only [Act.put, List.setIfInBounds_toArray, List.set_cons_zero, List.set_cons_succ]
  have hB2 := (below_step hB hB.size hb6)
  refine hK.out _ _ hB2 (fun _ => ?_)
  show wpAnyH _ _ _ _ _ 3 #[true, true, true, true, true, true, true, true, true, true, true, true, true, true, true, true, true, true, true, true, true, true, true, true, true, true, true, true, true, true, true, false, false, false] { tmps := List.toArray (t0 :: t1 :: t2 :: t3 :: t4 :: t5 :: t6 :: t7 :: .pointer (some ⟨p, 0, none⟩) :: t9 :: .pointer (some ⟨q, 0, none⟩) :: t11 :: vs :: va :: vm :: vo :: t16 :: t17 :: t18 :: t19 :: t20 :: t21 :: t22 :: t23 :: t24 :: t25 :: t26 :: t27 :: t28 :: t29 :: t30 :: t31 :: t32 :: t33 :: t34 :: t35 :: t36 :: t37 :: t38 :: t39 :: t40 :: t41 :: t42 :: t43 :: t44 :: t45 :: t46 :: t47 :: t48 :: t49 :: t50 :: t51 :: t52 :: t53 :: t54 :: t55 :: t56 :: t57 :: t58 :: t59 :: t60 :: t61 :: t62 :: t63 :: t64 :: t65 :: t66 :: t67 :: t68 :: t69 :: t70 :: t71 :: t72 :: t73 :: t74 :: t75 :: t76 :: t77 :: t78 :: t79 :: t80 :: t81 :: t82 :: t83 :: t84 :: t85 :: t86 :: t87 :: t88 :: t89 :: t90 :: t91 :: t92 :: t93 :: t94 :: t95 :: t96 :: t97 :: t98 :: t99 :: vs :: vm :: .bool true :: .bool true :: va :: vo :: .bool true :: .bool true :: .bool true :: .pointer (some ⟨p, 0, none⟩) :: .bool rd :: .pointer (some ⟨q, 0, none⟩) :: .bool rd :: .bool true :: .bool true :: .bool true :: .pointer (some ⟨p, 0, none⟩) :: .pointer (some ⟨p, 0, none⟩) :: .pointer (some ⟨p, 0, none⟩) :: .int .i64 sc :: .pointer (some ⟨q, 0, none⟩) :: .pointer (some ⟨q, 0, none⟩) :: .pointer (some ⟨q, 0, none⟩) :: .int .i64 sc :: .bool true :: .bool true :: .bool true :: .pointer (some ⟨p, 0, none⟩) :: .int .u32 (ht : Int) :: .pointer (some ⟨q, 0, none⟩) :: .int .u32 (ht : Int) :: t131 :: t132 :: []), defers := [] } _
  refine wpAnyH_take (i := 31) (oi := { dst := some 131, op := Op.binOp BinOp.eql 30 (Operand.tmp 128) (Operand.tmp 130) 30, type := 4, pos := "law.go:300", after := #[{ on := 28, ground := Ground.data }, { on := 30, ground := Ground.data }, { on := 26, ground := Ground.guard }], guard := some (26, true) }) (v := .bool true) rfl (by kernel_rfl) (by kernel_rfl) (by kernel_rfl) (fun _ _ _ h => h) ?_ hB2 ?_
  · (refine Or.inl ⟨by kernel_rfl, ?_⟩; intro w hSw; have h1 := e1; have h2 := e2; have h3 := e3; go_simp)
  simp only [Act.put, List.setIfInBounds_toArray, List.set_cons_zero, List.set_cons_succ]
  refine wpAnyH_take (i := 32) (oi := { dst := some 132, op := Op.pick (Operand.tmp 126) (Operand.tmp 131) (Operand.const (Value.bool false)), type := 4, pos := "law.go:300", after := #[{ on := 26, ground := Ground.data }, { on := 31, ground := Ground.data }], guard := none }) (v := .bool true) rfl (by kernel_rfl) (by kernel_rfl) (by kernel_rfl) (fun _ _ _ h => h) ?_ hB2 ?_
  · (refine Or.inl ⟨by kernel_rfl, ?_⟩; intro w hSw; go_simp)
  simp only [Act.put, List.setIfInBounds_toArray, List.set_cons_zero, List.set_cons_succ]
  refine wpAnyH_take (i := 33) (oi := { dst := some 4, op := Op.assign (Operand.tmp 132), type := 4, pos := "law.go:300", after := #[{ on := 32, ground := Ground.data }, { on := 30, ground := Ground.chain }, { on := 0, ground := Ground.phase }, { on := 1, ground := Ground.phase }, { on := 2, ground := Ground.phase }, { on := 3, ground := Ground.phase }, { on := 4, ground := Ground.phase }, { on := 5, ground := Ground.phase }, { on := 6, ground := Ground.phase }, { on := 7, ground := Ground.phase }, { on := 8, ground := Ground.phase }, { on := 9, ground := Ground.phase }, { on := 10, ground := Ground.phase }, { on := 11, ground := Ground.phase }, { on := 12, ground := Ground.phase }, { on := 13, ground := Ground.phase }, { on := 14, ground := Ground.phase }, { on := 15, ground := Ground.phase }, { on := 16, ground := Ground.phase }, { on := 17, ground := Ground.phase }, { on := 18, ground := Ground.phase }, { on := 19, ground := Ground.phase }, { on := 20, ground := Ground.phase }, { on := 21, ground := Ground.phase }, { on := 22, ground := Ground.phase }, { on := 23, ground := Ground.phase }, { on := 24, ground := Ground.phase }, { on := 25, ground := Ground.phase }, { on := 26, ground := Ground.phase }, { on := 27, ground := Ground.phase }, { on := 28, ground := Ground.phase }, { on := 29, ground := Ground.phase }, { on := 30, ground := Ground.phase }, { on := 31, ground := Ground.phase }, { on := 32, ground := Ground.phase }], guard := none }) (v := .bool true) rfl (by kernel_rfl) (by kernel_rfl) (by kernel_rfl) (fun _ _ _ h => h) ?_ hB2 ?_
  · (refine Or.inl ⟨by kernel_rfl, ?_⟩; intro w hSw; go_simp)
  simp only [Act.put, List.setIfInBounds_toArray, List.set_cons_zero, List.set_cons_succ]
  clear hB hK K
  have hB := hB2
  clear hB2
  refine wpAnyH_done (by kernel_rfl) ?_ _
  refine NoPanic.normal ?_
  have hEnd := HQ.out (vs) (vm) (.bool true) (.bool true) (va) (vo) (.bool true) (.bool true) (.bool true) (.pointer (some ⟨p, 0, none⟩)) (.bool rd) (.pointer (some ⟨q, 0, none⟩)) (.bool rd) (.bool true) (.bool true) (.bool true) (.pointer (some ⟨p, 0, none⟩)) (.pointer (some ⟨p, 0, none⟩)) (.pointer (some ⟨p, 0, none⟩)) (.int .i64 sc) (.pointer (some ⟨q, 0, none⟩)) (.pointer (some ⟨q, 0, none⟩)) (.pointer (some ⟨q, 0, none⟩)) (.int .i64 sc) (.bool true) (.bool true) (.bool true) (.pointer (some ⟨p, 0, none⟩)) (.int .u32 (ht : Int)) (.pointer (some ⟨q, 0, none⟩)) (.int .u32 (ht : Int)) (.bool true) (.bool true) _ hB
  exact hEnd

end Go.Proofs.YtjnbdajdllpchaaDoor
namespace Go.Proofs.YtjnbdajdllpchaaDoor
open Go.RowKit
set_option linter.unusedVariables false
set_option linter.unusedSimpArgs false
set_option maxRecDepth 100000
theorem hs_loadW {ops : Array Oper} {rest : List Oper} {o : Oper} {a : Act} {w : World} {Q : Act → Prop} (hw : Region.wanted o (yielded ops a.tmps) = true) (ty : TypeId) (k : Operand) (ho : o.op = .load ty k) (b off : Nat) (hev : a.eval k = .pointer (some ⟨b, off, none⟩))
    (cs : List Value) (A : Array Value) (hA : cs.toArray = A) (d : TypeDesc) (hr : w.rangeAt b off cs) (hu : Tryd.prog.underlying ty = some d) (hd : d.isRow = true) (hi : (Tryd.prog.info? ty).map (·.size) = some cs.length)
    (h : ∀ K : Act → Prop, (∀ b, Sh (wpStill Tryd.prog ops w Q rest b) → K b) → K (a.put o.dst (.agg A))) : Sh (wpStill Tryd.prog ops w Q (o :: rest) a) := by
  subst hA
  refine hs_want hw (fun K hK => ?_)
  have hrun := run_loadAt_mid (P := Tryd.prog) w b off ty cs d hr hu hd hi
  unfold Oper.still execOp
  simp only [ho, hev, Sem.run_bind, hrun, Result.andThen_ok]
  exact (Oper.stillUpon_value o a w K _).mpr (h K hK)
set_option maxHeartbeats 8000000 in
theorem alikeR (ba bb oa ob n ca cb k na nb la lb : Nat) (kd : Int) (nc : Nat) (sa sb ha hb : Option Addr) (cna cnb cha chb nm nh : Nat) (ST : Array Value) (V : World) (t2 t3 t4 t6 t7 t8 t9 t10 t11 t12 t13 t14 t15 t16 t17 t18 t19 t20 t21 t22 t23 t24 t25 t26 t27 t28 t29 t30 t31 t32 t33 t34 t35 t36 t37 t38 t39 t40 t41 t42 t43 t44 t45 t46 t47 t48 t49 t50 t51 t52 t53 t54 t55 t56 t57 t58 t59 t60 t61 t62 t63 t64 t65 t66 t67 t68 t69 t70 t71 t72 t73 t74 t75 t76 t77 t78 t79 t80 t81 t82 t83 : Value) (Q : Exit → Act → World → Prop)
    (hk : (k : Int) < (n : Int)) (za : ba < V.heap.size) (zb : bb < V.heap.size)
    (a0 : V.cell? ⟨ba, oa + k * 106, none⟩ = some (.int .i64 kd)) (b0 : V.cell? ⟨bb, ob + k * 106, none⟩ = some (.int .i64 kd))
    (a1 : V.cell? ⟨ba, oa + k * 106 + 1, none⟩ = some (.int .u64 (nc : Int))) (b1 : V.cell? ⟨bb, ob + k * 106 + 1, none⟩ = some (.int .u64 (nc : Int)))
    (a3 : V.cell? ⟨ba, oa + k * 106 + 3, none⟩ = some (.slice sa nm cna)) (b3 : V.cell? ⟨bb, ob + k * 106 + 3, none⟩ = some (.slice sb nm cnb))
    (a5 : V.cell? ⟨ba, oa + k * 106 + 36, none⟩ = some (.slice ha nh cha)) (b5 : V.cell? ⟨bb, ob + k * 106 + 36, none⟩ = some (.slice hb nh chb))
    (HSa : Hid (V.drew.rangeAt ba (oa + k * 106 + 4) ST.toList)) (HSb : Hid (V.drew.rangeAt bb (ob + k * 106 + 4) ST.toList)) (HSL : Hid ((Tryd.prog.info? 50).map (·.size) = some ST.toList.length))
    (hgd : ∀ (a b : Operand) W, (eqGuard .neq 50 a b (.agg ST) (.agg ST)).run Tryd.prog W = .ok () W) (hbn : ∀ W, (binOp .neq 50 (.agg ST) (.agg ST)).run Tryd.prog W = .ok (.bool false) W)
    (HQ : Hid (∀ (x16 x17 x18 x19 x20 x21 x22 x23 x24 x25 x26 x27 x28 x29 x30 x31 x32 x33 x34 x35 x36 x37 x38 x39 x40 x41 x42 x43 x44 x45 x46 x47 x48 x49 x50 x51 x52 x53 x54 x55 x56 x57 x58 x59 x60 x61 x62 x63 x64 x65 x66 x67 x68 x69 x70 x71 x72 x73 x74 x75 x76 x77 x78 x79 x80 x81 : Value)  , Q .normal { tmps := List.toArray (.slice (some ⟨ba, oa, none⟩) n ca :: .slice (some ⟨bb, ob, none⟩) n cb :: t2 :: t3 :: t4 :: .int .i64 (k : Int) :: t6 :: t7 :: t8 :: t9 :: t10 :: t11 :: t12 :: t13 :: t14 :: t15 :: x16 :: x17 :: x18 :: x19 :: x20 :: x21 :: x22 :: x23 :: x24 :: x25 :: x26 :: x27 :: x28 :: x29 :: x30 :: x31 :: x32 :: x33 :: x34 :: x35 :: x36 :: x37 :: x38 :: x39 :: x40 :: x41 :: x42 :: x43 :: x44 :: x45 :: x46 :: x47 :: x48 :: x49 :: x50 :: x51 :: x52 :: x53 :: x54 :: x55 :: x56 :: x57 :: x58 :: x59 :: x60 :: x61 :: x62 :: x63 :: x64 :: x65 :: x66 :: x67 :: x68 :: x69 :: x70 :: x71 :: x72 :: x73 :: x74 :: x75 :: x76 :: x77 :: x78 :: x79 :: x80 :: x81 :: .bool false :: t83 :: []), defers := [] } V.drew)) :
    Code.wp Tryd.prog (Code.region 6 #[{ dst := some 16, op := Op.move (Operand.tmp 0), type := 27, pos := "law.go:129", after := #[], guard := none },
{ dst := some 17, op := Op.move (Operand.tmp 5), type := 3, pos := "law.go:129", after := #[], guard := none },
{ dst := some 18, op := Op.indexAddr 27 (Operand.tmp 16) (Operand.tmp 17), type := 0, pos := "law.go:129", after := #[{ on := 0, ground := Ground.data }, { on := 1, ground := Ground.data }], guard := none },
{ dst := some 19, op := Op.fieldAddr 58 (Operand.tmp 18) 0, type := 0, pos := "law.go:129", after := #[{ on := 2, ground := Ground.data }], guard := none },
{ dst := some 20, op := Op.load 3 (Operand.tmp 19), type := 3, pos := "law.go:129", after := #[{ on := 3, ground := Ground.data }], guard := none },
{ dst := some 21, op := Op.move (Operand.tmp 1), type := 27, pos := "law.go:129", after := #[], guard := none },
{ dst := some 22, op := Op.move (Operand.tmp 5), type := 3, pos := "law.go:129", after := #[], guard := none },
{ dst := some 23, op := Op.indexAddr 27 (Operand.tmp 21) (Operand.tmp 22), type := 0, pos := "law.go:129", after := #[{ on := 5, ground := Ground.data }, { on := 6, ground := Ground.data }], guard := none },
{ dst := some 24, op := Op.fieldAddr 58 (Operand.tmp 23) 0, type := 0, pos := "law.go:129", after := #[{ on := 7, ground := Ground.data }], guard := none },
{ dst := some 25, op := Op.load 3 (Operand.tmp 24), type := 3, pos := "law.go:129", after := #[{ on := 8, ground := Ground.data }], guard := none },
{ dst := some 26, op := Op.binOp BinOp.neq 3 (Operand.tmp 20) (Operand.tmp 25) 3, type := 4, pos := "law.go:129", after := #[{ on := 4, ground := Ground.data }, { on := 9, ground := Ground.data }], guard := none },
{ dst := some 27, op := Op.move (Operand.tmp 26), type := 4, pos := "law.go:129", after := #[{ on := 10, ground := Ground.data }], guard := none },
{ dst := some 28, op := Op.move (Operand.tmp 0), type := 27, pos := "law.go:129", after := #[{ on := 11, ground := Ground.guard }], guard := some (11, false) },
{ dst := some 29, op := Op.move (Operand.tmp 5), type := 3, pos := "law.go:129", after := #[{ on := 11, ground := Ground.guard }], guard := some (11, false) },
{ dst := some 30, op := Op.indexAddr 27 (Operand.tmp 28) (Operand.tmp 29), type := 0, pos := "law.go:129", after := #[{ on := 12, ground := Ground.data }, { on := 13, ground := Ground.data }, { on := 11, ground := Ground.guard }], guard := some (11, false) },
{ dst := some 31, op := Op.fieldAddr 58 (Operand.tmp 30) 1, type := 0, pos := "law.go:129", after := #[{ on := 14, ground := Ground.data }, { on := 11, ground := Ground.guard }], guard := some (11, false) },
{ dst := some 32, op := Op.load 22 (Operand.tmp 31), type := 22, pos := "law.go:129", after := #[{ on := 15, ground := Ground.data }, { on := 11, ground := Ground.guard }], guard := some (11, false) },
{ dst := some 33, op := Op.move (Operand.tmp 1), type := 27, pos := "law.go:129", after := #[{ on := 11, ground := Ground.guard }], guard := some (11, false) },
{ dst := some 34, op := Op.move (Operand.tmp 5), type := 3, pos := "law.go:129", after := #[{ on := 11, ground := Ground.guard }], guard := some (11, false) },
{ dst := some 35, op := Op.indexAddr 27 (Operand.tmp 33) (Operand.tmp 34), type := 0, pos := "law.go:129", after := #[{ on := 17, ground := Ground.data }, { on := 18, ground := Ground.data }, { on := 11, ground := Ground.guard }], guard := some (11, false) },
{ dst := some 36, op := Op.fieldAddr 58 (Operand.tmp 35) 1, type := 0, pos := "law.go:129", after := #[{ on := 19, ground := Ground.data }, { on := 11, ground := Ground.guard }], guard := some (11, false) },
{ dst := some 37, op := Op.load 22 (Operand.tmp 36), type := 22, pos := "law.go:129", after := #[{ on := 20, ground := Ground.data }, { on := 11, ground := Ground.guard }], guard := some (11, false) },
{ dst := some 38, op := Op.binOp BinOp.neq 22 (Operand.tmp 32) (Operand.tmp 37) 22, type := 4, pos := "law.go:129", after := #[{ on := 16, ground := Ground.data }, { on := 21, ground := Ground.data }, { on := 11, ground := Ground.guard }], guard := some (11, false) },
{ dst := some 39, op := Op.pick (Operand.tmp 27) (Operand.const (Value.bool true)) (Operand.tmp 38), type := 4, pos := "law.go:129", after := #[{ on := 11, ground := Ground.data }, { on := 22, ground := Ground.data }], guard := none },
{ dst := some 40, op := Op.move (Operand.tmp 39), type := 4, pos := "law.go:129", after := #[{ on := 23, ground := Ground.data }, { on := 11, ground := Ground.chain }], guard := none },
{ dst := some 41, op := Op.move (Operand.tmp 0), type := 27, pos := "law.go:129", after := #[{ on := 24, ground := Ground.guard }], guard := some (24, false) },
{ dst := some 42, op := Op.move (Operand.tmp 5), type := 3, pos := "law.go:129", after := #[{ on := 24, ground := Ground.guard }], guard := some (24, false) },
{ dst := some 43, op := Op.indexAddr 27 (Operand.tmp 41) (Operand.tmp 42), type := 0, pos := "law.go:129", after := #[{ on := 25, ground := Ground.data }, { on := 26, ground := Ground.data }, { on := 24, ground := Ground.guard }], guard := some (24, false) },
{ dst := some 44, op := Op.fieldAddr 58 (Operand.tmp 43) 4, type := 0, pos := "law.go:129", after := #[{ on := 27, ground := Ground.data }, { on := 24, ground := Ground.guard }], guard := some (24, false) },
{ dst := some 45, op := Op.load 50 (Operand.tmp 44), type := 50, pos := "law.go:129", after := #[{ on := 28, ground := Ground.data }, { on := 24, ground := Ground.guard }], guard := some (24, false) },
{ dst := some 46, op := Op.move (Operand.tmp 1), type := 27, pos := "law.go:129", after := #[{ on := 24, ground := Ground.guard }], guard := some (24, false) },
{ dst := some 47, op := Op.move (Operand.tmp 5), type := 3, pos := "law.go:129", after := #[{ on := 24, ground := Ground.guard }], guard := some (24, false) },
{ dst := some 48, op := Op.indexAddr 27 (Operand.tmp 46) (Operand.tmp 47), type := 0, pos := "law.go:129", after := #[{ on := 30, ground := Ground.data }, { on := 31, ground := Ground.data }, { on := 24, ground := Ground.guard }], guard := some (24, false) },
{ dst := some 49, op := Op.fieldAddr 58 (Operand.tmp 48) 4, type := 0, pos := "law.go:129", after := #[{ on := 32, ground := Ground.data }, { on := 24, ground := Ground.guard }], guard := some (24, false) },
{ dst := some 50, op := Op.load 50 (Operand.tmp 49), type := 50, pos := "law.go:129", after := #[{ on := 33, ground := Ground.data }, { on := 24, ground := Ground.guard }], guard := some (24, false) },
{ dst := some 51, op := Op.binOp BinOp.neq 50 (Operand.tmp 45) (Operand.tmp 50) 50, type := 4, pos := "law.go:129", after := #[{ on := 29, ground := Ground.data }, { on := 34, ground := Ground.data }, { on := 24, ground := Ground.guard }], guard := some (24, false) },
{ dst := some 52, op := Op.pick (Operand.tmp 40) (Operand.const (Value.bool true)) (Operand.tmp 51), type := 4, pos := "law.go:129", after := #[{ on := 24, ground := Ground.data }, { on := 35, ground := Ground.data }], guard := none },
{ dst := some 53, op := Op.move (Operand.tmp 52), type := 4, pos := "law.go:129", after := #[{ on := 36, ground := Ground.data }, { on := 24, ground := Ground.chain }], guard := none },
{ dst := some 54, op := Op.move (Operand.tmp 0), type := 27, pos := "law.go:129", after := #[{ on := 37, ground := Ground.guard }], guard := some (37, false) },
{ dst := some 55, op := Op.move (Operand.tmp 5), type := 3, pos := "law.go:129", after := #[{ on := 37, ground := Ground.guard }], guard := some (37, false) },
{ dst := some 56, op := Op.indexAddr 27 (Operand.tmp 54) (Operand.tmp 55), type := 0, pos := "law.go:129", after := #[{ on := 38, ground := Ground.data }, { on := 39, ground := Ground.data }, { on := 37, ground := Ground.guard }], guard := some (37, false) },
{ dst := some 57, op := Op.fieldAddr 58 (Operand.tmp 56) 3, type := 0, pos := "law.go:129", after := #[{ on := 40, ground := Ground.data }, { on := 37, ground := Ground.guard }], guard := some (37, false) },
{ dst := some 58, op := Op.load 48 (Operand.tmp 57), type := 48, pos := "law.go:129", after := #[{ on := 41, ground := Ground.data }, { on := 37, ground := Ground.guard }], guard := some (37, false) },
{ dst := some 59, op := Op.call { callee := Callee.builtin Builtin.len, args := #[Operand.tmp 58], argTypes := #[48] }, type := 3, pos := "law.go:129", after := #[{ on := 42, ground := Ground.data }, { on := 37, ground := Ground.guard }], guard := some (37, false) },
{ dst := some 60, op := Op.move (Operand.tmp 1), type := 27, pos := "law.go:129", after := #[{ on := 37, ground := Ground.guard }], guard := some (37, false) },
{ dst := some 61, op := Op.move (Operand.tmp 5), type := 3, pos := "law.go:129", after := #[{ on := 37, ground := Ground.guard }], guard := some (37, false) },
{ dst := some 62, op := Op.indexAddr 27 (Operand.tmp 60) (Operand.tmp 61), type := 0, pos := "law.go:129", after := #[{ on := 44, ground := Ground.data }, { on := 45, ground := Ground.data }, { on := 37, ground := Ground.guard }], guard := some (37, false) },
{ dst := some 63, op := Op.fieldAddr 58 (Operand.tmp 62) 3, type := 0, pos := "law.go:129", after := #[{ on := 46, ground := Ground.data }, { on := 37, ground := Ground.guard }], guard := some (37, false) },
{ dst := some 64, op := Op.load 48 (Operand.tmp 63), type := 48, pos := "law.go:129", after := #[{ on := 47, ground := Ground.data }, { on := 37, ground := Ground.guard }], guard := some (37, false) },
{ dst := some 65, op := Op.call { callee := Callee.builtin Builtin.len, args := #[Operand.tmp 64], argTypes := #[48] }, type := 3, pos := "law.go:129", after := #[{ on := 48, ground := Ground.data }, { on := 37, ground := Ground.guard }], guard := some (37, false) },
{ dst := some 66, op := Op.binOp BinOp.neq 3 (Operand.tmp 59) (Operand.tmp 65) 3, type := 4, pos := "law.go:129", after := #[{ on := 43, ground := Ground.data }, { on := 49, ground := Ground.data }, { on := 37, ground := Ground.guard }], guard := some (37, false) },
{ dst := some 67, op := Op.pick (Operand.tmp 53) (Operand.const (Value.bool true)) (Operand.tmp 66), type := 4, pos := "law.go:129", after := #[{ on := 37, ground := Ground.data }, { on := 50, ground := Ground.data }], guard := none },
{ dst := some 68, op := Op.move (Operand.tmp 67), type := 4, pos := "law.go:129", after := #[{ on := 51, ground := Ground.data }, { on := 37, ground := Ground.chain }], guard := none },
{ dst := some 69, op := Op.move (Operand.tmp 0), type := 27, pos := "law.go:129", after := #[{ on := 52, ground := Ground.guard }], guard := some (52, false) },
{ dst := some 70, op := Op.move (Operand.tmp 5), type := 3, pos := "law.go:129", after := #[{ on := 52, ground := Ground.guard }], guard := some (52, false) },
{ dst := some 71, op := Op.indexAddr 27 (Operand.tmp 69) (Operand.tmp 70), type := 0, pos := "law.go:129", after := #[{ on := 53, ground := Ground.data }, { on := 54, ground := Ground.data }, { on := 52, ground := Ground.guard }], guard := some (52, false) },
{ dst := some 72, op := Op.fieldAddr 58 (Operand.tmp 71) 5, type := 0, pos := "law.go:129", after := #[{ on := 55, ground := Ground.data }, { on := 52, ground := Ground.guard }], guard := some (52, false) },
{ dst := some 73, op := Op.load 51 (Operand.tmp 72), type := 51, pos := "law.go:129", after := #[{ on := 56, ground := Ground.data }, { on := 52, ground := Ground.guard }], guard := some (52, false) },
{ dst := some 74, op := Op.call { callee := Callee.builtin Builtin.len, args := #[Operand.tmp 73], argTypes := #[51] }, type := 3, pos := "law.go:129", after := #[{ on := 57, ground := Ground.data }, { on := 52, ground := Ground.guard }], guard := some (52, false) },
{ dst := some 75, op := Op.move (Operand.tmp 1), type := 27, pos := "law.go:129", after := #[{ on := 52, ground := Ground.guard }], guard := some (52, false) },
{ dst := some 76, op := Op.move (Operand.tmp 5), type := 3, pos := "law.go:129", after := #[{ on := 52, ground := Ground.guard }], guard := some (52, false) },
{ dst := some 77, op := Op.indexAddr 27 (Operand.tmp 75) (Operand.tmp 76), type := 0, pos := "law.go:129", after := #[{ on := 59, ground := Ground.data }, { on := 60, ground := Ground.data }, { on := 52, ground := Ground.guard }], guard := some (52, false) },
{ dst := some 78, op := Op.fieldAddr 58 (Operand.tmp 77) 5, type := 0, pos := "law.go:129", after := #[{ on := 61, ground := Ground.data }, { on := 52, ground := Ground.guard }], guard := some (52, false) },
{ dst := some 79, op := Op.load 51 (Operand.tmp 78), type := 51, pos := "law.go:129", after := #[{ on := 62, ground := Ground.data }, { on := 52, ground := Ground.guard }], guard := some (52, false) },
{ dst := some 80, op := Op.call { callee := Callee.builtin Builtin.len, args := #[Operand.tmp 79], argTypes := #[51] }, type := 3, pos := "law.go:129", after := #[{ on := 63, ground := Ground.data }, { on := 52, ground := Ground.guard }], guard := some (52, false) },
{ dst := some 81, op := Op.binOp BinOp.neq 3 (Operand.tmp 74) (Operand.tmp 80) 3, type := 4, pos := "law.go:129", after := #[{ on := 58, ground := Ground.data }, { on := 64, ground := Ground.data }, { on := 52, ground := Ground.guard }], guard := some (52, false) },
{ dst := some 82, op := Op.pick (Operand.tmp 68) (Operand.const (Value.bool true)) (Operand.tmp 81), type := 4, pos := "law.go:129", after := #[{ on := 52, ground := Ground.data }, { on := 65, ground := Ground.data }], guard := none }] true) Q { tmps := List.toArray (.slice (some ⟨ba, oa, none⟩) n ca :: .slice (some ⟨bb, ob, none⟩) n cb :: t2 :: t3 :: t4 :: .int .i64 (k : Int) :: t6 :: t7 :: t8 :: t9 :: t10 :: t11 :: t12 :: t13 :: t14 :: t15 :: t16 :: t17 :: t18 :: t19 :: t20 :: t21 :: t22 :: t23 :: t24 :: t25 :: t26 :: t27 :: t28 :: t29 :: t30 :: t31 :: t32 :: t33 :: t34 :: t35 :: t36 :: t37 :: t38 :: t39 :: t40 :: t41 :: t42 :: t43 :: t44 :: t45 :: t46 :: t47 :: t48 :: t49 :: t50 :: t51 :: t52 :: t53 :: t54 :: t55 :: t56 :: t57 :: t58 :: t59 :: t60 :: t61 :: t62 :: t63 :: t64 :: t65 :: t66 :: t67 :: t68 :: t69 :: t70 :: t71 :: t72 :: t73 :: t74 :: t75 :: t76 :: t77 :: t78 :: t79 :: t80 :: t81 :: t82 :: t83 :: []), defers := [] } V := by
  have e1 : (kd != kd) = false := bne_self_eq_false kd
  refine wp_region_still_lit (by kernel_rfl) (by kernel_rfl) ?_
  refine Sh.out ?_
  (refine hs_step (fun K hK => ?_)
   go_simp
   refine hK _ ?_
   clear hK K)
  (refine hs_step (fun K hK => ?_)
   go_simp
   refine hK _ ?_
   clear hK K)
  (refine hs_step (fun K hK => ?_)
   go_simp
   refine hK _ ?_
   clear hK K)
  (refine hs_step (fun K hK => ?_)
   go_simp
   refine hK _ ?_
   clear hK K)
  (refine hs_step (fun K hK => ?_)
   go_simp
   refine hK _ ?_
   clear hK K)
  (refine hs_step (fun K hK => ?_)
   go_simp
   refine hK _ ?_
   clear hK K)
  (refine hs_step (fun K hK => ?_)
   go_simp
   refine hK _ ?_
   clear hK K)
  (refine hs_step (fun K hK => ?_)
   go_simp
   refine hK _ ?_
   clear hK K)
  (refine hs_step (fun K hK => ?_)
   go_simp
   refine hK _ ?_
   clear hK K)
  (refine hs_step (fun K hK => ?_)
   go_simp
   refine hK _ ?_
   clear hK K)
  (refine hs_step (fun K hK => ?_)
   go_simp
   refine hK _ ?_
   clear hK K)
  (refine hs_step (fun K hK => ?_)
   go_simp
   refine hK _ ?_
   clear hK K)
  (refine hs_want (by kernel_rfl) (fun K hK => ?_)
   go_simp
   refine hK _ ?_
   clear hK K)
  (refine hs_want (by kernel_rfl) (fun K hK => ?_)
   go_simp
   refine hK _ ?_
   clear hK K)
  (refine hs_want (by kernel_rfl) (fun K hK => ?_)
   go_simp
   refine hK _ ?_
   clear hK K)
  (refine hs_want (by kernel_rfl) (fun K hK => ?_)
   go_simp
   refine hK _ ?_
   clear hK K)
  (refine hs_want (by kernel_rfl) (fun K hK => ?_)
   go_simp
   refine hK _ ?_
   clear hK K)
  (refine hs_want (by kernel_rfl) (fun K hK => ?_)
   go_simp
   refine hK _ ?_
   clear hK K)
  (refine hs_want (by kernel_rfl) (fun K hK => ?_)
   go_simp
   refine hK _ ?_
   clear hK K)
  (refine hs_want (by kernel_rfl) (fun K hK => ?_)
   go_simp
   refine hK _ ?_
   clear hK K)
  (refine hs_want (by kernel_rfl) (fun K hK => ?_)
   go_simp
   refine hK _ ?_
   clear hK K)
  (refine hs_want (by kernel_rfl) (fun K hK => ?_)
   go_simp
   refine hK _ ?_
   clear hK K)
  (refine hs_want (by kernel_rfl) (fun K hK => ?_)
   go_simp
   refine hK _ ?_
   clear hK K)
  (refine hs_step (fun K hK => ?_)
   go_simp
   refine hK _ ?_
   clear hK K)
  (refine hs_step (fun K hK => ?_)
   go_simp
   refine hK _ ?_
   clear hK K)
  (refine hs_want (by kernel_rfl) (fun K hK => ?_)
   go_simp
   refine hK _ ?_
   clear hK K)
  (refine hs_want (by kernel_rfl) (fun K hK => ?_)
   go_simp
   refine hK _ ?_
   clear hK K)
  (refine hs_want (by kernel_rfl) (fun K hK => ?_)
   go_simp
   refine hK _ ?_
   clear hK K)
  (refine hs_want (by kernel_rfl) (fun K hK => ?_)
   go_simp
   refine hK _ ?_
   clear hK K)
  (refine hs_loadW (by kernel_rfl) 50 (.tmp 44) rfl ba (oa + k * 106 + 4) rfl ST.toList ST Array.toArray_toList _ HSa.out Tryd.underlying50 rfl HSL.out (fun K hK => ?_)
   go_simp
   refine hK _ ?_
   clear hK K)
  (refine hs_want (by kernel_rfl) (fun K hK => ?_)
   go_simp
   refine hK _ ?_
   clear hK K)
  (refine hs_want (by kernel_rfl) (fun K hK => ?_)
   go_simp
   refine hK _ ?_
   clear hK K)
  (refine hs_want (by kernel_rfl) (fun K hK => ?_)
   go_simp
   refine hK _ ?_
   clear hK K)
  (refine hs_want (by kernel_rfl) (fun K hK => ?_)
   go_simp
   refine hK _ ?_
   clear hK K)
  (refine hs_loadW (by kernel_rfl) 50 (.tmp 49) rfl bb (ob + k * 106 + 4) rfl ST.toList ST Array.toArray_toList _ HSb.out Tryd.underlying50 rfl HSL.out (fun K hK => ?_)
   go_simp
   refine hK _ ?_
   clear hK K)
  (refine hs_want (by kernel_rfl) (fun K hK => ?_)
   go_simp
   refine hK _ ?_
   clear hK K)
  (refine hs_step (fun K hK => ?_)
   go_simp
   refine hK _ ?_
   clear hK K)
  (refine hs_step (fun K hK => ?_)
   go_simp
   refine hK _ ?_
   clear hK K)
  (refine hs_want (by kernel_rfl) (fun K hK => ?_)
   go_simp
   refine hK _ ?_
   clear hK K)
  (refine hs_want (by kernel_rfl) (fun K hK => ?_)
   go_simp
   refine hK _ ?_
   clear hK K)
  (refine hs_want (by kernel_rfl) (fun K hK => ?_)
   go_simp
   refine hK _ ?_
   clear hK K)
  (refine hs_want (by kernel_rfl) (fun K hK => ?_)
   go_simp
   refine hK _ ?_
   clear hK K)
  (refine hs_want (by kernel_rfl) (fun K hK => ?_)
   go_simp
   refine hK _ ?_
   clear hK K)
  (refine hs_want (by kernel_rfl) (fun K hK => ?_)
   go_simp
   refine hK _ ?_
   clear hK K)
  (refine hs_want (by kernel_rfl) (fun K hK => ?_)
   go_simp
   refine hK _ ?_
   clear hK K)
  (refine hs_want (by kernel_rfl) (fun K hK => ?_)
   go_simp
   refine hK _ ?_
   clear hK K)
  (refine hs_want (by kernel_rfl) (fun K hK => ?_)
   go_simp
   refine hK _ ?_
   clear hK K)
  (refine hs_want (by kernel_rfl) (fun K hK => ?_)
   go_simp
   refine hK _ ?_
   clear hK K)
  (refine hs_want (by kernel_rfl) (fun K hK => ?_)
   go_simp
   refine hK _ ?_
   clear hK K)
  (refine hs_want (by kernel_rfl) (fun K hK => ?_)
   go_simp
   refine hK _ ?_
   clear hK K)
  (refine hs_want (by kernel_rfl) (fun K hK => ?_)
   go_simp
   refine hK _ ?_
   clear hK K)
  (refine hs_step (fun K hK => ?_)
   go_simp
   refine hK _ ?_
   clear hK K)
  (refine hs_step (fun K hK => ?_)
   go_simp
   refine hK _ ?_
   clear hK K)
  (refine hs_want (by kernel_rfl) (fun K hK => ?_)
   go_simp
   refine hK _ ?_
   clear hK K)
  (refine hs_want (by kernel_rfl) (fun K hK => ?_)
   go_simp
   refine hK _ ?_
   clear hK K)
  (refine hs_want (by kernel_rfl) (fun K hK => ?_)
   go_simp
   refine hK _ ?_
   clear hK K)
  (refine hs_want (by kernel_rfl) (fun K hK => ?_)
   go_simp
   refine hK _ ?_
   clear hK K)
  (refine hs_want (by kernel_rfl) (fun K hK => ?_)
   go_simp
   refine hK _ ?_
   clear hK K)
  (refine hs_want (by kernel_rfl) (fun K hK => ?_)
   go_simp
   refine hK _ ?_
   clear hK K)
  (refine hs_want (by kernel_rfl) (fun K hK => ?_)
   go_simp
   refine hK _ ?_
   clear hK K)
  (refine hs_want (by kernel_rfl) (fun K hK => ?_)
   go_simp
   refine hK _ ?_
   clear hK K)
  (refine hs_want (by kernel_rfl) (fun K hK => ?_)
   go_simp
   refine hK _ ?_
   clear hK K)
  (refine hs_want (by kernel_rfl) (fun K hK => ?_)
   go_simp
   refine hK _ ?_
   clear hK K)
  (refine hs_want (by kernel_rfl) (fun K hK => ?_)
   go_simp
   refine hK _ ?_
   clear hK K)
  (refine hs_want (by kernel_rfl) (fun K hK => ?_)
   go_simp
   refine hK _ ?_
   clear hK K)
  (refine hs_want (by kernel_rfl) (fun K hK => ?_)
   go_simp
   refine hK _ ?_
   clear hK K)
  (refine hs_step (fun K hK => ?_)
   go_simp
   refine hK _ ?_
   clear hK K)
  refine hs_nil ?_
  exact HQ.out _ _ _ _ _ _ _ _ _ _ _ _ _ _ _ _ _ _ _ _ _ _ _ _ _ _ _ _ _ _ _ _ _ _ _ _ _ _ _ _ _ _ _ _ _ _ _ _ _ _ _ _ _ _ _ _ _ _ _ _ _ _ _ _ _ _

theorem st_range {w : World} {b o : Nat} {m : MsM} (h : w.rangeAt b o (msL m)) : w.rangeAt b (o + 4) (idA m.st.1).toList := fun j v hv => by
  have h1 : (msL m)[4 + j]? = some v := by
    unfold msL
    rw [show 4 + j = j + 1 + 1 + 1 + 1 by omega]
    simp only [List.getElem?_cons_succ]
    have hj := (List.getElem?_eq_some_iff.1 hv).1
    unfold idA at hv hj
    rw [List.toList_toArray] at hv hj
    rw [List.getElem?_append_left hj]
    exact hv
  have h2 := h (4 + j) v h1
  rw [← Nat.add_assoc] at h2
  exact h2
theorem hv_cell {w : World} {b o : Nat} {m : MsM} (h : w.rangeAt b o (msL m)) : w.cell? ⟨b, o + 36, none⟩ = some (.slice m.hs m.hd.length m.ch) := by
  have h1 := msL_36 m
  rw [List.getElem?_toArray] at h1
  exact h 36 _ h1
theorem id_infoS : (Tryd.prog.info? 50).map (·.size) = some 32 := by kernel_rfl
set_option maxHeartbeats 8000000 in
theorem alike_any (sa sb : Option Addr) (n n2 ca cb : Nat) (A B : List MsI) (w : World) (hA : RowV msR w w.heap.size (.slice sa n ca) A) (hB : RowV msR w w.heap.size (.slice sb n2 cb) B) (hk : keysM A = keysM B) :
    Calls Tryd.prog 15 #[.slice sa n ca, .slice sb n2 cb] w fun r w' => r = .returned (.bool true) ∧ Below w.heap.size w w' := by
  have hna : n = A.length := by obtain ⟨s, cap, e, _⟩ := hA; injection e
  have hnb : n2 = B.length := by obtain ⟨s, cap, e, _⟩ := hB; injection e
  have hl : A.length = B.length := by
    have h := congrArg List.length hk
    unfold keysM at h
    rwa [List.length_map, List.length_map] at h
  obtain rfl : n = n2 := by omega
  have h63 : n < 9223372036854775808 := by
    obtain ⟨_, _, e, h1, h2, _⟩ := hA
    omega
  have HR : Hid (∀ k, k < n → ∃ (x y : MsI) (ba oa bb ob : Nat), sa = some ⟨ba, oa, none⟩ ∧ sb = some ⟨bb, ob, none⟩ ∧ ba < w.heap.size ∧ bb < w.heap.size ∧ w.rangeAt ba (oa + k * 106) (msL x.1) ∧ w.rangeAt bb (ob + k * 106) (msL y.1) ∧ keyM x.1 = keyM y.1) := by
    intro k hkn
    obtain ⟨x, ba, oa, hx, h1, h2, h3⟩ := row_at (show RowV msR w w.heap.size (.slice sa A.length ca) A from by rw [← hna]; exact hA) k (by omega)
    obtain ⟨y, bb, ob, hy, h4, h5, h6⟩ := row_at (show RowV msR w w.heap.size (.slice sb B.length cb) B from by rw [← hnb]; exact hB) k (by omega)
    refine ⟨x, y, ba, oa, bb, ob, h1, h4, h2, h5, h3, h6, ?_⟩
    have h7 : (keysM A)[k]? = (keysM B)[k]? := by rw [hk]
    unfold keysM at h7
    rw [List.getElem?_map, List.getElem?_map, hx, hy] at h7
    exact Option.some.inj h7
  clear hA hB hk hna hnb hl
  go_enter Tryd.func15, Tryd.ntmps15
  go_wp2_with fail
  go_loopw [13] (fun i wr => ∃ (k : Nat), k ≤ n ∧ i = .int .i64 k ∧ Hid (Below w.heap.size w wr)) (fun i _ => n - (intOf i).toNat)
  case atStart => exact ⟨0, Nat.zero_le _, rfl, Below.refl _ _⟩
  case round =>
    obtain ⟨k, hk, rfl, HB⟩ := hrel
    by_cases hlt : k < n
    · obtain ⟨x, y, ba, oa, bb, ob, rfl, rfl, hba, hbb, hra, hrb, hkey⟩ := HR.out k hlt
      have j1 : decide ((k : Int) < (n : Int)) = true := decide_eq_true (by omega)
      replace hra := rr_below hra HB.out hba
      replace hrb := rr_below hrb HB.out hbb
      have za : ba < wr.heap.size := Nat.lt_of_lt_of_le hba HB.out.size
      have zb : bb < wr.heap.size := Nat.lt_of_lt_of_le hbb HB.out.size
      have k0 : x.1.kd = y.1.kd := congrArg (fun q : KeyM => q.1) hkey
      have k1 : x.1.nc = y.1.nc := congrArg (fun q : KeyM => q.2.1) hkey
      have k2 : x.1.st.1 = y.1.st.1 := congrArg (fun q : KeyM => q.2.2.1) hkey
      have k3 : x.1.nm.length = y.1.nm.length := congrArg (fun q : KeyM => q.2.2.2.1) hkey
      have k4 : x.1.hd.length = y.1.hd.length := congrArg (fun q : KeyM => q.2.2.2.2) hkey
      have a0 : wr.cell? ⟨ba, oa + k * 106, none⟩ = some (.int .i64 x.1.kd) := hra 0 _ rfl
      have b0 : wr.cell? ⟨bb, ob + k * 106, none⟩ = some (.int .i64 x.1.kd) := by rw [k0]; exact hrb 0 _ rfl
      have a1 : wr.cell? ⟨ba, oa + k * 106 + 1, none⟩ = some (.int .u64 (x.1.nc : Int)) := hra 1 _ rfl
      have b1 : wr.cell? ⟨bb, ob + k * 106 + 1, none⟩ = some (.int .u64 (x.1.nc : Int)) := by rw [k1]; exact hrb 1 _ rfl
      have a3 : wr.cell? ⟨ba, oa + k * 106 + 3, none⟩ = some (.slice x.1.ns x.1.nm.length x.1.cn) := hra 3 _ rfl
      have b3 : wr.cell? ⟨bb, ob + k * 106 + 3, none⟩ = some (.slice y.1.ns x.1.nm.length y.1.cn) := by rw [k3]; exact hrb 3 _ rfl
      have a5 := hv_cell hra
      have b5 : wr.cell? ⟨bb, ob + k * 106 + 36, none⟩ = some (.slice y.1.hs x.1.hd.length y.1.ch) := by rw [k4]; exact hv_cell hrb
      have HSa : Hid (wr.drew.rangeAt ba (oa + k * 106 + 4) (idA x.1.st.1).toList) := st_range hra
      have HSb : Hid (wr.drew.rangeAt bb (ob + k * 106 + 4) (idA x.1.st.1).toList) := by
        rw [k2]
        exact st_range hrb
      have HSL : Hid ((Tryd.prog.info? 50).map (·.size) = some (idA x.1.st.1).toList.length) := by
        show _ = _
        rw [id_infoS]
        unfold idA
        rw [List.toList_toArray, List.length_map, x.1.st.2.1]
      have hgd : ∀ (a b : Operand) W, (eqGuard .neq 50 a b (.agg (idA x.1.st.1)) (.agg (idA x.1.st.1))).run Tryd.prog W = .ok () W := fun a b W => id_guard _ _ _ a b W
      have hbn : ∀ W, (binOp .neq 50 (.agg (idA x.1.st.1)) (.agg (idA x.1.st.1))).run Tryd.prog W = .ok (.bool false) W := fun W => by
        have h := arr_neq 50 32 x.1.st.1 x.1.st.1 x.1.st.2.1 x.1.st.2.1 Tryd.underlying50 W (fun f g h => run_equalIn_arr (P := Tryd.prog) W 9998 50 5 32 .u8 _ _ f g (by kernel_rfl) (by kernel_rfl) (by kernel_rfl) h)
        rw [decide_eq_true rfl] at h
        exact h
      have HRG := Lib.hid (fun t2 t3 t4 t6 t7 t8 t9 t10 t11 t12 t13 t14 t15 t16 t17 t18 t19 t20 t21 t22 t23 t24 t25 t26 t27 t28 t29 t30 t31 t32 t33 t34 t35 t36 t37 t38 t39 t40 t41 t42 t43 t44 t45 t46 t47 t48 t49 t50 t51 t52 t53 t54 t55 t56 t57 t58 t59 t60 t61 t62 t63 t64 t65 t66 t67 t68 t69 t70 t71 t72 t73 t74 t75 t76 t77 t78 t79 t80 t81 t82 t83 Q hQ => alikeR ba bb oa ob n ca cb k 0 0 0 0 x.1.kd x.1.nc x.1.ns y.1.ns x.1.hs y.1.hs x.1.cn y.1.cn x.1.ch y.1.ch x.1.nm.length x.1.hd.length (idA x.1.st.1) wr t2 t3 t4 t6 t7 t8 t9 t10 t11 t12 t13 t14 t15 t16 t17 t18 t19 t20 t21 t22 t23 t24 t25 t26 t27 t28 t29 t30 t31 t32 t33 t34 t35 t36 t37 t38 t39 t40 t41 t42 t43 t44 t45 t46 t47 t48 t49 t50 t51 t52 t53 t54 t55 t56 t57 t58 t59 t60 t61 t62 t63 t64 t65 t66 t67 t68 t69 t70 t71 t72 t73 t74 t75 t76 t77 t78 t79 t80 t81 t82 t83 Q (by omega) za zb a0 b0 a1 b1 a3 b3 a5 b5 HSa HSb HSL hgd hbn hQ)
      clear hra hrb a0 b0 a1 b1 a3 b3 a5 b5 HSa HSb HSL hgd hbn k0 k1 k2 k3 k4 hkey
      have HBD : Hid (Below w.heap.size w wr.drew) := HB.out.drew
      go_upto_region 6 with fail
      refine HRG.out _ _ _ _ _ _ _ _ _ _ _ _ _ _ _ _ _ _ _ _ _ _ _ _ _ _ _ _ _ _ _ _ _ _ _ _ _ _ _ _ _ _ _ _ _ _ _ _ _ _ _ _ _ _ _ _ _ _ _ _ _ _ _ _ _ _ _ _ _ _ _ _ _ _ _ _ _ _ _ _ _ _ (Lib.hid (fun x16 x17 x18 x19 x20 x21 x22 x23 x24 x25 x26 x27 x28 x29 x30 x31 x32 x33 x34 x35 x36 x37 x38 x39 x40 x41 x42 x43 x44 x45 x46 x47 x48 x49 x50 x51 x52 x53 x54 x55 x56 x57 x58 x59 x60 x61 x62 x63 x64 x65 x66 x67 x68 x69 x70 x71 x72 x73 x74 x75 x76 x77 x78 x79 x80 x81 => ?_))
      clear HRG HB
      go_wp2_with fail
      go_roundw
      case rel => exact ⟨k + 1, by omega, by go_num, HBD⟩
      case measure => simp [intOf]; omega
    · have j1 : decide ((k : Int) < (n : Int)) = false := decide_eq_false (by omega)
      go_wp2_with fail
      go_ret
      exact ⟨rfl, HB.out⟩
end Go.Proofs.YtjnbdajdllpchaaDoor
