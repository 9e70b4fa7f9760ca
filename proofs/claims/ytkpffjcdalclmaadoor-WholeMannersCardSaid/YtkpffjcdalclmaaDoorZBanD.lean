/- Package ban: tables. -/
import Derived.Test.YtkpffjcdalclmaaDoorZBanC
namespace Go.Proofs.YtkpffjcdalclmaaDoor
open Go.RowKit
set_option linter.unusedVariables false
set_option linter.unusedSimpArgs false
set_option maxRecDepth 100000
theorem tab_ne : 78 ≠ banR.e := by decide
structure Tab (w : World) (T : Nat) (v : Value) (lo : Nat) (L : List BanM) : Prop where
  G : Bk w T 78 #[v]
  M : MineR banR w lo v L
theorem Tab.keep {w w' : World} {T : Nat} {v : Value} {lo : Nat} {L : List BanM} (h : Tab w T v lo L) (hb : Below w.heap.size w w') : Tab w' T v lo L := ⟨h.G.keep hb, h.M.keep hb⟩
theorem Tab.apart {w : World} {T : Nat} {v : Value} {lo : Nat} {L : List BanM} (h : Tab w T v lo L) : ¬ slb v T := h.M.apart h.G tab_ne
theorem Tab.len63 {w : World} {T : Nat} {v : Value} {lo : Nat} {L : List BanM} (h : Tab w T v lo L) : L.length < 9223372036854775808 := by
  obtain ⟨_, _, _, h1, h2, _⟩ := h.M.rows banR_ok
  omega
theorem mkf : ∀ (fn : Fn) (first cap : Array Value) (w : World), (Instr.makeFunc fn first cap).run Tryd.prog w = .ok (.func fn first cap) w := fun _ _ _ _ => rfl
theorem eg_find1 : ∀ args w, (callFunc 70 args).run Tryd.prog w = .ok (.enter 70 args) w := enters_of Tryd.func70 (by kernel_rfl) rfl
theorem eg_sweep1 : ∀ args w, (callFunc 52 args).run Tryd.prog w = .ok (.enter 52 args) w := enters_of Tryd.func52 (by kernel_rfl) rfl
theorem eg_ban2 : ∀ args w, (callFunc 50 args).run Tryd.prog w = .ok (.enter 50 args) w := enters_of Tryd.func50 (by kernel_rfl) rfl
def isA (a : Int) (x : BanM) : Bool := x.addr == a
theorem find_any (T : Nat) (v : Value) (lo : Nat) (L : List BanM) (a : Int) (w : World) (h : Tab w T v lo L) :
    Calls Tryd.prog 45 #[.pointer (some ⟨T, 0, none⟩), .int .i64 a] w fun e w' => (∃ i, e = .returned (.int .i64 i) ∧ IdxIs (isA a) L i) ∧ Below w.heap.size w w' := by
  have hmf := mkf
  have hB1 : Below w.heap.size w (w.alloc (.cells #[.int .i64 a] 3)) := (Below.refl _ _).alloc (Nat.le_refl _) _
  have K1 : Bk (w.alloc (.cells #[.int .i64 a] 3)) w.heap.size 3 #[.int .i64 a] := Bk.new _ _ _
  have hp : PredB (fun _ => False) 70 #[.pointer (some ⟨w.heap.size, 0, none⟩)] (isA a) (w.alloc (.cells #[.int .i64 a] 3)) := fun W x hb =>
    find1_any x w.heap.size a W ((hb.keep K1 (fun h => h)).cell 0) (hb.keep K1 (fun h => h)).lt
  have hi := index_any (fun _ => False) _ _ (isA a) eg_find1 L v _ ((h.M.keep hB1).rows banR_ok) hp
  have c0 := h.G.cell 0
  have hz := h.G.lt
  obtain ⟨s, c, rfl⟩ := h.M.slice
  clear h hp K1
  go_enter Tryd.func45, Tryd.ntmps45
  go_wp2_with fail
  refine hi.mono ?_
  rintro e w1 ⟨⟨i, rfl, hix⟩, hb1⟩
  have HI := Lib.hid hix
  clear hix hi
  go_wp2_with fail
  go_ret
  exact ⟨⟨_, rfl, HI.out⟩, hB1.trans (hb1.mono hB1.size)⟩
theorem IdxIs.find {p : BanM → Bool} {L : List BanM} {i : Int} (h : IdxIs p L i) : (i = -1 ∧ L.find? p = none) ∨ ∃ (k : Nat) (x : BanM), i = (k : Int) ∧ L[k]? = some x ∧ L.find? p = some x ∧ p x = true ∧ ∀ j y, j < k → L[j]? = some y → p y = false := by
  rcases h with ⟨rfl, h⟩ | ⟨k, x, rfl, hx, hp, hb⟩
  · exact .inl ⟨rfl, List.find?_eq_none.2 (fun y hy => by rw [h y hy]; decide)⟩
  · refine .inr ⟨k, x, rfl, hx, ?_, hp, hb⟩
    obtain ⟨hk, hxe⟩ := List.getElem?_eq_some_iff.1 hx
    refine List.find?_eq_some_iff_getElem.2 ⟨hp, k, hk, hxe, fun j hj => ?_⟩
    rw [hb j _ hj (List.getElem?_eq_getElem (by omega))]
    rfl
def til (L : List BanM) (a : Int) : Int × Bool := match L.find? (isA a) with | some x => (x.til, true) | none => (0, false)
theorem until_any (T : Nat) (v : Value) (lo : Nat) (L : List BanM) (a : Int) (w : World) (h : Tab w T v lo L) :
    Calls Tryd.prog 51 #[.pointer (some ⟨T, 0, none⟩), .int .i64 a] w fun e w' => e = .returned (.tuple #[.int .i64 (til L a).1, .bool (til L a).2]) ∧ Below w.heap.size w w' := by
  have hi := find_any T v lo L a w h
  obtain ⟨res, hres⟩ : ∃ r, r = til L a := ⟨_, rfl⟩
  rw [← hres]
  have HR := Lib.hid hres
  have H := Lib.hid h
  have h63 := h.len63
  obtain ⟨s, c, rfl⟩ := h.M.slice
  have hrow := row_at (h.M.rows banR_ok)
  have HL := Lib.hid hrow
  clear hres hrow h
  go_enter Tryd.func51, Tryd.ntmps51
  go_wp2_with fail
  refine hi.mono ?_
  rintro e w1 ⟨⟨i, rfl, hix⟩, hb1⟩
  rcases hix.find with ⟨rfl, hn⟩ | ⟨k, x, rfl, hx, hf, hp, hb⟩
  · have hr : res = (0, false) := by rw [HR.out]; unfold til; rw [hn]
    subst hr
    clear hix hn hi
    go_wp2_with fail
    go_ret2
    exact ⟨rfl, hb1⟩
  · have hr : res = (x.til, true) := by rw [HR.out]; unfold til; rw [hf]
    subst hr
    have hk := (List.getElem?_eq_some_iff.1 hx).1
    obtain ⟨y, b, o, hky, hs, hbw, hrg⟩ := HL.out k hk
    rw [hx] at hky
    cases hky
    subst hs
    have H1 := H.out.keep hb1
    have c0 := H1.G.cell 0
    have hz := H1.G.lt
    have r1 := (rowr_below hrg hb1 hbw) 1 _ rfl
    change w1.cell? ⟨b, o + k * 2 + 1, none⟩ = some (.int .i64 x.til) at r1
    obtain ⟨xa, xt⟩ := x
    change w1.cell? ⟨b, o + k * 2 + 1, none⟩ = some (.int .i64 xt) at r1
    have d0 : decide ((k : Int) < 0) = false := decide_eq_false (by omega)
    clear hix hf hp hb hi hx hrg H1
    go_wp2_with fail
    go_ret2
    exact ⟨rfl, hb1⟩
theorem banned_any (T : Nat) (v : Value) (lo : Nat) (L : List BanM) (a now : Int) (w : World) (h : Tab w T v lo L) :
    Calls Tryd.prog 31 #[.pointer (some ⟨T, 0, none⟩), .int .i64 a, .int .i64 now] w fun e w' => e = .returned (.bool ((til L a).2 && decide (now < (til L a).1))) ∧ Below w.heap.size w w' := by
  have hi := until_any T v lo L a w h
  obtain ⟨⟨u, ok⟩, hres⟩ : ∃ r, r = til L a := ⟨_, rfl⟩
  rw [← hres] at hi ⊢
  clear h hres
  cases ok
  · go_enter Tryd.func31, Tryd.ntmps31
    go_wp2_with fail
    refine hi.mono ?_
    rintro e w1 ⟨rfl, hb1⟩
    go_wp2_with fail
    go_ret
    exact ⟨rfl, hb1⟩
  · go_enter Tryd.func31, Tryd.ntmps31
    go_wp2_with fail
    refine hi.mono ?_
    rintro e w1 ⟨rfl, hb1⟩
    go_wp2_with fail
    go_ret
    exact ⟨rfl, hb1⟩
theorem len_any (T : Nat) (v : Value) (lo : Nat) (L : List BanM) (w : World) (h : Tab w T v lo L) :
    Calls Tryd.prog 29 #[.pointer (some ⟨T, 0, none⟩)] w fun e w' => e = .returned (.int .i64 (L.length : Int)) ∧ w' = w := by
  have c0 := h.G.cell 0
  have hz := h.G.lt
  obtain ⟨s, c, rfl⟩ := h.M.slice
  clear h
  go_enter Tryd.func29, Tryd.ntmps29
  go_wp2_with fail
  go_ret
  exact ⟨rfl, rfl⟩
structure Turned (T : Nat) (v : Value) (lo : Nat) (M : List BanM) (w : World) (e : Ending) (w' : World) : Prop where
  ret : e = .returned (.tuple #[])
  ex : ∃ v', Tab w' T v' lo M ∧ But (fun k => k = T ∨ slb v k) w w' ∧ ∀ k, slb v' k → slb v k ∨ w.heap.size ≤ k
theorem leave_any (fn : Nat) (lb : Array Value) (p : BanM → Bool) (eg : ∀ args w, (callFunc fn args).run Tryd.prog w = .ok (.enter fn args) w) (T : Nat) (v : Value) (lo : Nat) (L : List BanM) (w : World) (h : Tab w T v lo L) (hp : PredB (slb v) fn lb p w) :
    Calls Tryd.prog 49 #[.pointer (some ⟨T, 0, none⟩), .func (.func fn) #[] lb] w fun e w' => Turned T v lo (L.filter (fun x => !p x)) w e w' := by
  have hi := del_any fn lb p eg L v lo w h.M hp
  have H := Lib.hid h
  have c0 := h.G.cell 0
  have hz := h.G.lt
  obtain ⟨s, c, rfl⟩ := h.M.slice
  clear h hp
  go_enter Tryd.func49, Tryd.ntmps49
  go_wp2_with fail
  refine hi.mono ?_
  rintro e w1 ⟨v', rfl, hM, hB, hS⟩
  have G1 := hB.keep H.out.G H.out.apart
  have c1 := G1.cell 0
  have f1 := G1.frozen 0
  have z1 := G1.lt
  obtain ⟨s', c', rfl⟩ := hM.slice
  have HM := Lib.hid hM
  have HB := Lib.hid hB
  have HS := Lib.hid hS
  have HG := Lib.hid G1
  clear hM hB hS G1 hi
  go_wp2_with fail
  go_end0
  refine ⟨rfl, _, ⟨HG.out.set_ 0 _, HM.out.but_ (S := fun k => k = T) ((But.refl (fun k => k = T) _).set_ (g := T) (.inl rfl) 0 none _) (fun k hk e => ?_)⟩, (HB.out.mono (S' := fun k => k = T ∨ slb (.slice s L.length c) k) (fun k _ h => .inr h)).set_ (g := T) (.inl (.inl rfl)) 0 none _, fun k hk => .inl (HS.out k hk)⟩
  have e : k = T := e
  subst e
  exact (HM.out.apart HG.out tab_ne) hk
theorem sweep_any (T : Nat) (v : Value) (lo : Nat) (L : List BanM) (now : Int) (w : World) (h : Tab w T v lo L) :
    Calls Tryd.prog 32 #[.pointer (some ⟨T, 0, none⟩), .int .i64 now] w fun e w' => Turned T v lo (L.filter (fun x => !decide (x.til ≤ now))) w e w' := by
  have hmf := mkf
  have hB1 : Below w.heap.size w (w.alloc (.cells #[.int .i64 now] 3)) := (Below.refl _ _).alloc (Nat.le_refl _) _
  have K1 : Bk (w.alloc (.cells #[.int .i64 now] 3)) w.heap.size 3 #[.int .i64 now] := Bk.new _ _ _
  have hne : ¬ slb v w.heap.size := fun hs => by
    have := (h.M.slb_lo hs).2.1
    omega
  have hp : PredB (slb v) 52 #[.pointer (some ⟨w.heap.size, 0, none⟩)] (fun x => decide (x.til ≤ now)) (w.alloc (.cells #[.int .i64 now] 3)) := fun W x hb =>
    sweep1_any x w.heap.size now W ((hb.keep K1 hne).cell 0) (hb.keep K1 hne).lt
  have hi := leave_any _ _ _ eg_sweep1 T v lo L _ (h.keep hB1) hp
  clear h hp K1 hne
  go_enter Tryd.func32, Tryd.ntmps32
  go_wp2_with fail
  refine hi.mono ?_
  rintro e w1 ⟨rfl, v', hT, hB, hS⟩
  have HT := Lib.hid hT
  have HB := Lib.hid hB
  have HS := Lib.hid hS
  clear hT hB hS hi
  go_wp2_with fail
  go_end0
  exact ⟨rfl, v', HT.out, (But.of hB1).trans HB.out (fun k _ h => h), fun k hk => (HS.out k hk).imp id (fun h => Nat.le_trans hB1.size h)⟩
def raise (a u : Int) : List BanM → List BanM
  | [] => []
  | x :: r => if isA a x = true then ⟨x.addr, max x.til u⟩ :: r else x :: raise a u r
theorem raise_set (a u : Int) (L : List BanM) : ∀ (k : Nat) (x : BanM), L[k]? = some x → isA a x = true → (∀ j y, j < k → L[j]? = some y → isA a y = false) → raise a u L = L.set k ⟨x.addr, max x.til u⟩ := by
  induction L with
  | nil => intro k x hx; cases hx
  | cons y r ih =>
    intro k x hx hp hb
    cases k with
    | zero =>
      obtain rfl : y = x := by simpa using hx
      unfold raise
      rw [if_pos hp]
      rfl
    | succ k =>
      have h0 := hb 0 y (by omega) rfl
      unfold raise
      rw [if_neg (by rw [h0]; decide), ih k x (by simpa using hx) hp (fun j z hj hz => hb (j + 1) z (by omega) (by simpa using hz))]
      rfl
def minB : List BanM → BanM
  | [] => ⟨0, 0⟩
  | x :: r => minL x r
def banF (L : List BanM) (a u : Int) : List BanM :=
  if (L.find? (isA a)).isSome = true then raise a u L
  else if L.length < 32 then L ++ [(⟨a, u⟩ : BanM)]
  else (L ++ [(⟨a, u⟩ : BanM)]).filter (fun x => !isA (minB (L ++ [(⟨a, u⟩ : BanM)])).addr x)
theorem set_same (A : Array Value) (i : Nat) (v : Value) (h : A[i]? = some v) : A.setIfInBounds i v = A := by
  apply Array.ext_getElem?
  intro q
  rw [Array.getElem?_setIfInBounds]
  split
  · rename_i hq
    subst hq
    rw [h]
    rw [if_pos (Array.getElem?_eq_some_iff.1 h).1]
  · rfl
theorem RowB.set1 {w : World} {T : Nat} {D : List BanM} (h : RowB w T D) {i : Nat} {x : BanM} (hx : D[i]? = some x) (u : Int) : RowB (w.setCell ⟨T, i * 2 + 1, none⟩ (.int .i64 u)) T (D.set i ⟨x.addr, u⟩) := by
  have hi := (List.getElem?_eq_some_iff.1 hx).1
  have e := Bk.set_ h (i * 2 + 1) (.int .i64 u)
  have e2 := flat_set banR_ok D i ⟨x.addr, u⟩ hi
  have e3 : (banR.flat D).toArray.setIfInBounds (i * 2) (.int .i64 x.addr) = (banR.flat D).toArray := by
    refine set_same _ _ _ ?_
    rw [List.getElem?_toArray]
    exact banR_ok.flat_get D i 0 x hx (by decide)
  change ((banR.flat D).toArray.setIfInBounds (i * 2) (.int .i64 x.addr)).setIfInBounds (i * 2 + 1) (.int .i64 u) = _ at e2
  rw [e3] at e2
  unfold RowB
  rw [← e2]
  exact e
theorem Tab.set {w : World} {T b k : Nat} {n c : Nat} {lo : Nat} {L : List BanM} {x : BanM} (h : Tab w T (.slice (some ⟨b, 0, none⟩) n c) lo L) (hx : L[k]? = some x) (u : Int) :
    Tab (w.setCell ⟨b, k * 2 + 1, none⟩ (.int .i64 u)) T (.slice (some ⟨b, 0, none⟩) n c) lo (L.set k ⟨x.addr, u⟩) := by
  obtain ⟨G, M⟩ := h
  have hap : ¬ slb (.slice (some ⟨b, 0, none⟩) n c) T := M.apart G tab_ne
  refine ⟨G.far (fun e => hap (by subst e; exact slb_mk _ _ _ _)) _, ?_⟩
  rcases M with ⟨e, _⟩ | ⟨T', cap, z, e, hc, hc2, hT, K⟩
  · cases e
  · cases e
    have hk := (List.getElem?_eq_some_iff.1 hx).1
    refine .inr ⟨b, c, z, by rw [List.length_set], by rw [List.length_set]; exact hc, hc2, hT, ?_⟩
    have hK : RowB w b (L ++ List.replicate z banR.z) := K
    have hx' : (L ++ List.replicate z banR.z)[k]? = some x := by rw [List.getElem?_append_left hk]; exact hx
    have c0 := (hK.get hx').1
    have e1 := hK.set1 hx' u
    rw [List.set_append_left _ _ hk] at e1
    exact e1
end Go.Proofs.YtkpffjcdalclmaaDoor
