/- The contract of a Feed's Add. -/
import Derived.Test.YtkpffjcdalclmaaDoorZFrA
namespace Go.Proofs.YtkpffjcdalclmaaDoor
open Go.RowKit
set_option linter.unusedVariables false
set_option linter.unusedSimpArgs false
set_option maxRecDepth 100000
theorem slice_front (b o n c k : Nat) (hk : k ≤ c) (w : World) :
  (Instr.slice 32 (.slice (some ⟨b, o, none⟩) n c) none (some (.int .i64 (k : Int))) none).run Tryd.prog w = .ok (.slice (some ⟨b, o, none⟩) k c) w := by
 have h4 : (k : Int) ≤ (c : Int) := by omega
 have h3 : (0 : Int) ≤ (k : Int) := by omega
 go_simp
theorem bsn_rest {w : World} {S : Nat → Prop} {n c b o : Nat} {xs : List Nat} (k : Nat) (h : BsN w S (.slice (some ⟨b, o, none⟩) n c) xs) (hk : k ≤ xs.length) : BsN w S (.slice (dropA ⟨b, o, none⟩ c k) (n - k) (c - k)) (xs.drop k) := by
 obtain ⟨s, cap, e, h1, h2, h3, h4⟩ := h
 cases e
 refine ⟨_, _, by rw [List.length_drop], by rw [List.length_drop]; omega, by omega, fun x hx => h3 x (List.mem_of_mem_drop hx), fun hne => ?_⟩
 have hl : k < xs.length := by
  rcases Nat.lt_or_ge k xs.length with h | h
  ·exact h
  ·exact absurd (List.drop_eq_nil_of_le h) hne
 have hne' : xs ≠ [] := by rintro rfl; simp at hl
 obtain ⟨b', o', e1, hb, hn, hc⟩ := h4 hne'
 cases e1
 refine ⟨b, o + k, by unfold dropA; rw [if_neg (by omega), Go.WideShapes.add_plain], hb, hn, fun j hj => ?_⟩
 rw [List.length_drop] at hj
 have h5 := hc (k + j) (by omega)
 rw [← Nat.add_assoc] at h5
 rw [h5]
 unfold nth
 rw [List.getD, List.getD, List.getElem?_drop]
theorem bsn_front {w : World} {S : Nat → Prop} {n c b o : Nat} {xs : List Nat} (k : Nat) (h : BsN w S (.slice (some ⟨b, o, none⟩) n c) xs) (hk : k ≤ xs.length) : BsN w S (.slice (some ⟨b, o, none⟩) k c) (xs.take k) := bsn_take h hk
theorem MadeM.keep {w W : World} {lo : Nat} {v rv : Value} {L : List FrM} (h : MadeM w lo v rv L) (hb : Below w.heap.size w W) : MadeM W lo v rv L := ⟨h.1.keep hb, fun x hx => ⟨(h.2 x hx).1.keep hb, (h.2 x hx).2⟩⟩
theorem MadeM.butF {FT : TypeId} {FR : Array Value} {fo : Nat} [hfd : FdOk FT FR fo] {w W : World} {p lo lo2 e : Nat} {v v2 rv : Value} {h1 : List Nat} {L : List FrM} (h : MadeM w lo v rv L) (hF : FeedM FT FR fo w p lo2 v h1 e) (hb : But (fun k => k = p ∨ slb v k) w W) (hv : ∀ k, slb v2 k → slb v k ∨ w.heap.size ≤ k) : MadeM W lo v2 rv L := by
 refine ⟨h.1.butS hb (fun k cs hk hs => ?_), fun x hx => ⟨(h.2 x hx).1.but hb (fun k hk hs => ?_), fun k hk hs => ?_⟩⟩
 ·rcases hs with rfl | hs
  ·exact hfd.nf (hF.1.type_eq hk)
  ·obtain ⟨_, _, ys, K⟩ := hF.2.slb_lo hs
   exact fr_ne (hk.type_eq K)
 ·rcases hs with rfl | hs
  ·exact (h.2 x hx).1.apart hF.1 hfd.ne hk
  ·exact (h.2 x hx).2 k hk hs
 ·rcases hv k hs with h1 | h1
  ·exact (h.2 x hx).2 k hk h1
  ·have := ((h.2 x hx).1.slb_lo hk).2.1
   omega
theorem MadeM.set_ {FT : TypeId} {FR : Array Value} {fo : Nat} [hfd : FdOk FT FR fo] {w : World} {p lo i : Nat} {v v2 rv u x y : Value} {L : List FrM} (h : MadeM w lo v rv L) (hP : Bk w p FT (fdA FR fo (x) (y))) (hv : ∀ k, slb v2 k → slb v k) : MadeM (w.setCell ⟨p, i, none⟩ u) lo v2 rv L := by
 have hb : But (fun k => k = p) w (w.setCell ⟨p, i, none⟩ u) := But.set_ (But.refl (fun k => k = p) w) (.inl rfl) i none u
 refine ⟨h.1.butS hb (fun k cs hk hs => ?_), fun x hx => ⟨(h.2 x hx).1.but hb (fun k hk hs => ?_), fun k hk hs => (h.2 x hx).2 k hk (hv k hs)⟩⟩
 ·subst hs; exact hfd.nf (hP.type_eq hk)
 ·subst hs; exact (h.2 x hx).1.apart hP hfd.ne hk
theorem bsn_fresh {w : World} {S : Nat → Prop} {v : Value} {xs : List Nat} (h : BsN w S v xs) : BsN w (fun j => S j ∨ w.heap.size ≤ j) v xs := by
 obtain ⟨s, cap, rfl, h1, h2, h3, h4⟩ := h
 refine ⟨s, cap, rfl, h1, h2, h3, fun hne => ?_⟩
 obtain ⟨b, o, e, hb, hn, hc⟩ := h4 hne
 exact ⟨b, o, e, hb, fun hs => hs.elim hn (fun h => by omega), hc⟩
theorem But.of_lo {B : Nat} {w w' : World} (h : Below B w w') : But (fun k => B ≤ k) w w' := ⟨h.os, h.tape, h.output, h.size, fun k hk hn => h.block k (by omega)⟩
theorem mine_nil (w : World) (lo : Nat) : Mine w lo (.slice none 0 0) [] := .inl ⟨rfl, rfl⟩
structure AddInv (FT : TypeId) (FR : Array Value) (fo : Nat) (w wr : World) (p lo : Nat) (v : Value) (h : List Nat) (e : Nat) (B : List Nat) (k : Nat) (s1 : Option Addr) (n1 c1 : Nat) (h1 : List Nat) (e1 : Nat) (sb1 : Option Addr) (mk cb1 : Nat) (rv : Value) (L : List FrM) : Prop where
 feed : FeedM FT FR fo wr p lo (.slice s1 n1 c1) h1 e1
 len : n1 = h1.length
 hx : ∀ x ∈ h1, x < 256
 st : feedL ⟨h, e, []⟩ (B.take k) = ⟨h1, e1, L.map FrM.pr⟩
 made : MadeM wr w.heap.size (.slice s1 n1 c1) rv L
 but : But (fun k => k = p ∨ slb v k) w wr
 own : ∀ j, slb (.slice s1 n1 c1) j → slb v j ∨ w.heap.size ≤ j
 rest : BsN wr (fun j => (j = p ∨ slb v j) ∨ w.heap.size ≤ j) (.slice sb1 mk cb1) (B.drop k)
 few : L.length ≤ k
 kle : k ≤ B.length
theorem AddInv.mk' {FT : TypeId} {FR : Array Value} {fo : Nat} [hfd : FdOk FT FR fo] {w wr : World} {p lo : Nat} {v : Value} {h : List Nat} {e : Nat} {B : List Nat} {k : Nat} {s1 : Option Addr} {n1 c1 : Nat} {h1 : List Nat} {e1 : Nat} {sb1 : Option Addr} {mk cb1 : Nat} {rv : Value} {L : List FrM} (i : AddInv FT FR fo w wr p lo v h e B k s1 n1 c1 h1 e1 sb1 mk cb1 rv L) : mk = B.length - k := by
 obtain ⟨s, cap, e1, _⟩ := i.rest
 cases e1
 rw [List.length_drop]
theorem AddInv.ok {FT : TypeId} {FR : Array Value} {fo : Nat} [hfd : FdOk FT FR fo] {w wr : World} {p lo : Nat} {v : Value} {h : List Nat} {e : Nat} {B : List Nat} {k : Nat} {s1 : Option Addr} {n1 c1 : Nat} {h1 : List Nat} {e1 : Nat} {sb1 : Option Addr} {mk cb1 : Nat} {rv : Value} {L : List FrM} (i : AddInv FT FR fo w wr p lo v h e B k s1 n1 c1 h1 e1 sb1 mk cb1 rv L) (hok : FOk ⟨h, e, []⟩) : FOk ⟨h1, e1, L.map FrM.pr⟩ := by
 rw [← i.st]
 exact feedL_ok _ hok
def AddPost (FT : TypeId) (FR : Array Value) (fo : Nat) (w w' : World) (p lo : Nat) (v : Value) (h : List Nat) (e : Nat) (B : List Nat) (rv : Value) : Prop :=
 ∃ (v' : Value) (L : List FrM), FeedM FT FR fo w' p lo v' (feedL ⟨h, e, []⟩ B).h (feedL ⟨h, e, []⟩ B).e ∧ MadeM w' w.heap.size v' rv L ∧ L.map FrM.pr = (feedL ⟨h, e, []⟩ B).out ∧ But (fun k => k = p ∨ slb v k) w w' ∧ (∀ k, slb v' k → slb v k ∨ w.heap.size ≤ k)
theorem AddInv.done {FT : TypeId} {FR : Array Value} {fo : Nat} [hfd : FdOk FT FR fo] {w wr : World} {p lo : Nat} {v : Value} {h : List Nat} {e : Nat} {B : List Nat} {k : Nat} {s1 : Option Addr} {n1 c1 : Nat} {h1 : List Nat} {e1 : Nat} {sb1 : Option Addr} {mk cb1 : Nat} {rv : Value} {L : List FrM} (i : AddInv FT FR fo w wr p lo v h e B k s1 n1 c1 h1 e1 sb1 mk cb1 rv L) (hd : e1 ≠ 0 ∨ k = B.length) : AddPost FT FR fo w wr p lo v h e B rv := by
 have hB : feedL ⟨h, e, []⟩ B = ⟨h1, e1, L.map FrM.pr⟩ := by
  rcases hd with hd | hd
  ·conv => lhs; rw [← List.take_append_drop k B]
   rw [feedL_app, i.st, feedL_bad _ hd]
  ·have h2 := i.st
   rw [hd, List.take_length] at h2
   exact h2
 refine ⟨.slice s1 n1 c1, L, ?_⟩
 rw [hB]
 exact ⟨i.feed, i.made, rfl, i.but, i.own⟩
theorem AddInv.next {FT : TypeId} {FR : Array Value} {fo : Nat} [hfd : FdOk FT FR fo] {w wr w' : World} {p lo : Nat} {v : Value} {h : List Nat} {e : Nat} {B : List Nat} {k k2 : Nat} {s1 s2 : Option Addr} {n1 c1 n2 c2 : Nat} {h1 h2 : List Nat} {e2 : Nat} {sb1 sb2 : Option Addr} {mk cb1 cb2 : Nat} {rv rv2 : Value} {L L2 : List FrM} (i : AddInv FT FR fo w wr p lo v h e B k s1 n1 c1 h1 0 sb1 mk cb1 rv L) (hok : FOk ⟨h, e, []⟩) (h0 : 0 < k2) (hk : k2 ≤ mk) (hed : n1 + k2 ≤ edgeN h1)
  (hs : tell (h1 ++ (B.drop k).take k2) (L.map FrM.pr) = ⟨h2, e2, L2.map FrM.pr⟩) (hF : FeedM FT FR fo w' p lo (.slice s2 n2 c2) h2 e2) (hn2 : n2 = h2.length) (hx2 : ∀ x ∈ h2, x < 256) (hM : MadeM w' w.heap.size (.slice s2 n2 c2) rv2 L2) (hb : But (fun k => k = p ∨ slb v k) w w') (ho : ∀ j, slb (.slice s2 n2 c2) j → slb v j ∨ w.heap.size ≤ j)
  (hr : BsN w' (fun j => (j = p ∨ slb v j) ∨ w.heap.size ≤ j) (.slice sb2 (mk - k2) cb2) (B.drop (k + k2))) (hf : L2.length ≤ L.length + 1) : AddInv FT FR fo w w' p lo v h e B (k + k2) s2 n2 c2 h2 e2 sb2 (mk - k2) cb2 rv2 L2 := by
 have hmk := i.mk'
 have hkl := i.kle
 have hl := i.len
 have hfw := i.few
 refine ⟨hF, hn2, hx2, ?_, hM, hb, ho, hr, by omega, by omega⟩
 rw [List.take_add, feedL_app, i.st, feed_round h1 _ _ (by
  intro hc
  have := congrArg List.length hc
  rw [List.length_take, List.length_drop, List.length_nil] at this
  omega) (by rw [List.length_take, List.length_drop]; omega)]
 exact hs
set_option maxHeartbeats 16000000 in
theorem fadd_any {FT : TypeId} {FR : Array Value} {fo : Nat} [hfd : FdOk FT FR fo] (p lo e m cb : Nat) (sb : Option Addr) (v : Value) (h B : List Nat) (w : World) (hL : Laid w) (hLo : 3 + 1 ≤ lo) (hpl : lo ≤ p) (hF : FeedM FT FR fo w p lo v h e) (hhx : ∀ x ∈ h, x < 256) (hok : FOk ⟨h, e, []⟩) (hlo : lo ≤ w.heap.size) (hb : BsN w (fun k => k = p ∨ slb v k) (.slice sb m cb) B) (hl : B.length ≤ 1400000) :
  Calls Tryd.prog 33 #[.pointer (some ⟨p, fo, none⟩), .slice sb m cb] w fun r w' => ∃ rv, r = .returned rv ∧ AddPost FT FR fo w w' p lo v h e B rv := by
 have hpw := hF.1.lt
 have hx : ∀ x ∈ B, x < 256 := by
  obtain ⟨s, cap, e, h1, h2, h3, h4⟩ := hb
  exact h3
 have hcb : cb < 9223372036854775808 ∧ m = B.length := by
  obtain ⟨s, cap, e, h1, h2, h3, h4⟩ := hb
  cases e
  exact ⟨h2, rfl⟩
 obtain ⟨s0, c0, hv⟩ := hF.2.slice
 have HB : Hid (∀ W, But (fun k => k = p ∨ slb v k) w W → Below lo w W) := fun W hW => hW.below hlo (fun k hk => by
  rcases hk with rfl | hk
  ·exact hpl
  ·exact (hF.2.slb_lo hk).1)
 have HLD : Hid (∀ W, Below lo w W → Laid W) := fun W hW => hL.below hW hLo
 have HE : Hid (∀ W s1 n1 c1 h1 e1, FeedM FT FR fo W p lo (.slice s1 n1 c1) h1 e1 → (∀ x ∈ h1, x < 256) → h1.length ≤ 100000 → Calls Tryd.prog 53 #[.pointer (some ⟨p, fo, none⟩)] W fun r w' => r = .returned (.int .i64 ((edgeN h1 : Nat) : Int)) ∧ Below W.heap.size W w') :=
  fun W s1 n1 c1 h1 e1 hF hx hl => fedge_any p n1 c1 e1 s1 h1 W hF.1 (hF.2.bs hx) hl
 have HFT : Hid (∀ W s1 n1 c1 h1 e1, Below lo w W → FeedM FT FR fo W p lo (.slice s1 n1 c1) h1 e1 → (∀ x ∈ h1, x < 256) → h1.length ≤ 100000 → Calls Tryd.prog 54 #[.pointer (some ⟨p, fo, none⟩)] W fun r w' => r = .returned (.int .i64 ((faultE h1 : Nat) : Int)) ∧ Below W.heap.size W w') :=
  fun W s1 n1 c1 h1 e1 hb hF hx hl => ffault_any p n1 c1 e1 s1 h1 W (hL.below hb hLo) hF.1 (hF.2.bs hx) hl
 have HWH : Hid (∀ W s1 n1 c1 h1 e1, FeedM FT FR fo W p lo (.slice s1 n1 c1) h1 e1 → (∀ x ∈ h1, x < 256) → h1.length ≤ 100000 → Calls Tryd.prog 55 #[.pointer (some ⟨p, fo, none⟩)] W fun r w' => r = .returned (.bool (wholeB h1)) ∧ Below W.heap.size W w') :=
  fun W s1 n1 c1 h1 e1 hF hx hl => fwhole_any p n1 c1 e1 s1 h1 W hF.1 (hF.2.bs hx) hl
 have HWD : Hid (∀ W b1 n1 c1 h1 e1, FeedM FT FR fo W p lo (.slice (some b1) n1 c1) h1 e1 → (∀ x ∈ h1, x < 256) → 16 ≤ h1.length → Calls Tryd.prog 56 #[.pointer (some ⟨p, fo, none⟩)] W fun r w' => r = .returned (.string (strN (wordN h1))) ∧ Below W.heap.size W w') :=
  fun W b1 n1 c1 h1 e1 hF hx hl => fword_any p n1 c1 e1 b1 h1 W hF.1 (hF.2.bs hx) hl
 have HCL : Hid (∀ W b1 o1 n1 c1 h1 e1, FeedM FT FR fo W p lo (.slice (some ⟨b1, o1, none⟩) n1 c1) h1 e1 → (∀ x ∈ h1, x < 256) → 24 ≤ h1.length → h1.length ≤ 100000 → Calls Tryd.prog 57 #[.slice (dropA ⟨b1, o1, none⟩ c1 24) (n1 - 24) (c1 - 24)] W fun r w' => ∃ v, r = .returned v ∧ ∃ s8 c8, v = .slice s8 (h1.drop 24).length c8 ∧ Mine w' W.heap.size (.slice s8 (h1.drop 24).length c8) (h1.drop 24) ∧ Below W.heap.size W w') :=
  fun W b1 o1 n1 c1 h1 e1 hF hx h24 hl => by
   refine (clone_any (h1.drop 24) _ W (bsv_rest 24 (hF.2.bs hx) h24) (by rw [List.length_drop]; omega)).mono ?_
   rintro e w' ⟨v', rfl, hM, hb⟩
   obtain ⟨s, c, rfl⟩ := hM.slice
   exact ⟨_, rfl, s, c, rfl, hM, hb⟩
 have hstart : AddInv FT FR fo w w p lo v h e B 0 s0 h.length c0 h e sb m cb (.slice none 0 0) [] := by
  refine ⟨by rw [← hv]; exact hF, rfl, hhx, rfl, ⟨.inl ⟨rfl, rfl⟩, by simp⟩, But.refl _ _, fun j hj => .inl (by rw [hv]; exact hj), ?_, Nat.zero_le _, Nat.zero_le _⟩
  exact bsn_fresh hb
 have HS := Lib.hid hstart
 have HOK := Lib.hid hok
 have HXB := Lib.hid hx
 have HLB := Lib.hid hl
 obtain ⟨hcb1, hcb2⟩ := hcb
 have HM := Lib.hid hcb2
 clear hstart hok hx hl hb hhx hF hL hv hcb2 hcb1
 go_enter Tryd.func33, Tryd.ntmps33
 go_wp2_with fail
 go_loopw [1, 5] (fun bv mv wr => ∃ (k : Nat) (s1 : Option Addr) (n1 c1 : Nat) (h1 : List Nat) (e1 : Nat) (sb1 : Option Addr) (mk cb1 : Nat) (sr : Option Addr) (lr cr : Nat) (L : List FrM), bv = .slice sb1 mk cb1 ∧ mv = .slice sr lr cr ∧ Hid (AddInv FT FR fo w wr p lo v h e B k s1 n1 c1 h1 e1 sb1 mk cb1 (.slice sr lr cr) L)) (fun bv _ _ => match bv with | .slice _ n _ => n | _ => 0)
 case atStart => exact ⟨0, s0, h.length, c0, h, e, sb, m, cb, none, 0, 0, [], rfl, rfl, HS.out⟩
 case round =>
  obtain ⟨k, s1, n1, c1, h1, e1, sb1, mk, cb1, sr, lr, cr, L, rfl, rfl, HI⟩ := hrel
  clear HS
  have HP := Lib.hid HI.out.feed.1
  have d0 := (fd0 HP.out)
  have d1 := (fd1 HP.out)
  have dz := HP.out.lt
  by_cases he : e1 ≠ 0
  ·have q1 : ((e1 : Int) == 0) = false := by rw [beq_eq_false_iff_ne]; omega
   have HD := Lib.hid (HI.out.done (.inl he))
   clear he
   go_wp2_with fail
   go_ret
   exact ⟨_, rfl, HD.out⟩
  have he : e1 = 0 := by omega
  subst he
  by_cases hk : mk = 0
  ·have q1 : decide ((0 : Int) < (mk : Int)) = false := decide_eq_false (by omega)
   have q1n : decide (0 < mk) = false := decide_eq_false (by omega)
   have HD := Lib.hid (HI.out.done (.inr (by have := HI.out.mk'; have := HI.out.kle; omega)))
   clear hk
   go_wp2_with fail
   go_ret
   exact ⟨_, rfl, HD.out⟩
  have q1 : decide ((0 : Int) < (mk : Int)) = true := decide_eq_true (by omega)
  have q1n : decide (0 < mk) = true := decide_eq_true (by omega)
  have hOk : hOk h1 := (HI.out.ok HOK.out).2.1 rfl
  have hh : h1.length < 16408 := hOk_len hOk
  have hel : edgeN h1 ≤ 16408 := edge_le hOk
  have hlen := HI.out.len
  have hmk := HI.out.mk'
  obtain ⟨bb, bo, rfl⟩ : ∃ bb bo, sb1 = some ⟨bb, bo, none⟩ := by
   obtain ⟨s, cap, e1, g1, g2, g3, g4⟩ := HI.out.rest
   cases e1
   obtain ⟨b', o', e2, _⟩ := g4 (by rintro hc; rw [hc] at hk; exact hk rfl)
   exact ⟨b', o', e2⟩
  have hcb1 : mk ≤ cb1 ∧ cb1 < 9223372036854775808 := by
   obtain ⟨s, cap, e1, g1, g2, g3, g4⟩ := HI.out.rest
   cases e1
   exact ⟨g1, g2⟩
  have HEd := Lib.hid (HE.out wr s1 n1 c1 h1 0 HI.out.feed HI.out.hx (by omega))
  have hn1 : n1 < edgeN h1 := by have h9 : h1.length < edgeN h1 := hOk.1; omega
  obtain ⟨k2, hk2⟩ : ∃ k2, k2 = min (edgeN h1 - n1) mk := ⟨_, rfl⟩
  have hk2a : 0 < k2 := by omega
  have hk2b : k2 ≤ mk := by omega
  have hk2c : n1 + k2 ≤ edgeN h1 := by omega
  have hq : IntKind.i64.wrap (((edgeN h1 : Nat) : Int) - (n1 : Int)) = ((edgeN h1 - n1 : Nat) : Int) := by
   simp [IntKind.wrap, IntKind.signed, IntKind.bits]
   omega
  have hmin : (if mk < edgeN h1 - n1 then (mk : Int) else ((edgeN h1 - n1 : Nat) : Int)) = (k2 : Int) := by
   split <;> omega
  have HF1 := Lib.hid HI.out.feed
  have HA := Lib.hid (show 0 < k2 ∧ k2 ≤ mk ∧ n1 + k2 ≤ edgeN h1 ∧ h1.length < 16408 ∧ n1 = h1.length ∧ edgeN h1 ≤ 16408 ∧ mk = B.length - k ∧ mk ≤ cb1 ∧ cb1 < 9223372036854775808 from ⟨hk2a, hk2b, hk2c, hh, hlen, hel, hmk, hcb1.1, hcb1.2⟩)
  have hsl4 := slice_front bb bo mk cb1 k2 (by omega)
  have HS5 : Hid (∀ w, (Instr.slice 32 (.slice (some ⟨bb, bo, none⟩) mk cb1) (some (.int .i64 (k2 : Int))) none none).run Tryd.prog w = .ok (.slice (dropA ⟨bb, bo, none⟩ cb1 k2) (mk - k2) (cb1 - k2)) w) := slice_rest bb bo mk cb1 k2 (by omega) (by omega) (by omega)
  have HHX := Lib.hid HI.out.hx
  obtain ⟨h2, hh2⟩ : ∃ h2, h2 = h1 ++ (B.drop k).take k2 := ⟨_, rfl⟩
  have HH2 := Lib.hid hh2
  have hh2l : h2.length = n1 + k2 := by rw [hh2, List.length_append, List.length_take, List.length_drop]; omega
  have HH2L := Lib.hid hh2l
  have HH2X : Hid (∀ x ∈ h2, x < 256) := by
   show ∀ x ∈ h2, _
   intro x hx2
   rw [hh2] at hx2
   rcases List.mem_append.1 hx2 with h3 | h3
   ·exact HI.out.hx x h3
   ·exact HXB.out x (List.mem_of_mem_drop (List.mem_of_mem_take h3))
  have HTL : Hid (tell h2 (L.map FrM.pr) = if faultE h2 ≠ 0 then ⟨[], faultE h2, L.map FrM.pr⟩ else if wholeB h2 = true then ⟨[], 0, L.map FrM.pr ++ [(wordN h2, h2.drop 24)]⟩ else ⟨h2, 0, L.map FrM.pr⟩) := rfl
  have HSQ := Lib.hid q1
  clear hk hOk hh hel hlen hmk hcb1 hn1 hk2 hk2a hk2b hk2c hh2 hh2l
  go_upto_region 3 with fail
  obtain ⟨ed, hed⟩ : ∃ ed, ed = edgeN h1 := ⟨_, rfl⟩
  rw [← hed] at HEd hq hmin
  obtain ⟨qq, hqq⟩ : ∃ qq, qq = ed - n1 := ⟨_, rfl⟩
  rw [← hqq] at hq hmin
  refine addR3 p n1 c1 0 mk cb1 ed qq k2 s1 (some ⟨bb, bo, none⟩) wr _ _ _ _ _ _ _ _ _ _ _ _ _ _ _ _ _ _ _ _ _ _ _ _ _ _ _ _ _ _ _ _ _ _ _ _ _ _ _ _ _ _ _ _ _ _ _ _ _ _ _ _ _ _ _ _ _ _ _ _ _ _ _ _ _ _ _ _ _ _ _ _ HP (Lib.hid (fun W hW => HE.out W s1 n1 c1 h1 0 (HF1.out.keep hW) HHX.out (by have := HA.out; omega) |>.mono (by rintro r w' ⟨rfl, hb⟩; rw [hed]; exact ⟨rfl, hb⟩))) hq hmin (Lib.hid (fun _ _ _ _ _ _ _ _ _ _ _ w2 hb2 => ?_))
  clear hed hqq hq hmin HEd
  have HF2 := Lib.hid (HF1.out.keep hb2)
  have HB2 := Lib.hid hb2
  have HR2 := Lib.hid (HI.out.rest.keep hb2)
  clear hb2 HF1
  go_upto_region 4 with fail
  refine addR4 p lo n1 c1 0 mk cb1 k2 s1 (some ⟨bb, bo, none⟩) h1 ((B.drop k).take k2) w2 _ _ _ _ _ _ _ _ _ _ _ _ _ _ _ _ _ _ _ _ _ _ _ _ _ _ _ _ _ _ _ _ _ _ _ _ _ _ _ _ _ _ _ _ _ _ _ _ _ _ _ _ _ _ _ _ _ _ _ _ _ _ _ _ _ _ _ _ _ _ _ HF2 (by have := HB2.out.size; have := HI.out.but.size; omega) (Lib.hid (bsn_front k2 (HR2.out.mono (fun j _ hj => hj.elim (fun h => .inl (.inl h)) (fun h => (HI.out.own j h).imp .inr id))) (by rw [List.length_drop]; have := HA.out; omega))) (by rw [List.length_take]; have := HA.out; omega) hsl4 (Lib.hid (fun _ _ _ _ _ _ _ _ _ _ _ v8 w3 hP3 hM3 hb3 hs3 => ?_))
  rw [← HH2.out] at hM3
  obtain ⟨s3, c3, rfl⟩ := hM3.slice
  have HF3 : Hid (FeedM FT FR fo w3 p lo (.slice s3 h2.length c3) h2 0) := ⟨hP3, hM3⟩
  have HM3 := Lib.hid ((HI.out.made.keep HB2.out).butF HF2.out hb3 hs3)
  have HU3 : Hid (But (fun k => k = p ∨ slb v k) w w3) := ((HI.out.but.step HB2.out).trans hb3 (fun j hj hs => by
   rcases hs with rfl | hs
   ·exact .inl rfl
   ·rcases HI.out.own j hs with h4 | h4
    ·exact .inr h4
    ·omega))
  have HO3 : Hid (∀ j, slb (.slice s3 h2.length c3) j → slb v j ∨ w.heap.size ≤ j) := fun j hj => by
   rcases hs3 j hj with h4 | h4
   ·exact HI.out.own j h4
   ·exact .inr (by have := HB2.out.size; have := HI.out.but.size; omega)
  have HR3 : Hid (BsN w3 (fun j => (j = p ∨ slb v j) ∨ w.heap.size ≤ j) (.slice (dropA ⟨bb, bo, none⟩ cb1 k2) (mk - k2) (cb1 - k2)) (B.drop (k + k2))) := by
   show BsN _ _ _ _
   have h5 := bsn_rest k2 (HR2.out.but (hb3.mono (fun j _ hj => hj.elim (fun h => .inl (.inl h)) (fun h => (HI.out.own j h).imp .inr id)))) (by rw [List.length_drop]; have := HA.out; omega)
   rw [List.drop_drop] at h5
   exact h5
  have HZ3 : Hid (w.heap.size ≤ w3.heap.size) := HU3.out.size
  clear hP3 hM3 hb3 hs3 HF2 HR2 HB2 d0 d1 dz HP
  obtain ⟨sb3, hsb3⟩ : ∃ sb3, sb3 = dropA ⟨bb, bo, none⟩ cb1 k2 := ⟨_, rfl⟩
  rw [← hsb3] at HR3 HS5
  clear hsb3
  obtain ⟨n3, hn3⟩ : ∃ n3, n3 = h2.length := ⟨_, rfl⟩
  rw [← hn3] at HF3 HM3 HO3
  have HN3 := Lib.hid hn3
  clear hn3
  have HFC := Lib.hid (HFT.out w3 s3 n3 c3 h2 0 (HB.out w3 HU3.out) HF3.out HH2X.out (by have := HA.out; have := HH2L.out; omega))
  have hsl5 := HS5.out
  go_wp2_with fail
  refine HFC.out.mono ?_
  rintro r w4 ⟨rfl, hb4⟩
  have HF4 := Lib.hid (HF3.out.keep hb4)
  have HM4 := Lib.hid (HM3.out.keep hb4)
  have HU4 := Lib.hid (HU3.out.step hb4)
  have HR4 := Lib.hid (HR3.out.keep hb4)
  have c0 := fd0 HF4.out.1
  have c1_ := fd1 HF4.out.1
  have z4 := HF4.out.1.lt
  have f1 := HF4.out.1.frozen (fo + 1)
  have f0 := HF4.out.1.frozen fo
  clear hb4 HFC HF3 HM3 HU3 HR3 hsl5 hsl4
  obtain ⟨fe, hfe⟩ : ∃ fe, fe = faultE h2 := ⟨_, rfl⟩
  rw [← hfe] at HTL ⊢
  have HFE := Lib.hid hfe
  clear hfe
  go_upto_region 7 with fail
  refine wp_any (fun W => FeedM FT FR fo W p lo (.slice s3 n3 c3) h2 fe ∧ MadeM W w.heap.size (.slice s3 n3 c3) (.slice sr lr cr) L ∧ But (fun k => k = p ∨ slb v k) w W ∧ BsN W (fun j => (j = p ∨ slb v j) ∨ w.heap.size ≤ j) (.slice sb3 (mk - k2) (cb1 - k2)) (B.drop (k + k2)))
   ⟨⟨fds1 HF4.out.1 _, feed_store HF4.out.1 HF4.out.2 (fo + 1)⟩, HM4.out.set_ HF4.out.1 (fun _ h => h), HU4.out.set_ (.inl (.inl rfl)) (fo + 1) none _, HR4.out.but (But.set_ (But.refl (fun j => (j = p ∨ slb v j) ∨ w.heap.size ≤ j) w4) (.inl (.inl (.inl rfl))) (fo + 1) none _)⟩ ?_
  rintro W5 ⟨hF5, hM5, hU5, hR5⟩
  have HF5 := Lib.hid hF5
  have HM5 := Lib.hid hM5
  have HU5 := Lib.hid hU5
  have HR5 := Lib.hid hR5
  have c0 := fd0 hF5.1
  have c1_ := fd1 hF5.1
  have z5 := hF5.1.lt
  have f0 := hF5.1.frozen fo
  clear hF5 hM5 hU5 hR5 HF4 HM4 HU4 HR4 z4 f1
  by_cases hfz : fe ≠ 0
  ·have q2 : ((fe : Int) != 0) = true := by rw [bne_iff_ne]; omega
   have ht := HTL.out
   rw [if_pos hfz] at ht
   have HT := Lib.hid ht
   clear ht hfz HTL HWH HWD HCL HE HFT
   go_wp2_with fail
   go_roundw
   case rel =>
    refine ⟨k + k2, none, 0, 0, [], fe, sb3, mk - k2, cb1 - k2, sr, lr, cr, L, rfl, rfl, ?_⟩
    refine HI.out.next HOK.out HA.out.1 HA.out.2.1 HA.out.2.2.1 (by rw [← HH2.out]; exact HT.out) ⟨fds0 HF5.out.1 _, mine_nil _ _⟩ rfl (by simp) (HM5.out.set_ HF5.out.1 (fun j hj => absurd hj (slb_none _ _ _))) (HU5.out.set_ (.inl (.inl rfl)) fo none _) (fun j hj => absurd hj (slb_none _ _ _)) ?_ (Nat.le_succ _)
    exact HR5.out.but (But.set_ (But.refl (fun j => (j = p ∨ slb v j) ∨ w.heap.size ≤ j) W5) (.inl (.inl (.inl rfl))) fo none _)
   case measure => have := HA.out; show mk - k2 < mk; omega
  have hfz : fe = 0 := by omega
  subst hfz
  have hwn : faultE h2 = 0 := HFE.out.symm
  have ht := HTL.out
  rw [if_neg (by simp)] at ht
  have HT := Lib.hid ht
  have HWc := Lib.hid (HWH.out W5 s3 n3 c3 h2 0 HF5.out HH2X.out (by have := HA.out; have := HH2L.out; omega))
  clear ht HTL hwn HFE
  go_wp2_with fail
  refine HWc.out.mono ?_
  rintro r w6 ⟨rfl, hb6⟩
  have HF6 := Lib.hid (HF5.out.keep hb6)
  have HM6 := Lib.hid (HM5.out.keep hb6)
  have HU6 := Lib.hid (HU5.out.step hb6)
  have HR6 := Lib.hid (HR5.out.keep hb6)
  have c0 := fd0 HF6.out.1
  have z6 := HF6.out.1.lt
  have f0 := HF6.out.1.frozen fo
  clear hb6 HWc HF5 HM5 HU5 HR5 z5 c1_
  obtain ⟨wb, hwb⟩ : ∃ wb, wb = wholeB h2 := ⟨_, rfl⟩
  rw [← hwb] at HT ⊢
  have HWB := Lib.hid hwb
  clear hwb
  cases wb
  ·go_wp2_with fail
   go_roundw
   case rel =>
    exact ⟨k + k2, s3, n3, c3, h2, 0, sb3, mk - k2, cb1 - k2, sr, lr, cr, L, rfl, rfl, HI.out.next HOK.out HA.out.1 HA.out.2.1 HA.out.2.2.1 (by rw [← HH2.out]; exact HT.out) HF6.out HN3.out HH2X.out HM6.out HU6.out HO3.out HR6.out (Nat.le_succ _)⟩
   case measure => have := HA.out; show mk - k2 < mk; omega
  ·have hwh := (wholeB_iff h2).1 HWB.out.symm
   have h24 := hwh.1
   obtain ⟨b3, o3, rfl⟩ : ∃ b3 o3, s3 = some ⟨b3, o3, none⟩ := by
    have hm := HF6.out.2
    rcases hm with ⟨hm, _⟩ | ⟨T, cap, z, hm, _⟩
    ·cases hm
     have := HN3.out
     omega
    ·cases hm
     exact ⟨_, _, rfl⟩
   have hcp : n3 ≤ c3 ∧ c3 < 9223372036854775808 := by
    obtain ⟨s', cap', e', g1, g2, _⟩ := HF6.out.2.bs HH2X.out
    cases e'
    exact ⟨g1, g2⟩
   have hsl10 : ∀ w, (Instr.slice 32 (.slice (some ⟨b3, o3, none⟩) n3 c3) (some (.int .i64 24)) none none).run Tryd.prog w = .ok (.slice (dropA ⟨b3, o3, none⟩ c3 24) (n3 - 24) (c3 - 24)) w := slice_rest b3 o3 n3 c3 24 (by have := HN3.out; omega) hcp.1 hcp.2
   have H24 := Lib.hid h24
   clear hwh h24 hcp
   go_upto_region 10 with fail
   refine addR10 p b3 o3 lo w.heap.size n3 c3 0 (h2.drop 24).length (dropA ⟨b3, o3, none⟩ c3 24) (.slice sr lr cr) (strN (wordN h2)) h2 (wordN h2) (h2.drop 24) L w6 _ _ _ _ _ _ _ _ _ _ _ _ _ _ _ _ _ _ _ _ _ _ _ _ _ _ _ _ _ _ _ _ _ _ _ _ _ _ _ _ _ _ _ _ _ _ _ _ _ _ _ _ _ _ _ _ _ _ _ _ _ _ _ _ _ _ _ _ _ _ _ _ HF6 HU6.out.size (Lib.hid HM6.out.1) (Lib.hid rfl) (Lib.hid rfl) (by have := HI.out.few; have := HI.out.kle; have := HLB.out; omega) hsl10
    (Lib.hid (fun W hW _ => HWD.out W _ n3 c3 h2 0 hW.1 HH2X.out (by have := H24.out; omega)))
    (Lib.hid (fun W hW _ => HCL.out W b3 o3 n3 c3 h2 0 hW.1 HH2X.out H24.out (by have := HA.out; have := HH2L.out; omega)))
    (Lib.hid (fun _ _ _ _ _ _ _ _ _ _ _ _ v11 s8 c8 W0 w7 hR7 hM7 hb7 ht7 hF7 hl7 => ?_))
   have HF7 := Lib.hid hF7
   have hmr : MineR frR W0 w.heap.size (.slice sr lr cr) L := HM6.out.1.keep hb7
   have HM7 : Hid (MadeM w7 w.heap.size (.slice none 0 0) v11 (L ++ [⟨wordN h2, s8, c8, h2.drop 24⟩])) := by
    refine ⟨hR7, fun x hx => ?_⟩
    rcases List.mem_append.1 hx with h5 | h5
    ·exact ⟨((HM6.out.2 x h5).1.keep hb7).butR hmr ht7, fun j _ hj => slb_none _ _ _ hj⟩
    ·rw [List.mem_singleton.1 h5]
     exact ⟨(hM7.butR hmr ht7).mono HU6.out.size, fun j _ hj => slb_none _ _ _ hj⟩
   have HU7 : Hid (But (fun k => k = p ∨ slb v k) w w7) := HU6.out.trans (But.of_lo hl7) (fun j hj h5 => absurd h5 (by omega))
   have HR7 : Hid (BsN w7 (fun j => (j = p ∨ slb v j) ∨ w.heap.size ≤ j) (.slice sb3 (mk - k2) (cb1 - k2)) (B.drop (k + k2))) := HR6.out.but ((But.of_lo hl7).mono (fun j _ hj => .inr hj))
   obtain ⟨sr7, cr7, rfl⟩ := hR7.slice
   have c0 := fd0 hF7.1
   have z7 := hF7.1.lt
   have f0 := hF7.1.frozen fo
   clear hR7 hM7 hb7 ht7 hF7 hl7 hmr
   go_wp2_with fail
   go_roundw
   case rel =>
    refine ⟨k + k2, none, 0, 0, [], 0, sb3, mk - k2, cb1 - k2, _, _, _, _, rfl, rfl, HI.out.next HOK.out HA.out.1 HA.out.2.1 HA.out.2.2.1 (by rw [← HH2.out, HT.out]; simp [FrM.pr]) ⟨fds0 HF7.out.1 _, mine_nil _ _⟩ rfl (by simp) (HM7.out.set_ HF7.out.1 (fun j hj => hj)) (HU7.out.set_ (.inl (.inl rfl)) fo none _) (fun j hj => absurd hj (slb_none _ _ _)) ?_ (by simp)⟩
    exact HR7.out.but (But.set_ (But.refl (fun j => (j = p ∨ slb v j) ∨ w.heap.size ≤ j) w7) (.inl (.inl (.inl rfl))) fo none _)
   case measure => have := HA.out; show mk - k2 < mk; omega
end Go.Proofs.YtkpffjcdalclmaaDoor
