/-
  What is proved: for every header and every two numbers of tries the law HeadNonces returns true, and its arguments read behind the call as they read before; the two listed tables of package hash are taken to hold what the program's text lays in them, and the card ties them to it.
-/
import Derived.Test.YtkhiicnahijnoaaDoorHeaI
import Derived.Test.YtkhiicnahijnoaaDoorHdArg
import Derived.Test.YtkhiicnahijnoaaDoorOpen
import Derived.Test.YtkhiicnahijnoaaDoorTie
import Derived.Test.YtkhiicnahijnoaaDoorCards
import Derived.Stop.Joined
namespace Go.Proofs.YtkhiicnahijnoaaDoor.headNonces
open Go.ChangeShapes Go.WideShapes Go.ChangeAt Go.RowKit
set_option linter.unusedVariables false

theorem own : ownKnob Tryd.prog.godebug = none := by kernel_rfl
theorem laidOut : laidOutB Tryd.prog = true := by kernel_rfl
theorem wf_i64 {z : Int} (h : (Lit.int .i64 z).wf = true) : -9223372036854775808 ≤ z ∧ z ≤ 9223372036854775807 := by
  simp [Lit.wf, IntKind.min, IntKind.max, IntKind.signed, IntKind.bits] at h
  omega

theorem mine_more (h : Hd) (l : Nat) : ∀ (r s k : Nat) (x : Hd), r ≤ s → mineV h l k r = some x → mineV h l k s = some x := by
  intro r
  induction r with
  | zero => intro s k x _ e; cases e
  | succ r ih =>
    intro s k x hs e
    obtain ⟨q, rfl⟩ : ∃ q, s = q + 1 := ⟨s - 1, by omega⟩
    unfold mineV at e ⊢
    by_cases hp : provV (hAt h k) l = 0
    · rw [if_pos hp] at e ⊢; exact e
    · rw [if_neg hp] at e ⊢; exact ih q (k + 1) x (by omega) e
theorem mine_at (h : Hd) (l : Nat) : ∀ (r k : Nat) (x : Hd), mineV h l k r = some x → ∃ j, k ≤ j ∧ j < k + r ∧ x = hAt h j := by
  intro r
  induction r with
  | zero => intro k x e; cases e
  | succ r ih =>
    intro k x e
    unfold mineV at e
    by_cases hp : provV (hAt h k) l = 0
    · rw [if_pos hp] at e
      cases e
      exact ⟨k, Nat.le_refl _, by omega, rfl⟩
    · rw [if_neg hp] at e
      obtain ⟨j, h1, h2, h3⟩ := ih (k + 1) x e
      exact ⟨j, by omega, by omega, h3⟩
theorem hd_back {h : Hd} (i : IsHd h) (k : Nat) : (hdA (hAt h k)).setIfInBounds 67 (.int .u32 (h.n : Int)) = hdA h := by
  have e := hd_nonce (hAt_is i k) ((4294967296 - (h.n + k) % 4294967296) + h.n)
  have e1 : ((hAt h k).n + ((4294967296 - (h.n + k) % 4294967296) + h.n)) % 4294967296 = h.n := by
    have := i.n
    show ((h.n + k) % 4294967296 + ((4294967296 - (h.n + k) % 4294967296) + h.n)) % 4294967296 = h.n
    omega
  have e2 : hAt (hAt h k) ((4294967296 - (h.n + k) % 4294967296) + h.n) = h := by
    unfold hAt at e1 ⊢
    rw [hd_ext]
    exact ⟨rfl, rfl, rfl, rfl, rfl, e1⟩
  rw [e1, e2] at e
  exact e
set_option maxRecDepth 100000 in
set_option maxHeartbeats 8000000 in
theorem walk_out (h : Hd) (t0 t1 : Int) (w : World) (hL : Laid w) (ht : t1 < t0 ∨ (¬ t1 < t0 ∧ 40 < t1)) :
    Calls Tryd.prog 5 #[hdv h, .agg #[.int .i64 t0, .int .i64 t1]] w fun e w' => e = .returned (.bool true) ∧ Below w.heap.size w w' := by
  have HL := Lib.hid hL
  show Calls Tryd.prog _ #[.agg (hdA h), _] w _
  generalize hdA h = A at *
  clear hL
  rcases ht with ht | ⟨ht, ht2⟩
  all_goals
    try have hd1 : decide (t1 < t0) = true := decide_eq_true (by assumption)
    try have hd1 : decide (t1 < t0) = false := decide_eq_false (by assumption)
    try have hd2 : decide (40 < t1) = true := decide_eq_true (by assumption)
    go_enter Tryd.func5, Tryd.ntmps5
    have hA : Below w.heap.size w ((w.alloc (.cells A 26)).alloc (.cells #[.int .i64 t0, .int .i64 t1] 41)) := ((Below.refl _ _).alloc (Nat.le_refl _) _).alloc (by simp) _
    go_wp2_with fail
    refine (reads_any _ (HL.out.keep hA)).mono ?_
    rintro e w1 ⟨rfl, hb1⟩
    have KA : Bk w1 w.heap.size 26 A := Bk.keep ((Bk.new _ _ _).alloc _) hb1
    have KT : Bk w1 (w.heap.size + 1) 41 #[.int .i64 t0, .int .i64 t1] := Bk.keep (Bk.new' _ _ _ (by simp)) hb1
    have hW := Lib.hid (below_step hA (by simp; omega) hb1)
    obtain ⟨gt, hgt⟩ : ∃ gt, gt = w.heap.size + 1 := ⟨_, rfl⟩
    rw [← hgt] at KT ⊢
    have hgg : w.heap.size < gt := by omega
    have HGT := Lib.hid hgt
    clear hb1 hA hgt
    have c0 := KT.cell 0
    have c1 := KT.cell 1
    go_wp2_with fail
    go_ret
    exact ⟨rfl, hW.out⟩
set_option maxRecDepth 100000 in
set_option maxHeartbeats 8000000 in
theorem walk_inn (h : Hd) (t0 t1 : Int) (w : World) (hL : Laid w) (k : IsHd h) (hlo : -9223372036854775808 ≤ t0) (h01 : ¬ t1 < t0) (h40 : ¬ 40 < t1) :
    Calls Tryd.prog 5 #[hdv h, .agg #[.int .i64 t0, .int .i64 t1]] w fun e w' => e = .returned (.bool true) ∧ Below w.heap.size w w' := by
  have HM0 := Lib.hid (fun W (hw : Laid W) => mine_any h 545259519 t0 W k (by omega) (by omega) hw)
  have HM1 := Lib.hid (fun W (hw : Laid W) => mine_any h 545259519 t1 W k (by omega) (by omega) hw)
  have HL := Lib.hid hL
  have hd1 : decide (t1 < t0) = false := decide_eq_false h01
  have hd2 : decide (40 < t1) = false := decide_eq_false h40
  have sa := hdA_size k
  have hn : mineN t0 ≤ mineN t1 := by unfold mineN; omega
  have hzv := zero_hd
  have hne := hd_ne
  have s0 := hdA_size hd0_is
  have one0 := hdA_one hd0
  have heq0 : ∀ W, (Op.equalIn 10000 26 (.agg (hdA hd0)) (.agg (hdA hd0))).run Tryd.prog W = .ok true W := fun W => by
    have h := hd_eql hd0_is hd0_is W
    rwa [(hdEq_iff _ _).2 rfl] at h
  have heqA : ∀ W, (Op.equalIn 10000 26 (.agg (hdA h)) (.agg (hdA h))).run Tryd.prog W = .ok true W := fun W => by
    have h := hd_eql k k W
    rwa [(hdEq_iff _ _).2 rfl] at h
  obtain ⟨tl, htl⟩ : ∃ tl : TypeId, tl = 26 := ⟨_, rfl⟩
  obtain ⟨sz, hsz0⟩ : ∃ sz : Nat, sz = 68 := ⟨_, rfl⟩
  have hag : ∀ w, (isAgg tl).run Tryd.prog w = .ok true w := by rw [htl]; exact hd_agg
  have hsz : ∀ w, (sizeOf tl).run Tryd.prog w = .ok sz w := by rw [htl, hsz0]; exact hd_size
  have HLD := Lib.hid (show ∀ (B : Array Value) (w : World) (g : Nat), B.size = 68 → Bk w g 26 B → (loadCellsFrom ⟨g, 0, none⟩ 0 sz #[]).run Tryd.prog w = .ok B w by rw [hsz0]; exact fun B w g hs h => hd_load h hs)
  have HTL := Lib.hid (show ∀ z, Op.load 26 z = Op.load tl z from fun z => by rw [htl])
  clear htl hsz0
  rcases h1 : mineV h 545259519 0 (mineN t1) with _ | x
  · have h0 : mineV h 545259519 0 (mineN t0) = none := by
      rcases e : mineV h 545259519 0 (mineN t0) with _ | y
      · rfl
      · rw [mine_more h _ _ _ _ _ hn e] at h1; cases h1
    rw [h0] at HM0
    rw [h1] at HM1
    change Hid (∀ W, Laid W → Calls Tryd.prog _ #[.agg (hdA h), .int .u32 545259519, .int .i64 t0] W fun e w' => e = .returned (.tuple #[.agg (hdA hd0), .bool false]) ∧ _) at HM0
    change Hid (∀ W, Laid W → Calls Tryd.prog _ #[.agg (hdA h), .int .u32 545259519, .int .i64 t1] W fun e w' => e = .returned (.tuple #[.agg (hdA hd0), .bool false]) ∧ _) at HM1
    show Calls Tryd.prog _ #[.agg (hdA h), _] w _
    generalize hdA h = A at *
    generalize hdA hd0 = A0 at *
    clear hL k hn h0 h1
    go_enter Tryd.func5, Tryd.ntmps5
    have hA : Below w.heap.size w ((w.alloc (.cells A 26)).alloc (.cells #[.int .i64 t0, .int .i64 t1] 41)) := ((Below.refl _ _).alloc (Nat.le_refl _) _).alloc (by simp) _
    go_wp2_with fail
    refine (reads_any _ (HL.out.keep hA)).mono ?_
    rintro e w1 ⟨rfl, hb1⟩
    have KA : Bk w1 w.heap.size 26 A := Bk.keep ((Bk.new _ _ _).alloc _) hb1
    have KT : Bk w1 (w.heap.size + 1) 41 #[.int .i64 t0, .int .i64 t1] := Bk.keep (Bk.new' _ _ _ (by simp)) hb1
    have hW := Lib.hid (below_step hA (by simp; omega) hb1)
    obtain ⟨gt, hgt⟩ : ∃ gt, gt = w.heap.size + 1 := ⟨_, rfl⟩
    rw [← hgt] at KT ⊢
    have hgg : w.heap.size < gt := by omega
    have HGT := Lib.hid hgt
    clear hb1 hA hgt
    have c0 := KT.cell 0
    have c1 := KT.cell 1
    have l0 := HLD.out _ _ _ sa KA
    have htl := HTL.out
    go_upto_region 5 with fail
    simp only [htl]
    clear htl
    go_wp2_with fail
    refine (HM0.out _ (HL.out.below hW.out HL.out.size)).mono ?_
    rintro e w2 ⟨rfl, hb2⟩
    have hW := Lib.hid (below_step hW.out hW.out.size hb2)
    have KA := KA.keep hb2
    have KT := KT.keep hb2
    clear hb2 l0 c0 c1 HM0
    have zt := KT.lt
    have N2 := Bk.new w2 26 A0
    go_upto_region 6 with (refine wpList_store_mid rfl 26 (.tmp 5) (.tmp 27) rfl w2.heap.size 0 A0 rfl rfl (by rw [s0]; exact N2.there 68 (by rw [s0]; exact Nat.le_refl _)) (by rw [s0]; exact hd_info) one0 ?_)
    refine wp_any (fun V => Below w.heap.size w V ∧ Bk V w.heap.size 26 A ∧ Bk V gt 41 #[.int .i64 t0, .int .i64 t1] ∧ Bk V w2.heap.size 26 A0) ⟨Below.setCells hW.out.size _ _ _ (hW.out.alloc hW.out.size _), rowFar (KA.alloc _) (by omega) _ _, rowFar (KT.alloc _) (by omega) _ _, N2.setAll rfl⟩ ?_
    clear hW KA KT N2
    generalize w2.heap.size = g5 at *
    rintro V ⟨hW, KA, KT, K5⟩
    have hW := Lib.hid hW
    have l0 := HLD.out _ _ _ sa KA
    have c0 := KT.cell 0
    have c1 := KT.cell 1
    have htl := HTL.out
    go_upto_region 6 with fail
    simp only [htl]
    clear htl
    go_wp2_with fail
    refine (HM1.out _ (HL.out.below hW.out HL.out.size)).mono ?_
    rintro e w3 ⟨rfl, hb3⟩
    have hW := Lib.hid (below_step hW.out hW.out.size hb3)
    have K5 := K5.keep hb3
    clear hb3 l0 c0 c1 HM1 KA KT
    have z5 := K5.lt
    have N3 := Bk.new w3 26 A0
    go_upto_region 7 with (refine wpList_store_mid rfl 26 (.tmp 7) (.tmp 34) rfl w3.heap.size 0 A0 rfl rfl (by rw [s0]; exact N3.there 68 (by rw [s0]; exact Nat.le_refl _)) (by rw [s0]; exact hd_info) one0 ?_)
    refine wp_any (fun V => Below w.heap.size w V ∧ Bk V w3.heap.size 26 A0) ⟨Below.setCells hW.out.size _ _ _ (hW.out.alloc hW.out.size _), N3.setAll rfl⟩ ?_
    clear hW K5 N3
    generalize w3.heap.size = g7 at *
    rintro V ⟨hW, K7⟩
    have hW := Lib.hid hW
    have l0 := HLD.out _ _ _ s0 K7
    have htl := HTL.out
    go_upto_region 10 with fail
    simp only [htl]
    clear htl
    go_wp2_with fail
    go_ret
    exact ⟨rfl, hW.out⟩
  · obtain ⟨j, _, hj, hx⟩ := mine_at h _ _ _ _ h1
    have hj40 : j < 40 ∧ (j : Int) < t1 := by unfold mineN at hj; omega
    have hxs : x = hAt h j := hx
    have kx : IsHd x := by rw [hxs]; exact hAt_is k j
    rw [h1] at HM1
    change Hid (∀ W, Laid W → Calls Tryd.prog _ #[.agg (hdA h), .int .u32 545259519, .int .i64 t1] W fun e w' => e = .returned (.tuple #[.agg (hdA x), .bool true]) ∧ _) at HM1
    have h0 : mineV h 545259519 0 (mineN t0) = none ∨ mineV h 545259519 0 (mineN t0) = some x := by
      rcases e : mineV h 545259519 0 (mineN t0) with _ | y
      · exact .inl rfl
      · rw [mine_more h _ _ _ _ _ hn e] at h1; exact .inr h1
    have hM0 : ∃ (b0 : Bool) (C : Array Value), C.size = 68 ∧ C.all (·.oneCell') = true ∧ (b0 = true → C = hdA x) ∧ ∀ W, Laid W → Calls Tryd.prog 19 #[.agg (hdA h), .int .u32 545259519, .int .i64 t0] W fun e w' => e = .returned (.tuple #[.agg C, .bool b0]) ∧ Below W.heap.size W w' := by
      rcases h0 with h0 | h0
      · rw [h0] at HM0
        exact ⟨false, hdA hd0, s0, one0, (fun h => by cases h), HM0.out⟩
      · rw [h0] at HM0
        exact ⟨true, hdA x, hdA_size kx, hdA_one x, fun _ => rfl, HM0.out⟩
    clear HM0 h0 h1 hn
    obtain ⟨b0, C, sc, onec, hCx, hM0⟩ := hM0
    have HM0 := Lib.hid hM0
    clear hM0
    have sx := hdA_size kx
    have onex := hdA_one x
    have heqx : ∀ W, (Op.equalIn 10000 26 (.agg (hdA x)) (.agg (hdA x))).run Tryd.prog W = .ok true W := fun W => by
      have h := hd_eql kx kx W
      rwa [(hdEq_iff _ _).2 rfl] at h
    have hcx := hdA_n kx
    have hca := hdA_n k
    have hset : (hdA x).setIfInBounds 67 (.int .u32 (h.n : Int)) = hdA h := by rw [hxs]; exact hd_back k j
    have hxn : x.n = (h.n + j) % 4294967296 := by rw [hxs]; rfl
    have hnl := k.n
    have hsub : ((x.n : Int) - (h.n : Int)) % 4294967296 = (j : Int) := by omega
    have hqn := kx.n
    have hjt : decide ((j : Int) < t1) = true := decide_eq_true hj40.2
    have hj4 := hj40.1
    show Calls Tryd.prog _ #[.agg (hdA h), _] w _
    generalize hdA h = A at *
    generalize hdA x = X at *
    generalize hdA hd0 = A0 at *
    generalize h.n = n at *
    generalize x.n = q at *
    clear hL k kx hx hxs hj hj40 hxn
    go_enter Tryd.func5, Tryd.ntmps5
    have hA : Below w.heap.size w ((w.alloc (.cells A 26)).alloc (.cells #[.int .i64 t0, .int .i64 t1] 41)) := ((Below.refl _ _).alloc (Nat.le_refl _) _).alloc (by simp) _
    go_wp2_with fail
    refine (reads_any _ (HL.out.keep hA)).mono ?_
    rintro e w1 ⟨rfl, hb1⟩
    have KA : Bk w1 w.heap.size 26 A := Bk.keep ((Bk.new _ _ _).alloc _) hb1
    have KT : Bk w1 (w.heap.size + 1) 41 #[.int .i64 t0, .int .i64 t1] := Bk.keep (Bk.new' _ _ _ (by simp)) hb1
    have hW := Lib.hid (below_step hA (by simp; omega) hb1)
    obtain ⟨gt, hgt⟩ : ∃ gt, gt = w.heap.size + 1 := ⟨_, rfl⟩
    rw [← hgt] at KT ⊢
    have hgg : w.heap.size < gt := by omega
    have HGT := Lib.hid hgt
    clear hb1 hA hgt
    have c0 := KT.cell 0
    have c1 := KT.cell 1
    have l0 := HLD.out _ _ _ sa KA
    have htl := HTL.out
    have HSUB := Lib.hid hsub
    clear hsub
    go_upto_region 5 with fail
    simp only [htl]
    clear htl
    go_wp2_with fail
    refine (HM0.out _ (HL.out.below hW.out HL.out.size)).mono ?_
    rintro e w2 ⟨rfl, hb2⟩
    have hW := Lib.hid (below_step hW.out hW.out.size hb2)
    have KA := KA.keep hb2
    have KT := KT.keep hb2
    clear hb2 l0 c0 c1 HM0
    have zt := KT.lt
    have N2 := Bk.new w2 26 A0
    go_upto_region 6 with (refine wpList_store_mid rfl 26 (.tmp 5) (.tmp 27) rfl w2.heap.size 0 C rfl rfl (by rw [sc]; exact N2.there 68 (by rw [s0]; exact Nat.le_refl _)) (by rw [sc]; exact hd_info) onec ?_)
    refine wp_any (fun V => Below w.heap.size w V ∧ Bk V w.heap.size 26 A ∧ Bk V gt 41 #[.int .i64 t0, .int .i64 t1] ∧ Bk V w2.heap.size 26 C) ⟨Below.setCells hW.out.size _ _ _ (hW.out.alloc hW.out.size _), rowFar (KA.alloc _) (by omega) _ _, rowFar (KT.alloc _) (by omega) _ _, N2.setAll (by rw [sc, s0])⟩ ?_
    clear hW KA KT N2
    generalize w2.heap.size = g5 at *
    rintro V ⟨hW, KA, KT, K5⟩
    have hW := Lib.hid hW
    have l0 := HLD.out _ _ _ sa KA
    have c0 := KT.cell 0
    have c1 := KT.cell 1
    have htl := HTL.out
    go_upto_region 6 with fail
    simp only [htl]
    clear htl
    go_wp2_with fail
    refine (HM1.out _ (HL.out.below hW.out HL.out.size)).mono ?_
    rintro e w3 ⟨rfl, hb3⟩
    have hW := Lib.hid (below_step hW.out hW.out.size hb3)
    have K5 := K5.keep hb3
    have KA := KA.keep hb3
    have KT := KT.keep hb3
    clear hb3 l0 c0 c1 HM1
    have z5 := K5.lt
    have N3 := Bk.new w3 26 A0
    go_upto_region 7 with (refine wpList_store_mid rfl 26 (.tmp 7) (.tmp 34) rfl w3.heap.size 0 X rfl rfl (by rw [sx]; exact N3.there 68 (by rw [s0]; exact Nat.le_refl _)) (by rw [sx]; exact hd_info) onex ?_)
    refine wp_any (fun V => Below w.heap.size w V ∧ Bk V w.heap.size 26 A ∧ Bk V gt 41 #[.int .i64 t0, .int .i64 t1] ∧ Bk V g5 26 C ∧ Bk V w3.heap.size 26 X) ⟨Below.setCells hW.out.size _ _ _ (hW.out.alloc hW.out.size _), rowFar (KA.alloc _) (by omega) _ _, rowFar (KT.alloc _) (by omega) _ _, rowFar (K5.alloc _) (by omega) _ _, N3.setAll (by rw [sx, s0])⟩ ?_
    clear hW KA KT K5 N3
    generalize w3.heap.size = g7 at *
    rintro V ⟨hW, KA, KT, K5, K7⟩
    have hW := Lib.hid hW
    have l5 := HLD.out _ _ _ sc K5
    have l7 := HLD.out _ _ _ sx K7
    have htl := HTL.out
    go_upto_region 7 with fail
    simp only [htl]
    clear htl
    have hcut : ∀ (R : Prop), ((b0 = false → R) ∧ (b0 = true → C = X → R)) → R := fun R h => by
      cases b0
      · exact h.1 rfl
      · exact h.2 rfl (hCx rfl)
    have hfin : True := trivial
    refine hcut _ ⟨fun e => ?_, fun e e2 => ?_⟩
    all_goals
      subst e
      try subst e2
      clear hcut hCx hfin
      go_upto_region 11 with fail
      clear l5 l7
      have c67 := (K7.cell 67).trans hcx
      have a67 := (KA.cell 67).trans hca
      have f67 := K7.frozen 67
      have z7 := K7.lt
      have hsub := HSUB.out
      go_upto_region 12 with fail
      clear hsub
      go_upto_region 13 with fail
      have K8 := K7.set_ 67 (.int .u32 (n : Int))
      rw [hset] at K8
      refine wp_any (fun V => Below w.heap.size w V ∧ Bk V w.heap.size 26 A ∧ Bk V gt 41 #[.int .i64 t0, .int .i64 t1] ∧ Bk V g7 26 A) ⟨hW.out.setCell (by show w.heap.size ≤ g7; omega) _, KA.far (by show w.heap.size ≠ g7; omega) _, KT.far (by show gt ≠ g7; omega) _, K8⟩ ?_
      clear hW KA KT K5 K7 K8 c67 a67 f67 z7
      rintro V ⟨hW, KA, KT, K7⟩
      have hW := Lib.hid hW
      have l2 := HLD.out _ _ _ sa KA
      have l7 := HLD.out _ _ _ sa K7
      have c1 := KT.cell 1
      have htl := HTL.out
      go_upto_region 13 with fail
      simp only [htl]
      clear htl
      have hjt2 : decide (((q : Int) - (n : Int)) % 4294967296 < t1) = true := by rw [HSUB.out]; exact hjt
      clear hjt
      go_wp2_with fail
      go_ret
      exact ⟨rfl, hW.out⟩
theorem nonces_walk (h : Hd) (zs : List Int) (w : World) (hL : Laid w) (k : IsHd h) (hl : zs.length = 2) (hw : ∀ z ∈ zs, (Lit.int .i64 z).wf = true) :
    Calls Tryd.prog 5 #[hdv h, .agg (zs.map (Value.int .i64)).toArray] w fun e w' => e = .returned (.bool true) ∧ Below w.heap.size w w' := by
  match zs, hl with
  | [t0, t1], _ =>
    have b0 := wf_i64 (hw t0 (by simp))
    by_cases h1 : t1 < t0
    · exact walk_out h t0 t1 w hL (.inl h1)
    · by_cases h2 : 40 < t1
      · exact walk_out h t0 t1 w hL (.inr ⟨h1, h2⟩)
      · exact walk_inn h t0 t1 w hL k b0.1 h1 h2

/-- The door's own heap meets the condition. -/
theorem door_met (os : Os) (args : Array Value) : laidMetH Tryd.prog laidL ((World.doorLaid Tryd.prog 19 os).forCall (fun _ _ => 0) ⟨#[], args, []⟩).memory :=
  laidMetH_of_parts3 (fuel := 8) (laidMet_of_run' 8 (by kernel_rfl) (by kernel_rfl)) (by kernel_rfl) (by kernel_rfl)

set_option maxRecDepth 100000 in
theorem lifted (os : Os) (started : os.Started) (H : Type) (enc : TypeId × Value → H) :
    ReturnsInHanded {} Tryd.checked os 5 .any (fun w args => (Rows.headNoncesSpec.pre enc Tryd.prog Tryd.f5 [] false w args ∧ laidMetH Tryd.prog laidL w) ∧ sizedMet enc Tryd.prog Tryd.f5 (OpenSpec.ofChange Rows.headNoncesSpec) false w args)
      (Rows.headNoncesSpec.post enc Tryd.prog Tryd.f5 false true false false) := by
  refine returnsInHanded_of_change_and (C := Tryd.checked) (X := fun w _ => laidMetH Tryd.prog laidL w) (fun _ _ _ hh h => h.of_heap hh) own started (by kernel_rfl) Tryd.func5
    (ChangeSpec.witness_shaped (enc := enc) (C := Tryd.checked) (os := os) (X := fun w _ => laidMetH Tryd.prog laidL w) false (World.doorLaid Tryd.prog 19 os) #[hdv hd0, .agg #[.int .i64 0, .int .i64 0]] 8 rfl (World.shaped_of_RefB (by kernel_rfl) (by kernel_rfl)) (by kernel_rfl) (by kernel_rfl) (by kernel_rfl) (door_met os _)) ?_
  intro W base args ds gs before hval0 hW _ _ hL _
  have hval : ∀ (j : Nat) t v, Tryd.f5.params[j]? = some t → args[j]? = some v → Value.okWide Tryd.prog W .any base t v := hval0
  have hW' := hW
  obtain ⟨p, q, hA0, hV, rfl, hfz, hnd⟩ := hW
  have hA : DataW.TrodAll enc Tryd.prog W 0 (fun _ => true) true Tryd.f5.params.toList args.toList ds p := hA0
  rw [Tryd.params5] at hA hval
  obtain ⟨v0, vs0, d0, ds0, p0, q0, hargs, rfl, rfl, h0, r0⟩ := trodAll_cons hA
  obtain ⟨v1, vs1, d1, ds1, p1, q1, rfl, rfl, rfl, h1, r1⟩ := trodAll_cons r0
  obtain ⟨rfl, rfl, rfl⟩ := trodAll_nil r1
  obtain rfl : args = #[v0, v1] := by cases args; simp_all
  obtain ⟨rfl, rfl⟩ := trodVars_none hV
  have lt0 : ∀ x ∈ p0, x.block < W.heap.size := by obtain ⟨m, hm⟩ := h0; exact DataW.trod_lt m _ _ _ hm
  have lt1 : ∀ x ∈ p1, x.block < W.heap.size := by obtain ⟨m, hm⟩ := h1; exact DataW.trod_lt m _ _ _ hm
  obtain ⟨x0, hb0, rfl⟩ := hd_arg (hval 0 26 v0 rfl rfl) h0
  obtain ⟨z1, hl1, rfl, hw1⟩ := open_ints_arr (k := .i64) Tryd.underlying41 Tryd.underlying3 (by kernel_rfl) (by kernel_rfl) (hval 1 41 v1 rfl rfl) h1
  have hwalk := nonces_walk x0 z1 W (of_laid hL) hb0 hl1 hw1
  clear hA0 hval0
  refine hwalk.mono fun e W' ⟨he, bel⟩ => ?_
  subst he
  exact ⟨_, rfl, _, _, _, [], _, [], hW', trodAll_mk1 (shut_bool Tryd.underlying4 _), (trodAll_cons_mk (Below.trod laidOut (by kernel_rfl) (of_decide_eq_true (by kernel_rfl)) h0 bel lt0) (trodAll_cons_mk (Below.trod laidOut (by kernel_rfl) (of_decide_eq_true (by kernel_rfl)) h1 bel lt1) trodAll_mk0)), rfl, bel.frame _, fun h => by cases h⟩

theorem over : Rows.HeadNoncesSaid :=
  OpenClaim.holds_of_wide 5 Tryd.f5 rfl rfl rfl rfl rfl rfl rfl ⟨rfl, rfl, rfl, rfl, rfl⟩ rfl rfl rfl rfl rfl (by kernel_rfl) Tryd.func5 (by kernel_rfl)
    (of_decide_eq_true (by kernel_rfl)) (by unfold Func.isWrapper; first | (rw [if_pos (by decide +kernel)]; kernel_rfl) | (rw [if_neg (by decide +kernel)]; exact ⟨rfl, rfl⟩))
    (fun os started H enc _ => lifted os started H enc)

theorem proved : Rows.HeadNoncesCardSaid :=
  Claim7.holds_tied_plain_at .later [] [.data, .data] true Rows.headNoncesCard.stood.harness false
    over (fun _ h => by cases h) (by kernel_rfl) (fun _ h => by cases h) headNonces_row_tie rfl ⟨rfl, rfl⟩ (by kernel_rfl) rfl
    (fun f fn hf hfn => by
      obtain rfl : f = 5 := Option.some.inj ((show Tryd.prog.funcNamed "tallystick/tallysticklaw05.HeadNonces" = some 5 by kernel_rfl).symm.trans hf) |>.symm
      obtain rfl : fn = Tryd.f5 := (Option.some.inj (Tryd.func5.symm.trans hfn)).symm
      exact ⟨by kernel_rfl, fun j t ht => by
        rw [Tryd.params5] at ht
        have hm : t ∈ [26, 41] := by simpa using Array.mem_of_getElem? ht
        have hall : ([26, 41].all fun u => !Tryd.prog.wantsStandIn u) = true := by kernel_rfl
        exact (show Tryd.prog.wantsStandIn t = false by simpa using List.all_eq_true.1 hall t hm)⟩)
    (by kernel_rfl)
#print axioms proved
end Go.Proofs.YtkhiicnahijnoaaDoor.headNonces
