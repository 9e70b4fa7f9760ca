/-
  Package trace's laws: what may be said to one, told peer by peer.
-/
import Derived.Test.YtcedljfdnbenoaaTrM
namespace Go.Proofs.Ytcedljfdnbenoaa
open Go.RowKit
set_option linter.unusedVariables false
set_option linter.unusedSimpArgs false
set_option maxRecDepth 100000

/-- No name is there twice, and nobody is asked for one. -/
def Clean (L : List OneP) (N : List Nat) : Prop := N.Nodup ∧ ∀ x ∈ N, ∀ o ∈ L, x ∉ o.ak
open Classical in
noncomputable def mayE (L : List OneP) (p : OneP) (kd : Int) (N : List Nat) : Int :=
  if kd = 1 then (if p.v = true then 5 else 0) else if kd = 2 then (if p.a = true then 5 else if (!p.v || !p.t) = true then 7 else 0)
  else if (!p.v || !p.a || !p.t || !p.r) = true then 7 else if kd ≠ 6 then 0 else if N.length = 0 then 6 else if ¬ Clean L N then 5 else if 16 < p.ak.length + N.length then 3 else 0
noncomputable def mayP (L : List OneP) (p : OneP) (kd : Int) (N : List Nat) : OneP :=
  if mayE L p kd N = 0 then (if kd = 1 then { p with v := true } else if kd = 2 then { p with a := true } else if kd = 6 then { p with ak := p.ak ++ N } else p) else p
theorem on_load (w : World) (q : Nat) (t : TypeId) (o : OneM) (K : Bk w q t (onL o).toArray) : w.cell? ⟨q, 0, none⟩ = some (.int .i64 o.p.id) ∧ w.cell? ⟨q, 1, none⟩ = some (.bool o.p.v) ∧ w.cell? ⟨q, 2, none⟩ = some (.bool o.p.a) ∧ w.cell? ⟨q, 3, none⟩ = some (.bool o.p.t) ∧ w.cell? ⟨q, 4, none⟩ = some (.bool o.p.r) ∧ w.cell? ⟨q, 5, none⟩ = some o.sv := ⟨K.cell 0, K.cell 1, K.cell 2, K.cell 3, K.cell 4, K.cell 5⟩
theorem on_range {w : World} {q : Nat} {t : TypeId} {o : OneM} (K : Bk w q t (onL o).toArray) : w.rangeAt q 0 (onL o) := fun j v hv => by
  rw [Nat.zero_add, K.cell, List.getElem?_toArray]
  exact hv
theorem on_sz (o : OneM) : (Try.prog.info? 60).map (·.size) = some (onL o).length := on_size
theorem on_szA (o : OneM) : (Try.prog.info? 60).map (·.size) = some (onL o).toArray.size := on_size
theorem on_ones (o : OneM) : (onL o).toArray.all (·.oneCell') = true := all_oneCell_toArray (onL_one o)
theorem on_there {W : World} {q : Nat} {t : TypeId} {a o : OneM} (K : Bk W q t (onL a).toArray) : W.there q 0 (onL o).toArray.size := K.there 6 (Nat.le_refl _)
set_option maxHeartbeats 16000000 in
theorem may_any (L : List OneM) (o : OneM) (kd : Int) (N : List Nat) (va vn : Value) (w : World) (ha : RowV onR w w.heap.size va L) (haa : ∀ q ∈ L, RowV byR w w.heap.size q.sv q.p.ak) (ho : RowV byR w w.heap.size o.sv o.p.ak) (hn : RowV byR w w.heap.size vn N)
    (h63 : L.length ≤ 1000000) (hN : N.length ≤ 1000000) (hO : o.p.ak.length ≤ 1000000) :
    Calls Try.prog 16 #[va, .agg (onL o).toArray, .int .i64 kd, vn] w fun e w' => ∃ o' : OneM, e = .returned (.tuple #[.agg (onL o').toArray, .int .i64 (mayE (L.map (·.p)) o.p kd N)]) ∧ o'.p = mayP (L.map (·.p)) o.p kd N ∧ RowV byR w' w'.heap.size o'.sv o'.p.ak ∧ (∀ q, slb o'.sv q → slb o.sv q ∨ (w.heap.size ≤ q ∧ q < w'.heap.size)) ∧ Below w.heap.size w w' := by
  obtain ⟨E, hE⟩ : ∃ E, E = mayE (L.map (·.p)) o.p kd N := ⟨_, rfl⟩
  obtain ⟨OP, hOP⟩ : ∃ OP, OP = mayP (L.map (·.p)) o.p kd N := ⟨_, rfl⟩
  have hP : OP = if E = 0 then (if kd = 1 then { o.p with v := true } else if kd = 2 then { o.p with a := true } else if kd = 6 then { o.p with ak := o.p.ak ++ N } else o.p) else o.p := by rw [hOP, hE]; rfl
  unfold mayE at hE
  rw [← hOP]
  have hEE : mayE (L.map (·.p)) o.p kd N = E := by rw [hE]; rfl
  rw [hEE]
  have HKEEP : Hid (∀ W, Below w.heap.size w W → RowV byR W W.heap.size o.sv o.p.ak) := fun W hb => (ho.keep hb (Nat.le_refl _)).mono hb.size
  have HA := Lib.hid ha
  have HAA := Lib.hid haa
  have HNR := Lib.hid hn
  obtain ⟨b5, hb5⟩ : ∃ b, b = w.heap.size := ⟨_, rfl⟩
  obtain ⟨b8, hb8⟩ : ∃ b, b = w.heap.size + 1 := ⟨_, rfl⟩
  have HBE := Lib.hid hb5
  have HB8 : Hid (w.heap.size ≤ b8) := by show _ ≤ _; omega
  have hne : b5 ≠ b8 := by omega
  have hne' : b8 ≠ b5 := by omega
  have HB5 : Hid (w.heap.size ≤ b5 ∧ w.heap.size ≤ b8) := by show _ ∧ _; omega
  go_enter Try.func16, Try.ntmps16
  go_upto_region 1 with fail
  refine wp_any (fun W => Bk W b5 60 (onL o).toArray ∧ Bk W b8 60 (onL on0).toArray ∧ Below w.heap.size w W) ?_ ?_
  · refine ⟨?_, ?_, ((Below.refl _ _).alloc (Nat.le_refl _) _).alloc (by simp) _⟩
    · rw [hb5]
      exact (Bk.new _ _ _).alloc _
    · rw [hb8]
      have := Bk.new (w.alloc (.cells (onL o).toArray 60)) 60 (onL on0).toArray
      rw [show (w.alloc (.cells (onL o).toArray 60)).heap.size = w.heap.size + 1 by simp] at this
      exact this
  rw [← hb8, ← hb5]
  rintro W0 ⟨K5, K8, hB0⟩
  obtain ⟨c50, c51, c52, c53, c54, c55⟩ := on_load W0 b5 _ o K5
  obtain ⟨c80, c81, c82, c83, c84, c85⟩ := on_load W0 b8 _ on0 K8
  have f51 := K5.frozen 1
  have f52 := K5.frozen 2
  have f55 := K5.frozen 5
  have f80 := K8.frozen 0
  have f81 := K8.frozen 1
  have f82 := K8.frozen 2
  have f83 := K8.frozen 3
  have f84 := K8.frozen 4
  have f85 := K8.frozen 5
  have z5 := K5.lt
  have z8 := K8.lt
  have HK5 := Lib.hid K5
  have HK8 := Lib.hid K8
  have HB0 : Hid (Below w.heap.size w W0) := by rw [← HBE.out]; exact hB0
  -- the way out, the peer as it was
  have HOUT : Hid (∀ W, Bk W b8 60 (onL o).toArray → Below w.heap.size w W → OP = o.p → ∃ o' : OneM, Ending.returned (Value.tuple #[.agg (onL o).toArray, .int .i64 E]) = .returned (.tuple #[.agg (onL o').toArray, .int .i64 E]) ∧ o'.p = OP ∧ RowV byR W W.heap.size o'.sv o'.p.ak ∧ (∀ q, slb o'.sv q → slb o.sv q ∨ (w.heap.size ≤ q ∧ q < W.heap.size)) ∧ Below w.heap.size w W) := by
    show ∀ W, _
    intro W _ hb e
    exact ⟨o, rfl, e.symm, HKEEP.out W hb, fun q h => .inl h, hb⟩
  clear ha haa hn ho hOP hEE K5 K8 hB0 hb5 hb8
  by_cases e1 : kd = 1
  · have d1 : (kd == 1) = true := by simp [e1]
    rw [if_pos e1] at hE
    cases hv : o.p.v with
    | true =>
      rw [hv] at c51
      rw [if_pos hv] at hE
      have hop := Lib.hid (show OP = o.p by rw [hP, hE]; rfl)
      subst hE
      clear hP hv e1
      have hrg := on_range HK5.out
      have hth := on_there (o := o) HK8.out
      have hK9 : Bk ((W0).setCells b8 0 (onL o)) b8 60 (onL o).toArray := Bk.setAll (xs := (onL o).toArray) HK8.out rfl
      go_wp2_with (first | (refine wpList_load_mid rfl 60 (.tmp 5) rfl b5 0 rfl (onL o) _ hrg Try.underlying60 rfl (on_sz _) ?_) | (refine wpList_store_mid rfl 60 (.tmp 8) (.tmp 19) rfl b8 0 (onL o).toArray rfl rfl hth (on_szA _) (on_ones _) ?_))
      (try simp only [Exit.inBlock, Exit.then])
      refine on_ret (g := b8) (nm := 8) (k := 9) (A := (onL o).toArray) rfl rfl rfl rfl rfl hK9 ?_
      exact HOUT.out _ hK9 (Below.setCells HB5.out.2 _ _ _ HB0.out) hop.out
    | false =>
      rw [hv] at c51
      rw [if_neg (by rw [hv]; decide)] at hE
      have hop := Lib.hid (show OP = { o.p with v := true } by rw [hP, hE, if_pos rfl, if_pos e1])
      subst hE
      have K51 : Bk (W0.setCell ⟨b5, 1, none⟩ (.bool true)) b5 60 (onL (⟨{ o.p with v := true }, o.s, o.c⟩ : OneM)).toArray := HK5.out.set_ 1 _
      have K81 : Bk (W0.setCell ⟨b5, 1, none⟩ (.bool true)) b8 60 (onL on0).toArray := HK8.out.far hne' _
      clear hP hv e1
      go_upto_region 6 with fail
      have hrg := on_range K51
      have hth := on_there (o := (⟨{ o.p with v := true }, o.s, o.c⟩ : OneM)) K81
      have hK9 : Bk (((W0.setCell ⟨b5, 1, none⟩ (.bool true))).setCells b8 0 (onL (⟨{ o.p with v := true }, o.s, o.c⟩ : OneM))) b8 60 (onL (⟨{ o.p with v := true }, o.s, o.c⟩ : OneM)).toArray := Bk.setAll (xs := (onL (⟨{ o.p with v := true }, o.s, o.c⟩ : OneM)).toArray) K81 rfl
      go_wp2_with (first | (refine wpList_load_mid rfl 60 (.tmp 5) rfl b5 0 rfl (onL (⟨{ o.p with v := true }, o.s, o.c⟩ : OneM)) _ hrg Try.underlying60 rfl (on_sz _) ?_) | (refine wpList_store_mid rfl 60 (.tmp 8) (.tmp 21) rfl b8 0 (onL (⟨{ o.p with v := true }, o.s, o.c⟩ : OneM)).toArray rfl rfl hth (on_szA _) (on_ones _) ?_))
      (try simp only [Exit.inBlock, Exit.then])
      refine on_ret (g := b8) (nm := 8) (k := 9) (A := (onL (⟨{ o.p with v := true }, o.s, o.c⟩ : OneM)).toArray) rfl rfl rfl rfl rfl hK9 ?_
      exact ⟨(⟨{ o.p with v := true }, o.s, o.c⟩ : OneM), rfl, hop.out.symm, HKEEP.out _ (Below.setCells HB5.out.2 _ _ _ (HB0.out.setCell HB5.out.1 _)), fun q h => .inl h, Below.setCells HB5.out.2 _ _ _ (HB0.out.setCell HB5.out.1 _)⟩
  have d1 : (kd == 1) = false := by simp [e1]
  rw [if_neg e1] at hE
  rw [if_neg e1] at hP
  by_cases e2 : kd = 2
  · have d2 : (kd == 2) = true := by simp [e2]
    rw [if_pos e2] at hE
    cases hv : o.p.a with
    | true =>
      rw [hv] at c52
      rw [if_pos hv] at hE
      have hop := Lib.hid (show OP = o.p by rw [hP, hE]; rfl)
      subst hE
      clear hP hv e1 e2
      have hrg := on_range HK5.out
      have hth := on_there (o := o) HK8.out
      have hK9 : Bk ((W0).setCells b8 0 (onL o)) b8 60 (onL o).toArray := Bk.setAll (xs := (onL o).toArray) HK8.out rfl
      go_wp2_with (first | (refine wpList_load_mid rfl 60 (.tmp 5) rfl b5 0 rfl (onL o) _ hrg Try.underlying60 rfl (on_sz _) ?_) | (refine wpList_store_mid rfl 60 (.tmp 8) (.tmp 26) rfl b8 0 (onL o).toArray rfl rfl hth (on_szA _) (on_ones _) ?_))
      (try simp only [Exit.inBlock, Exit.then])
      refine on_ret (g := b8) (nm := 8) (k := 9) (A := (onL o).toArray) rfl rfl rfl rfl rfl hK9 ?_
      exact HOUT.out _ hK9 (Below.setCells HB5.out.2 _ _ _ HB0.out) hop.out
    | false =>
      rw [hv] at c52
      rw [if_neg (by rw [hv]; decide)] at hE
      by_cases hvt : (!o.p.v || !o.p.t) = true
      · rw [if_pos hvt] at hE
        have hop := Lib.hid (show OP = o.p by rw [hP, hE]; rfl)
        subst hE
        clear hP hv e1 e2
        cases h1 : o.p.v <;> cases h3 : o.p.t <;> rw [h1] at c51 <;> rw [h3] at c53 <;> rw [h1, h3] at hvt <;> first
          | (exact absurd hvt (by decide))
          | (clear hvt h1 h3
             have hrg := on_range HK5.out
             have hth := on_there (o := o) HK8.out
             have hK9 : Bk ((W0).setCells b8 0 (onL o)) b8 60 (onL o).toArray := Bk.setAll (xs := (onL o).toArray) HK8.out rfl
             go_wp2_with (first | (refine wpList_load_mid rfl 60 (.tmp 5) rfl b5 0 rfl (onL o) _ hrg Try.underlying60 rfl (on_sz _) ?_) | (refine wpList_store_mid rfl 60 (.tmp 8) (.tmp 35) rfl b8 0 (onL o).toArray rfl rfl hth (on_szA _) (on_ones _) ?_))
             (try simp only [Exit.inBlock, Exit.then])
             refine on_ret (g := b8) (nm := 8) (k := 9) (A := (onL o).toArray) rfl rfl rfl rfl rfl hK9 ?_
             exact HOUT.out _ hK9 (Below.setCells HB5.out.2 _ _ _ HB0.out) hop.out
            )
      · rw [if_neg hvt] at hE
        have hop := Lib.hid (show OP = { o.p with a := true } by rw [hP, hE, if_pos rfl, if_pos e2])
        have h1 : o.p.v = true ∧ o.p.t = true := by
          cases h1 : o.p.v <;> cases h3 : o.p.t <;> rw [h1, h3] at hvt <;> first | exact ⟨rfl, rfl⟩ | exact absurd (by decide) hvt
        rw [h1.1] at c51
        rw [h1.2] at c53
        subst hE
        have K51 : Bk (W0.setCell ⟨b5, 2, none⟩ (.bool true)) b5 60 (onL (⟨{ o.p with a := true }, o.s, o.c⟩ : OneM)).toArray := HK5.out.set_ 2 _
        have K81 : Bk (W0.setCell ⟨b5, 2, none⟩ (.bool true)) b8 60 (onL on0).toArray := HK8.out.far hne' _
        clear hP hv e1 e2 hvt h1
        go_upto_region 13 with fail
        have hrg := on_range K51
        have hth := on_there (o := (⟨{ o.p with a := true }, o.s, o.c⟩ : OneM)) K81
        have hK9 : Bk (((W0.setCell ⟨b5, 2, none⟩ (.bool true))).setCells b8 0 (onL (⟨{ o.p with a := true }, o.s, o.c⟩ : OneM))) b8 60 (onL (⟨{ o.p with a := true }, o.s, o.c⟩ : OneM)).toArray := Bk.setAll (xs := (onL (⟨{ o.p with a := true }, o.s, o.c⟩ : OneM)).toArray) K81 rfl
        go_wp2_with (first | (refine wpList_load_mid rfl 60 (.tmp 5) rfl b5 0 rfl (onL (⟨{ o.p with a := true }, o.s, o.c⟩ : OneM)) _ hrg Try.underlying60 rfl (on_sz _) ?_) | (refine wpList_store_mid rfl 60 (.tmp 8) (.tmp 37) rfl b8 0 (onL (⟨{ o.p with a := true }, o.s, o.c⟩ : OneM)).toArray rfl rfl hth (on_szA _) (on_ones _) ?_))
        (try simp only [Exit.inBlock, Exit.then])
        refine on_ret (g := b8) (nm := 8) (k := 9) (A := (onL (⟨{ o.p with a := true }, o.s, o.c⟩ : OneM)).toArray) rfl rfl rfl rfl rfl hK9 ?_
        exact ⟨(⟨{ o.p with a := true }, o.s, o.c⟩ : OneM), rfl, hop.out.symm, HKEEP.out _ (Below.setCells HB5.out.2 _ _ _ (HB0.out.setCell HB5.out.1 _)), fun q h => .inl h, Below.setCells HB5.out.2 _ _ _ (HB0.out.setCell HB5.out.1 _)⟩
  have d2 : (kd == 2) = false := by simp [e2]
  rw [if_neg e2] at hE
  rw [if_neg e2] at hP
  by_cases hall : (!o.p.v || !o.p.a || !o.p.t || !o.p.r) = true
  · rw [if_pos hall] at hE
    have hop := Lib.hid (show OP = o.p by rw [hP, hE]; rfl)
    subst hE
    clear hP e1 e2
    cases h1 : o.p.v <;> cases h2 : o.p.a <;> cases h3 : o.p.t <;> cases h4 : o.p.r <;> rw [h1] at c51 <;> rw [h2] at c52 <;> rw [h3] at c53 <;> rw [h4] at c54 <;> rw [h1, h2, h3, h4] at hall <;> first
      | (exact absurd hall (by decide))
      | (clear hall h1 h2 h3 h4
         have hrg := on_range HK5.out
         have hth := on_there (o := o) HK8.out
         have hK9 : Bk ((W0).setCells b8 0 (onL o)) b8 60 (onL o).toArray := Bk.setAll (xs := (onL o).toArray) HK8.out rfl
         go_wp2_with (first | (refine wpList_load_mid rfl 60 (.tmp 5) rfl b5 0 rfl (onL o) _ hrg Try.underlying60 rfl (on_sz _) ?_) | (refine wpList_store_mid rfl 60 (.tmp 8) (.tmp 56) rfl b8 0 (onL o).toArray rfl rfl hth (on_szA _) (on_ones _) ?_))
         (try simp only [Exit.inBlock, Exit.then])
         refine on_ret (g := b8) (nm := 8) (k := 9) (A := (onL o).toArray) rfl rfl rfl rfl rfl hK9 ?_
         exact HOUT.out _ hK9 (Below.setCells HB5.out.2 _ _ _ HB0.out) hop.out
        )
  rw [if_neg hall] at hE
  have h14 : o.p.v = true ∧ o.p.a = true ∧ o.p.t = true ∧ o.p.r = true := by
    cases h1 : o.p.v <;> cases h2 : o.p.a <;> cases h3 : o.p.t <;> cases h4 : o.p.r <;> rw [h1, h2, h3, h4] at hall <;> first | exact ⟨rfl, rfl, rfl, rfl⟩ | exact absurd (by decide) hall
  rw [h14.1] at c51
  rw [h14.2.1] at c52
  rw [h14.2.2.1] at c53
  rw [h14.2.2.2] at c54
  clear hall h14 e1 e2
  by_cases e6 : kd = 6
  · have d6 : (kd != 6) = false := by simp [e6]
    rw [if_neg (by simp [e6])] at hE
    rw [if_pos e6] at hP
    clear e6
    obtain ⟨sn, cn, rfl⟩ : ∃ s c, vn = .slice s N.length c := HNR.out.slice
    obtain ⟨sa, ca, rfl⟩ : ∃ s c, va = .slice s L.length c := HA.out.slice
    have hrowN := byR_cell HNR.out
    have hrowL := row_at HA.out
    obtain ⟨n, hn⟩ : ∃ n, n = N.length := ⟨_, rfl⟩
    obtain ⟨m, hm⟩ : ∃ m, m = L.length := ⟨_, rfl⟩
    obtain ⟨la, hla⟩ : ∃ la, la = o.p.ak.length := ⟨_, rfl⟩
    have HN := Lib.hid hn
    have HM := Lib.hid hm
    have HLA := Lib.hid hla
    rw [← hn] at hrowN hN hE HNR ⊢
    rw [← hm] at hrowL h63 HA ⊢
    rw [← hla] at hO hE
    change W0.cell? ⟨b5, 5, none⟩ = some (.slice o.s o.p.ak.length o.c) at c55
    rw [← hla] at c55
    have HRN : Hid (∀ k, k < n → ∃ (x b f : Nat), N[k]? = some x ∧ sn = some ⟨b, f, none⟩ ∧ b < w.heap.size ∧ w.cell? ⟨b, f + k, none⟩ = some (.int .u8 (x : Int))) := hrowN
    have HRL : Hid (∀ j, j < m → ∃ (q : OneM) (b f : Nat), L[j]? = some q ∧ sa = some ⟨b, f, none⟩ ∧ b < w.heap.size ∧ w.rangeAt b (f + j * 6) (onL q)) := hrowL
    clear hrowN hrowL hn hm hla
    by_cases hn0 : n = 0
    · have q0 : ((n : Int) == 0) = true := by simp [hn0]
      rw [if_pos hn0] at hE
      have hop := Lib.hid (show OP = o.p by rw [hP, hE]; rfl)
      subst hE
      clear hP hn0
      have hrg := on_range HK5.out
      have hth := on_there (o := o) HK8.out
      have hK9 : Bk ((W0).setCells b8 0 (onL o)) b8 60 (onL o).toArray := Bk.setAll (xs := (onL o).toArray) HK8.out rfl
      go_wp2_with (first | (refine wpList_load_mid rfl 60 (.tmp 5) rfl b5 0 rfl (onL o) _ hrg Try.underlying60 rfl (on_sz _) ?_) | (refine wpList_store_mid rfl 60 (.tmp 8) (.tmp 63) rfl b8 0 (onL o).toArray rfl rfl hth (on_szA _) (on_ones _) ?_))
      (try simp only [Exit.inBlock, Exit.then])
      refine on_ret (g := b8) (nm := 8) (k := 9) (A := (onL o).toArray) rfl rfl rfl rfl rfl hK9 ?_
      exact HOUT.out _ hK9 (Below.setCells HB5.out.2 _ _ _ HB0.out) hop.out
    have q0 : ((n : Int) == 0) = false := by simp [hn0]
    rw [if_neg hn0] at hE
    have HE := Lib.hid hE
    have HP := Lib.hid hP
    clear hn0 hE hP
    go_upto_region 20 with fail
    go_wp2_with fail
    go_loopw [66] (fun i wr => ∃ k : Nat, k ≤ n ∧ i = .int .i64 k ∧ Hid ((N.take k).Nodup ∧ ∀ x ∈ N.take k, ∀ q ∈ L, x ∉ q.p.ak) ∧ Hid (Below W0.heap.size W0 wr)) (fun i _ => n - (intOf i).toNat)
    case atStart => exact ⟨0, Nat.zero_le _, rfl, ⟨List.Pairwise.nil, fun x h => (by cases h)⟩, Below.refl _ _⟩
    case round =>
      obtain ⟨k, hk, rfl, HC, HB⟩ := hrel
      by_cases hlt : k < n
      · obtain ⟨x, bn, fn, hkx, rfl, hbw, hcx⟩ := HRN.out k hlt
        have j1 : decide ((k : Int) < (n : Int)) = true := decide_eq_true (by omega)
        have hBw : Below w.heap.size w wr := HB0.out.trans (HB.out.mono HB0.out.size)
        have hcx : wr.cell? ⟨bn, fn + k, none⟩ = some (.int .u8 (x : Int)) := (hBw.cell (p := ⟨bn, fn + k, none⟩) hbw).trans hcx
        have hbr : bn < wr.heap.size := Nat.lt_of_lt_of_le hbw hBw.size
        obtain ⟨hsl, hrt⟩ := rowV_take (HNR.out.keep hBw (Nat.le_refl _)) (i := k) hk
        have hhas := has_any (N.take k) x _ wr (hrt.mono hBw.size)
        have hTK : N.take (k + 1) = N.take k ++ [x] := by
          rw [List.take_add_one, hkx]
          rfl
        have hxN := List.mem_of_getElem? hkx
        have K5r := HK5.out.keep HB.out
        have K8r := HK8.out.keep HB.out
        have HBW := Lib.hid hBw
        by_cases hin : x ∈ N.take k
        · rw [decide_eq_true hin] at hhas
          have hE5 : E = 5 := by
            rw [HE.out, if_pos]
            intro hc
            have h1 := hc.1
            have : (N.take (k + 1)).Nodup := h1.sublist (List.take_sublist _ _)
            rw [hTK] at this
            have := (List.nodup_append.1 this).2.2 x hin x (by simp)
            exact this rfl
          have hop := Lib.hid (show OP = o.p by rw [HP.out, hE5]; rfl)
          subst hE5
          have HK5r := Lib.hid K5r
          have HK8r := Lib.hid K8r
          clear hin hTK hkx hxN hrt HC hBw K5r K8r
          go_wp2_with fail
          refine hhas.mono ?_
          rintro e w5 ⟨rfl, hw5⟩
          subst hw5
          clear hhas
          have hrg := on_range HK5r.out
          have hth := on_there (o := o) HK8r.out
          have hK9 : Bk ((w5).setCells b8 0 (onL o)) b8 60 (onL o).toArray := Bk.setAll (xs := (onL o).toArray) HK8r.out rfl
          go_wp2_with (first | (refine wpList_load_mid rfl 60 (.tmp 5) rfl b5 0 rfl (onL o) _ hrg Try.underlying60 rfl (on_sz _) ?_) | (refine wpList_store_mid rfl 60 (.tmp 8) (.tmp 76) rfl b8 0 (onL o).toArray rfl rfl hth (on_szA _) (on_ones _) ?_))
          (try simp only [Exit.inBlock, Exit.then])
          refine on_ret (g := b8) (nm := 8) (k := 9) (A := (onL o).toArray) rfl rfl rfl rfl rfl hK9 ?_
          exact HOUT.out _ hK9 (Below.setCells HB5.out.2 _ _ _ (HBW.out)) hop.out
        rw [decide_eq_false hin] at hhas
        have HND : Hid ((N.take (k + 1)).Nodup) := by
          show List.Nodup _
          rw [hTK]
          exact List.nodup_append.2 ⟨HC.out.1, by simp, fun a ha b' hb' e => by
            obtain rfl : b' = x := by simpa using hb'
            exact hin (e ▸ ha)⟩
        have HTK := Lib.hid hTK
        have HXN := Lib.hid hxN
        have HC0 := Lib.hid HC.out.2
        clear hin hTK hkx hxN hrt hBw K5r K8r HC
        go_wp2_with fail
        refine hhas.mono ?_
        rintro e w5 ⟨rfl, hw5⟩
        subst hw5
        clear hhas hcx hsl
        go_wp2_with fail
        go_loopw [79] (fun i wr => ∃ j : Nat, j ≤ m ∧ i = .int .i64 j ∧ Hid (∀ q ∈ L.take j, x ∉ q.p.ak) ∧ Hid (Below W0.heap.size W0 wr)) (fun i _ => m - (intOf i).toNat)
        case atStart => exact ⟨0, Nat.zero_le _, rfl, fun q h => (by cases h), HB⟩
        case round =>
          obtain ⟨j, hj, rfl, HQ, HB2⟩ := hrel
          clear HB HBW
          rename World => wq
          by_cases hlj : j < m
          · obtain ⟨q, ba, fa, hjq, rfl, hba, hrg⟩ := HRL.out j hlj
            have j2 : decide ((j : Int) < (m : Int)) = true := decide_eq_true (by omega)
            have hBw : Below w.heap.size w wq := HB0.out.trans (HB2.out.mono HB0.out.size)
            have hrg := rr_below hrg hBw hba
            have hbr2 : ba < wq.heap.size := Nat.lt_of_lt_of_le hba hBw.size
            obtain ⟨Wn, hWn⟩ : ∃ Wn, Wn = wq.alloc (.cells #[.int .i64 0, .bool false, .bool false, .bool false, .bool false, .slice none 0 0] 60) := ⟨_, rfl⟩
            have hKn : Bk Wn wq.heap.size 60 (onL on0).toArray := by rw [hWn]; exact Bk.new _ _ _
            have hth := on_there (o := q) hKn
            have hKq : Bk (Wn.setCells wq.heap.size 0 (onL q)) wq.heap.size 60 (onL q).toArray := Bk.setAll (xs := (onL q).toArray) hKn rfl
            have hBn : Below wq.heap.size wq (Wn.setCells wq.heap.size 0 (onL q)) := Below.setCells (Nat.le_refl _) _ _ _ (by rw [hWn]; exact (Below.refl _ _).alloc (Nat.le_refl _) _)
            have HB3 : Hid (Below W0.heap.size W0 (Wn.setCells wq.heap.size 0 (onL q))) := HB2.out.trans (hBn.mono HB2.out.size)
            have hTJ : L.take (j + 1) = L.take j ++ [q] := by
              rw [List.take_add_one, hjq]
              rfl
            have HTJ := Lib.hid hTJ
            have HQL := Lib.hid (List.mem_of_getElem? hjq)
            rw [hWn] at hth
            clear hjq hTJ hBw hKn
            go_upto_region 28 with (first | (refine wpList_load_mid rfl 60 (.tmp 81) rfl ba (fa + j * 6) rfl (onL q) _ hrg Try.underlying60 rfl (on_sz _) ?_) | (refine wpList_store_mid rfl 60 (.tmp 13) (.tmp 82) rfl wq.heap.size 0 (onL q).toArray rfl rfl hth (on_szA _) (on_ones _) ?_))
            rw [← hWn]
            refine wp_any (fun W => Bk W wq.heap.size 60 (onL q).toArray ∧ Below W0.heap.size W0 W) ⟨hKq, HB3.out⟩ ?_
            clear hWn hKq hBn HB3 hth hrg hbr2
            generalize wq.heap.size = q13 at *
            clear HB2
            clear Wn
            clear wq
            rintro Wq ⟨Kq, hBq⟩
            have cq5 : Wq.cell? ⟨q13, 5, none⟩ = some (.slice q.s q.p.ak.length q.c) := Kq.cell 5
            have zq := Kq.lt
            have hBw : Below w.heap.size w Wq := HB0.out.trans (hBq.mono HB0.out.size)
            have hhas := has_any q.p.ak x q.sv Wq (((HAA.out q HQL.out).keep hBw (Nat.le_refl _)).mono hBw.size)
            change Calls Try.prog 12 #[.slice q.s q.p.ak.length q.c, .int .u8 (x : Int)] Wq _ at hhas
            have HK5q := Lib.hid (HK5.out.keep hBq)
            have HK8q := Lib.hid (HK8.out.keep hBq)
            have HBQ := Lib.hid hBw
            have HBq0 := Lib.hid hBq
            clear Kq hBq hBw
            by_cases hin : x ∈ q.p.ak
            · rw [decide_eq_true hin] at hhas
              have hE5 : E = 5 := by
                rw [HE.out, if_pos]
                intro hc
                exact hc.2 x HXN.out q.p (List.mem_map.2 ⟨q, HQL.out, rfl⟩) hin
              have hop := Lib.hid (show OP = o.p by rw [HP.out, hE5]; rfl)
              subst hE5
              clear hin
              go_wp2_with fail
              refine hhas.mono ?_
              rintro e w6 ⟨rfl, hw6⟩
              subst hw6
              clear hhas
              have hrg := on_range HK5q.out
              have hth := on_there (o := o) HK8q.out
              have hK9 : Bk ((w6).setCells b8 0 (onL o)) b8 60 (onL o).toArray := Bk.setAll (xs := (onL o).toArray) HK8q.out rfl
              go_wp2_with (first | (refine wpList_load_mid rfl 60 (.tmp 5) rfl b5 0 rfl (onL o) _ hrg Try.underlying60 rfl (on_sz _) ?_) | (refine wpList_store_mid rfl 60 (.tmp 8) (.tmp 87) rfl b8 0 (onL o).toArray rfl rfl hth (on_szA _) (on_ones _) ?_))
              (try simp only [Exit.inBlock, Exit.then])
              refine on_ret (g := b8) (nm := 8) (k := 9) (A := (onL o).toArray) rfl rfl rfl rfl rfl hK9 ?_
              exact HOUT.out _ hK9 (Below.setCells HB5.out.2 _ _ _ (HBQ.out)) hop.out
            rw [decide_eq_false hin] at hhas
            have HQ' : Hid (∀ z ∈ L.take (j + 1), x ∉ z.p.ak) := by
              show ∀ z ∈ _, _
              intro z hz
              rw [HTJ.out] at hz
              rcases List.mem_append.1 hz with h | h
              · exact HQ.out z h
              · rw [List.mem_singleton.1 h]; exact hin
            clear hin HQ HTJ HQL HK5q HK8q HBQ
            go_wp2_with fail
            refine hhas.mono ?_
            rintro e w6 ⟨rfl, hw6⟩
            subst hw6
            clear hhas
            go_wp2_with fail
            go_roundw
            case rel => exact ⟨j + 1, by omega, by go_num, HQ', HBq0⟩
            case measure => simp [intOf]; omega
          · obtain rfl : j = m := by omega
            have j2 : decide ((j : Int) < (j : Int)) = false := decide_eq_false (by omega)
            have HC' : Hid ((N.take (k + 1)).Nodup ∧ ∀ x ∈ N.take (k + 1), ∀ q ∈ L, x ∉ q.p.ak) := by
              refine ⟨HND.out, ?_⟩
              rw [HTK.out]
              intro z hz q hq
              rcases List.mem_append.1 hz with h | h
              · exact HC0.out z h q hq
              · rw [List.mem_singleton.1 h]
                exact HQ.out q (by rw [HM.out, List.take_length]; exact hq)
            clear hlj HQ
            go_wp2_with fail
            go_roundw
            case rel => exact ⟨k + 1, by omega, by go_num, HC', HB2⟩
            case measure => simp [intOf]; omega
      · obtain rfl : k = n := by omega
        have j1 : decide ((k : Int) < (k : Int)) = false := decide_eq_false (by omega)
        have hcl : Clean (L.map (·.p)) N := by
          have := HC.out
          rw [HN.out, List.take_length] at this
          refine ⟨this.1, fun x hx z hz => ?_⟩
          obtain ⟨q, hq, rfl⟩ := List.mem_map.1 hz
          exact this.2 x hx q hq
        have hE := HE.out
        rw [if_neg (fun h => h hcl)] at hE
        have hBw : Below w.heap.size w wr := HB0.out.trans (HB.out.mono HB0.out.size)
        have K5r := HK5.out.keep HB.out
        have K8r := HK8.out.keep HB.out
        have c55r : wr.cell? ⟨b5, 5, none⟩ = some (.slice o.s o.p.ak.length o.c) := K5r.cell 5
        rw [← HLA.out] at c55r
        have z5r := K5r.lt
        have z8r := K8r.lt
        have f55r := K5r.frozen 5
        have HK5r := Lib.hid K5r
        have HK8r := Lib.hid K8r
        have HBW := Lib.hid hBw
        clear hcl hlt HC
        by_cases h16 : 16 < la + k
        · have q16 : decide ((16 : Int) < (la : Int) + (k : Int)) = true := decide_eq_true (by omega)
          rw [if_pos h16] at hE
          have hop := Lib.hid (show OP = o.p by rw [HP.out, hE]; rfl)
          subst hE
          clear h16 K5r K8r hBw
          go_upto_region 33 with fail
          have hrg := on_range HK5r.out
          have hth := on_there (o := o) HK8r.out
          have hK9 : Bk ((wr).setCells b8 0 (onL o)) b8 60 (onL o).toArray := Bk.setAll (xs := (onL o).toArray) HK8r.out rfl
          go_wp2_with (first | (refine wpList_load_mid rfl 60 (.tmp 5) rfl b5 0 rfl (onL o) _ hrg Try.underlying60 rfl (on_sz _) ?_) | (refine wpList_store_mid rfl 60 (.tmp 8) (.tmp 97) rfl b8 0 (onL o).toArray rfl rfl hth (on_szA _) (on_ones _) ?_))
          (try simp only [Exit.inBlock, Exit.then])
          refine on_ret (g := b8) (nm := 8) (k := 9) (A := (onL o).toArray) rfl rfl rfl rfl rfl hK9 ?_
          exact HOUT.out _ hK9 (Below.setCells HB5.out.2 _ _ _ (HBW.out)) hop.out
        have q16 : decide ((16 : Int) < (la : Int) + (k : Int)) = false := decide_eq_false (by omega)
        rw [if_neg h16] at hE
        have hop := Lib.hid (show OP = { o.p with ak := o.p.ak ++ N } by rw [HP.out, hE, if_pos rfl])
        subst hE
        -- the names, behind those that were there
        obtain ⟨We, hWe⟩ : ∃ We, We = wr.alloc (.cells #[] 5) := ⟨_, rfl⟩
        have hBe : Below wr.heap.size wr We := by rw [hWe]; exact (Below.refl _ _).alloc (Nat.le_refl _) _
        have hBwe : Below w.heap.size w We := hBw.trans (hBe.mono hBw.size)
        have hm0 : MineR byR We w.heap.size (.slice (some ⟨wr.heap.size, 0, none⟩) 0 0) [] := .inr ⟨wr.heap.size, 0, 0, rfl, rfl, by decide, hBw.size, by rw [hWe]; exact Bk.new _ _ _⟩
        obtain ⟨v1, Wf, hrun1, hm1, hb1, hs1⟩ := appR byR_ok [] o.p.ak _ o.sv w.heap.size We hm0 hBwe.size (HKEEP.out We hBwe) (by have := HLA.out; simp; omega)
        have hBf : Below w.heap.size w Wf := hBwe.trans (hb1.below hBwe.size (fun q hq => (hm0.slb_lo hq).1))
        obtain ⟨v2, Wg, hrun2, hm2, hb2, hs2⟩ := appR byR_ok ([] ++ o.p.ak) N v1 (.slice sn k cn) w.heap.size Wf hm1 hBf.size ((HNR.out.keep hBf (Nat.le_refl _)).mono hBf.size) (by have := HLA.out; have := HN.out; simp; omega)
        have hBg : Below w.heap.size w Wg := hBf.trans (hb2.below hBf.size (fun q hq => (hm1.slb_lo hq).1))
        rw [List.nil_append] at hm2
        obtain ⟨s2, c2, rfl⟩ : ∃ s c, v2 = .slice s (o.p.ak ++ N).length c := hm2.slice
        obtain ⟨l2, hl2⟩ : ∃ l2, l2 = (o.p.ak ++ N).length := ⟨_, rfl⟩
        rw [← hl2] at hm2 hrun2 hs2
        have hKe5 := K5r.keep hBe
        have hKe8 := K8r.keep hBe
        have n5 : ∀ {v l W}, MineR byR W w.heap.size v l → Bk W b5 60 (onL o).toArray → ¬ slb v b5 := fun h K => h.apart K (by decide)
        have n8 : ∀ {v l W}, MineR byR W w.heap.size v l → Bk W b8 60 (onL on0).toArray → ¬ slb v b8 := fun h K => h.apart K (by decide)
        have hKf5 := hb1.keep hKe5 (n5 hm0 hKe5)
        have hKf8 := hb1.keep hKe8 (n8 hm0 hKe8)
        have hKg5 := hb2.keep hKf5 (n5 hm1 hKf5)
        have hKg8 := hb2.keep hKf8 (n8 hm1 hKf8)
        obtain ⟨o1, ho1⟩ : ∃ o1 : OneM, o1 = ⟨{ o.p with ak := o.p.ak ++ N }, s2, c2⟩ := ⟨_, rfl⟩
        have hsv1 : o1.sv = .slice s2 l2 c2 := by rw [ho1, hl2]; rfl
        have K51 : Bk (Wg.setCell ⟨b5, 5, none⟩ (.slice s2 l2 c2)) b5 60 (onL o1).toArray := by
          have := hKg5.set_ 5 (.slice s2 l2 c2)
          have e : (onL o).toArray.setIfInBounds 5 (.slice s2 l2 c2) = (onL o1).toArray := by rw [← hsv1, ho1]; rfl
          rw [e] at this
          exact this
        have K81 : Bk (Wg.setCell ⟨b5, 5, none⟩ (.slice s2 l2 c2)) b8 60 (onL on0).toArray := hKg8.far hne' _
        have POST : Hid (∀ V, V = ((Wg.setCell ⟨b5, 5, none⟩ (.slice s2 l2 c2)).setCells b8 0 (onL o1)) → RowV byR V V.heap.size o1.sv o1.p.ak ∧ (∀ q, slb o1.sv q → slb o.sv q ∨ (w.heap.size ≤ q ∧ q < V.heap.size)) ∧ Below w.heap.size w V) := by
          show ∀ V, _
          intro V hV
          have hbut : But (fun q => q = b5 ∨ q = b8) Wg V := by
            rw [hV]
            exact ((But.refl (fun q => q = b5 ∨ q = b8) Wg).set_ (.inl (.inl rfl)) 5 none (.slice s2 l2 c2)).setCells (.inr rfl) (onL o1) 0 _ |> fun h => h
          have hmV := hm2.but_ hbut (fun q hq e => by
            rcases e with rfl | rfl
            · exact n5 hm2 hKg5 hq
            · exact n8 hm2 hKg8 hq)
          rw [hsv1, ho1]
          exact ⟨hmV.rows byR_ok, fun q hq => .inr ⟨(hm2.slb_lo hq).1, Nat.lt_of_lt_of_le (hm2.slb_lo hq).2.1 hbut.size⟩, hBg.trans (hbut.below hBg.size (fun q hq => hq.elim (fun e => by rw [e, HBE.out]; exact Nat.le_refl _) (fun e => by rw [e]; exact HB8.out)))⟩
        have g55 : Wg.cell? ⟨b5, 5, none⟩ = some (.slice o.s o.p.ak.length o.c) := hKg5.cell 5
        have gf5 := hKg5.frozen 5
        have gz5 := hKg5.lt
        have e55 : We.cell? ⟨b5, 5, none⟩ = some (.slice o.s la o.c) := by rw [HLA.out]; exact hKe5.cell 5
        have hw55 : o.sv = .slice o.s la o.c := by rw [HLA.out]; rfl
        rw [hw55] at hrun1
        change (Builtin.append_ #[48, 48] 48 #[_, _]).run Try.prog _ = _ at hrun1 hrun2
        have HV2 := Lib.hid hsv1
        have HO1 := Lib.hid ho1
        clear h16 K5r K8r hBw hBe hBwe hm0 hm1 hb1 hs1 hBf hm2 hb2 hs2 hBg hl2 hKe5 hKe8 n5 n8 hKf5 hKf8 hKg5 hKg8 hw55 hsv1 ho1
        rw [hWe] at hrun1
        clear hWe e55
        clear We
        go_upto_region 35 with (at_builtin; first | (refine wpList_ap 48 rfl (.tmp 98) (.tmp 100) rfl rfl rfl rfl hrun1 ?_) | (refine wpList_ap 48 rfl (.tmp 101) (.tmp 102) rfl rfl rfl rfl hrun2 ?_))
        have hrg := on_range K51
        have hth := on_there (o := o1) K81
        have hK9 : Bk (((Wg.setCell ⟨b5, 5, none⟩ (.slice s2 l2 c2))).setCells b8 0 (onL o1)) b8 60 (onL o1).toArray := Bk.setAll (xs := (onL o1).toArray) K81 rfl
        go_wp2_with (first | (refine wpList_load_mid rfl 60 (.tmp 5) rfl b5 0 rfl (onL o1) _ hrg Try.underlying60 rfl (on_sz _) ?_) | (refine wpList_store_mid rfl 60 (.tmp 8) (.tmp 105) rfl b8 0 (onL o1).toArray rfl rfl hth (on_szA _) (on_ones _) ?_))
        (try simp only [Exit.inBlock, Exit.then])
        refine on_ret (g := b8) (nm := 8) (k := 9) (A := (onL o1).toArray) rfl rfl rfl rfl rfl hK9 ?_
        exact ⟨o1, rfl, by rw [HO1.out]; exact hop.out.symm, POST.out _ rfl⟩
  · have d6 : (kd != 6) = true := by simp [e6]
    rw [if_pos e6] at hE
    have hop := Lib.hid (show OP = o.p by rw [hP, hE, if_pos rfl, if_neg e6])
    subst hE
    clear hP e6
    have hrg := on_range HK5.out
    have hth := on_there (o := o) HK8.out
    have hK9 : Bk ((W0).setCells b8 0 (onL o)) b8 60 (onL o).toArray := Bk.setAll (xs := (onL o).toArray) HK8.out rfl
    go_wp2_with (first | (refine wpList_load_mid rfl 60 (.tmp 5) rfl b5 0 rfl (onL o) _ hrg Try.underlying60 rfl (on_sz _) ?_) | (refine wpList_store_mid rfl 60 (.tmp 8) (.tmp 59) rfl b8 0 (onL o).toArray rfl rfl hth (on_szA _) (on_ones _) ?_))
    (try simp only [Exit.inBlock, Exit.then])
    refine on_ret (g := b8) (nm := 8) (k := 9) (A := (onL o).toArray) rfl rfl rfl rfl rfl hK9 ?_
    exact HOUT.out _ hK9 (Below.setCells HB5.out.2 _ _ _ HB0.out) hop.out
end Go.Proofs.Ytcedljfdnbenoaa
