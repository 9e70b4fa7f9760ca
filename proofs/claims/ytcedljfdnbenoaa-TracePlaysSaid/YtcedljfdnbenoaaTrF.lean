/-
  Package trace: a peer is asked for blocks.
-/
import Derived.Test.YtcedljfdnbenoaaTrE
namespace Go.Proofs.Ytcedljfdnbenoaa
open Go.RowKit
open Go.Maps (Keyed IsMap)
set_option linter.unusedVariables false
set_option linter.unusedSimpArgs false
set_option maxRecDepth 100000

theorem twB_false (A : I32 → Option Int) : ∀ (L seen : List I32), twB A seen L = false → (∀ x ∈ L, x ∉ seen ∧ A x = none) ∧ L.Nodup
  | [], seen, _ => ⟨fun x h => (by cases h), List.Pairwise.nil⟩
  | x :: r, seen, h => by
    unfold twB at h
    by_cases hc : (decide (x ∈ seen) || (A x).isSome) = true
    · rw [if_pos hc] at h; cases h
    · rw [if_neg hc] at h
      obtain ⟨h1, h2⟩ := twB_false A r _ h
      have hx : x ∉ seen ∧ A x = none := by
        simp at hc
        exact hc
      refine ⟨fun z hz => ?_, List.nodup_cons.2 ⟨fun hm => (h1 x hm).1 (by simp), h2⟩⟩
      rcases List.mem_cons.1 hz with rfl | hz
      · exact hx
      · exact ⟨fun hm => (h1 z hz).1 (by simp [hm]), (h1 z hz).2⟩
theorem ite_suc (c : Prop) [Decidable c] (m : Nat) : (if c then m else m + 1) ≤ m + 1 := by split <;> omega
def askE (M : BkM) (id : Int) (L : List I32) : Int := if L.length = 0 then 6 else if twB M.A [] L = true then 5 else if 16 < (M.L id).length + L.length then 3 else 0
def askM (M : BkM) (id : Int) (L : List I32) : BkM := if askE M id L = 0 then { M with A := fun x => if x ∈ L then some id else M.A x, L := fun j => if j = id then M.L id ++ L else M.L j } else M
theorem ask_end {w w' : World} {S : Nat → Prop} {g N : Nat} {M : BkM} {tv : Value} {b sz sz' : Nat} {P : Int → Nat} {id : Int} {L : List I32} (h : BkJ w S g M tv (.map (some b)) sz P) (ht : twB M.A [] L = false) (h0 : askE M id L = 0) (hN : sz' ≤ N)
    (hm : MapG akE w' b sz' (fun x => if x ∈ L then some id else M.A x)) (hb : But (fun k => k = b) w w') : Goes S w g N (askM M id L) w' := by
  obtain ⟨t1, t2⟩ := twB_false _ _ _ ht
  have hbs : S b := h.sa b rfl
  have hnb : ∀ k t cs, Bk w k t cs → ¬ k = b := fun k t cs K e => not_map K h.ma (by rw [e])
  unfold askM
  rw [if_pos h0]
  refine ⟨S, ⟨tv, .map (some b), sz', P, hN, hb.keep h.G (hnb _ _ _ h.G), h.sg, h.mt.but hb (fun k e e' => h.ne k e (by rw [e'])), .inr ⟨b, rfl, hm⟩, h.st, h.sa, h.ne, h.nn, fun x j => ?_, fun j => ?_, fun i k e => ⟨(h.tk i k e).1, hb.keep (h.tk i k e).2 (hnb _ _ _ (h.tk i k e).2)⟩, h.tj⟩, fun k hk => .inl hk, hb.mono (fun k _ e => by rw [e]; exact hbs)⟩
  · show (if x ∈ L then some id else M.A x) = some j ↔ x ∈ (if j = id then M.L id ++ L else M.L j)
    have hA : M.A x = some j ↔ x ∈ M.L j := h.hA x j
    by_cases e : x ∈ L
    · rw [if_pos e]
      have hn := (t1 x e).2
      rw [hn] at hA
      by_cases ej : j = id
      · rw [if_pos ej, ej]
        exact ⟨fun _ => List.mem_append.2 (.inr e), fun _ => rfl⟩
      · rw [if_neg ej, ← hA]
        exact ⟨fun h' => absurd (Option.some.inj h').symm ej, fun h' => (by cases h')⟩
    · rw [if_neg e, hA]
      by_cases ej : j = id
      · rw [if_pos ej, ej, List.mem_append]
        exact ⟨.inl, fun h' => h'.elim (fun h => h) (fun h => absurd h e)⟩
      · rw [if_neg ej]
  · show (if j = id then M.L id ++ L else M.L j).Nodup
    split
    · refine List.nodup_append.2 ⟨h.nd id, t2, fun x hx y hy e => ?_⟩
      subst e
      have := (h.hA x id).2 hx
      rw [(t1 x hy).2] at this
      cases this
    · exact h.nd j
set_option maxHeartbeats 8000000 in
theorem ask_any {w : World} {S : Nat → Prop} {g N : Nat} {M : BkM} (h : BkI w S g N M) (id : Int) (hT : (M.T id).isSome = true) (v : Value) (L : List I32) (B : Nat) (hL : RowV idR w B v L) (hB : B ≤ w.heap.size) (h63 : L.length ≤ 1000000) (hN : N ≤ 1000000) (hA63 : (M.L id).length ≤ 1000000) :
    Calls Try.prog 18 #[bkP g, .int .i64 id, v] w fun e w' => e = .returned (.int .i64 (askE M id L)) ∧ Goes S w g (N + 16) (askM M id L) w' := by
  have htw := fun W (hb : Below w.heap.size w W) => twice_any (h.keep hb) v L B (hL.keep hb hB) (Nat.le_trans hB hb.size) h63
  have has := fun W (hb : Below w.heap.size w W) => asked_any (h.keep hb) id (by omega)
  have hst : askE M id L ≠ 0 → ∀ W, Below w.heap.size w W → Goes S w g (N + 16) (askM M id L) W := fun h0 W hb => by
    unfold askM
    rw [if_neg h0]
    exact Goes.stay (h.mono (by omega)) hb
  obtain ⟨tv, av, sz, P, h1, h⟩ := h
  obtain ⟨b, rfl⟩ : ∃ b, av = .map (some b) := by
    rcases h.ma with ⟨e, _⟩ | ⟨b, e, _⟩
    · have := h.nn.2 e
      rcases h.mt with ⟨_, _, hn⟩ | ⟨a, e', _⟩
      · have := hn id
        rw [Option.map_eq_none_iff] at this
        rw [this] at hT
        cases hT
      · rw [e'] at this; cases this
    · exact ⟨b, e⟩
  obtain ⟨s0, c, rfl⟩ : ∃ s c, v = .slice s L.length c := hL.slice
  have hrow := row_at hL
  obtain ⟨n, hn⟩ : ∃ n, n = L.length := ⟨_, rfl⟩
  have HN := Lib.hid hn
  rw [← hn] at hrow h63 htw
  have HL : Hid (∀ k, k < n → ∃ x b o, L[k]? = some x ∧ s0 = some ⟨b, o, none⟩ ∧ b < w.heap.size ∧ w.rangeAt b (o + k * 32) (idL x)) := fun k hk => by
    obtain ⟨x, b, o, e1, e2, e3, e4⟩ := hrow k hk
    exact ⟨x, b, o, e1, e2, Nat.lt_of_lt_of_le e3 hB, e4⟩
  obtain ⟨tw, htwv⟩ : ∃ t, t = twB M.A [] L := ⟨_, rfl⟩
  obtain ⟨m, hm⟩ : ∃ m, m = (M.L id).length := ⟨_, rfl⟩
  obtain ⟨E, hE⟩ : ∃ E, E = askE M id L := ⟨_, rfl⟩
  have hEE : E = if n = 0 then 6 else if tw = true then 5 else if 16 < m + n then 3 else 0 := by rw [hE, hm, htwv, hn]; rfl
  have HFIN : Hid (E = 0 → ∀ W sz', sz' ≤ N + 16 → MapG akE W b sz' (fun x => if x ∈ L then some id else M.A x) → But (fun k => k = b) w W → Goes S w g (N + 16) (askM M id L) W) := by
    show _ → ∀ W, _
    intro h0 W sz' hs hm' hb
    have htf : twB M.A [] L = false := by
      rw [← htwv]
      cases tw with
      | false => rfl
      | true =>
        rw [hEE] at h0
        by_cases hn0 : n = 0
        · rw [if_pos hn0] at h0; cases h0
        · rw [if_neg hn0, if_pos rfl] at h0; cases h0
    exact ask_end h htf (by rw [← hE]; exact h0) hs hm' hb
  rw [← htwv] at htw
  rw [← hm] at has hA63
  rw [← hE] at hst ⊢
  rw [← hn]
  have HTW := Lib.hid htw
  have HAS := Lib.hid has
  have HST := Lib.hid hst
  have HM0 : Hid (∃ m', m' ≤ sz + 0 ∧ MapG akE w b m' (fun x => if x ∈ L.take 0 then some id else M.A x)) := by
    rcases h.ma with ⟨e, _⟩ | ⟨b', e, hm'⟩
    · cases e
    · cases e
      refine ⟨sz, Nat.le_refl _, ?_⟩
      have hf : (fun x => if x ∈ L.take 0 then some id else M.A x) = M.A := by
        funext x
        rw [List.take_zero, if_neg (by simp)]
      rw [hf]
      exact hm'
  have HG : Hid (Bk w g 27 #[tv, .map (some b)]) := h.G
  have HNB : Hid (∀ i, w.cell? ⟨b, i, none⟩ = none) := by
    show ∀ i, _
    intro i
    rcases h.ma with ⟨e, _⟩ | ⟨b', e, D, hD, _⟩
    · cases e
    · cases e
      obtain ⟨es, clock, hb', _⟩ := hD
      simp [World.cell?, hb']
  have hgb : g ≠ b := fun e => not_map h.G h.ma (by rw [e])
  have HS1 : Hid (sz ≤ N) := h1
  have hg := h.G.lt
  obtain ⟨A, hA⟩ : ∃ A, A = M.A := ⟨_, rfl⟩
  rw [← hA] at HM0 HFIN
  unfold bkP
  clear hrow hL h hn htwv hm hE htw has hst hA hT h1
  by_cases hn0 : n = 0
  · have d1 : ((n : Int) == 0) = true := by simp [hn0]
    have hr : E = 6 := by rw [hEE, if_pos hn0]
    go_enter Try.func18, Try.ntmps18
    go_wp2_with fail
    go_ret
    exact ⟨by rw [hr]; rfl, HST.out (by rw [hr]; decide) _ (Below.refl _ _)⟩
  have d1 : ((n : Int) == 0) = false := by simp [hn0]
  rw [if_neg hn0] at hEE
  cases tw with
  | true =>
    have hr : E = 5 := by rw [hEE, if_pos rfl]
    have hcall := HTW.out w (Below.refl _ _)
    go_enter Try.func18, Try.ntmps18
    go_wp2_with fail
    refine hcall.mono ?_
    rintro e w1 ⟨rfl, hb1⟩
    have HB1 := Lib.hid hb1
    clear hb1 hcall
    go_wp2_with fail
    go_ret
    exact ⟨by rw [hr]; rfl, HST.out (by rw [hr]; decide) _ HB1.out⟩
  | false =>
    rw [if_neg (by decide)] at hEE
    have hcall := HTW.out w (Below.refl _ _)
    go_enter Try.func18, Try.ntmps18
    go_wp2_with fail
    refine hcall.mono ?_
    rintro e w1 ⟨rfl, hb1⟩
    have HB1 := Lib.hid hb1
    have hcall2 := HAS.out w1 hb1
    clear hb1 hcall
    go_wp2_with fail
    refine hcall2.mono ?_
    rintro e w2 ⟨rfl, hb2⟩
    have HB2 := Lib.hid (HB1.out.trans (hb2.mono HB1.out.size))
    clear hb2 hcall2 HB1
    by_cases h16 : 16 < m + n
    · have d2 : decide ((16 : Int) < (m : Int) + (n : Int)) = true := decide_eq_true (by omega)
      have hr : E = 3 := by rw [hEE, if_pos h16]
      go_wp2_with fail
      go_ret
      exact ⟨by rw [hr]; rfl, HST.out (by rw [hr]; decide) _ HB2.out⟩
    have d2 : decide ((16 : Int) < (m : Int) + (n : Int)) = false := decide_eq_false (by omega)
    have hr : E = 0 := by rw [hEE, if_neg h16]
    have HM1 : Hid (∃ m', m' ≤ sz + 0 ∧ MapG akE w2 b m' (fun x => if x ∈ L.take 0 then some id else A x)) := by
      obtain ⟨m', e1, e2⟩ := HM0.out
      exact ⟨m', e1, e2.keep HB2.out⟩
    have HW2 : Hid (But (fun k => k = b) w w2) := But.of HB2.out
    have H16 := Lib.hid h16
    clear HM0 HB2 HTW HAS HST hEE h16
    go_wp2_with fail
    clear d2
    go_loopw [27] (fun i wr => ∃ k : Nat, k ≤ n ∧ i = .int .i64 k ∧ Hid (∃ m', m' ≤ sz + k ∧ MapG akE wr b m' (fun x => if x ∈ L.take k then some id else A x)) ∧ Hid (But (fun k => k = b) w wr)) (fun i _ => n - (intOf i).toNat)
    case atStart => exact ⟨0, Nat.zero_le _, rfl, HM1, HW2⟩
    case round =>
      obtain ⟨k, hk, rfl, HM, HB⟩ := hrel
      clear HM1 HW2
      by_cases hlt : k < n
      · obtain ⟨x, bb, o, hkx, rfl, hbw, hrg⟩ := HL.out k hlt
        have j1 : decide ((k : Int) < (n : Int)) = true := decide_eq_true (by omega)
        obtain ⟨m', hm', hM⟩ := HM.out
        have hbbne : bb ≠ b := fun e => by
          have e1 := hrg 0 _ (List.getElem?_eq_getElem (by rw [idL_len]; decide))
          rw [e, HNB.out] at e1
          cases e1
        have hrg : wr.rangeAt bb (o + k * 32) (idL x) := fun j v hv => (HB.out.cell (p := ⟨bb, o + k * 32 + j, none⟩) hbw hbbne).trans (hrg j v hv)
        have hbr : bb < wr.heap.size := Nat.lt_of_lt_of_le hbw HB.out.size
        have hTK : L.take (k + 1) = L.take k ++ [x] := by
          rw [List.take_add_one, hkx]
          rfl
        obtain ⟨hstc, K3, B3⟩ := id_made x wr
        have hM3 := hM.keep B3
        have hB3 := HB.out.step B3
        have hps := id_size x
        have hs32 := idL_len x
        obtain ⟨PL, hPL⟩ : ∃ PL, PL = idL x := ⟨_, rfl⟩
        have HPL := Lib.hid hPL
        have HTK := Lib.hid hTK
        have HM' := Lib.hid hm'
        rw [← hPL] at hstc K3 B3 hM3 hB3 hps hs32 hrg
        clear hPL hTK hM HM HB hkx hm'
        go_upto_region 10 with (refine wpList_load_mid rfl 36 (.tmp 29) rfl bb (o + k * 32) rfl PL _ hrg Try.underlying36 rfl hps ?_)
        refine wp_any (fun W => Bk W wr.heap.size 36 PL.toArray ∧ MapG akE W b m' (fun x => if x ∈ L.take k then some id else A x) ∧ But (fun k => k = b) w W) ⟨K3, hM3, hB3⟩ ?_
        clear K3 hM3 hB3 hstc B3 hps hs32 hrg hbr
        generalize wr.heap.size = k0 at *
        clear wr
        rintro W ⟨K, hM, hB⟩
        have hkl := K.lt
        have hd : Below W.heap.size W W.drew := (Below.refl _ _).drew
        obtain ⟨W5, hrun, hM5, hB5⟩ := (hM.keep hd).put akE_ok (x := x) trivial id (by have := HM'.out; have := HS1.out; unfold maxLen; omega)
        have hBd : But (fun k => k = b) w W.drew := hB.step hd
        have hBe : But (fun k => k = b) w W5 := hBd.trans hB5 (fun _ _ h => h)
        have hkb : k0 ≠ b := fun e => not_map (K.keep hd) (E := akE) (v := .map (some b)) (.inr ⟨b, rfl, hM.keep hd⟩) (by rw [e])
        have t1 : W.drew.cell? ⟨g, 1, none⟩ = some (.map (some b)) := (hBd.keep HG.out hgb).cell 1
        have s1 : W5.cell? ⟨g, 1, none⟩ = some (.map (some b)) := (hBe.keep HG.out hgb).cell 1
        obtain ⟨tl, htl⟩ : ∃ tl : TypeId, tl = 36 := ⟨_, rfl⟩
        obtain ⟨s32, hs32⟩ : ∃ sz : Nat, sz = 32 := ⟨_, rfl⟩
        have hag : ∀ w, (isAgg tl).run Try.prog w = .ok true w := by rw [htl]; exact id_agg
        have hsz : ∀ w, (sizeOf tl).run Try.prog w = .ok s32 w := by rw [htl, hs32]; exact id_sz
        have hld : ∀ V, Bk V k0 36 PL.toArray → (loadCellsFrom ⟨k0, 0, none⟩ 0 s32 #[]).run Try.prog V = .ok PL.toArray V := by rw [hs32, HPL.out]; exact fun V => id_load V k0 _ x
        have t2 := hld _ (K.keep hd)
        have s2 := hld _ (hB5.keep (K.keep hd) hkb)
        have HTL := Lib.hid (show ∀ z, Op.load 36 z = Op.load tl z from fun z => by rw [htl])
        have HBX := Lib.hid hBe
        have HMX : Hid (∃ m', m' ≤ sz + (k + 1) ∧ MapG akE W5 b m' (fun x => if x ∈ L.take (k + 1) then some id else A x)) := by
          have hf : upd (fun x => if x ∈ L.take k then some id else A x) x (some id) = fun x => if x ∈ L.take (k + 1) then some id else A x := by
            funext z
            rw [HTK.out]
            by_cases ez : z = x
            · subst ez
              rw [upd_same, if_pos (by simp)]
            · rw [upd_other _ _ ez]
              have : z ∈ L.take k ++ [x] ↔ z ∈ L.take k := by simp [ez]
              simp only [this]
          rw [hf] at hM5
          exact ⟨_, Nat.le_trans (ite_suc _ _) (by have := HM'.out; omega), hM5⟩
        change (Instr.mapUpdate 25 (.map (some b)) (.agg (idL x).toArray) (.int .i64 id)).run Try.prog W.drew = _ at hrun
        rw [← HPL.out] at hrun
        clear htl hs32 hld hM hB hM5 hB5 hBe hBd hd
        have htl2 := HTL.out
        simp only [htl2]
        clear htl2
        go_region_held (fun W' => W'.cell? ⟨g, 1, none⟩ = some (.map (some b)) ∧ (loadCellsFrom ⟨k0, 0, none⟩ 0 s32 #[]).run Try.prog W' = .ok PL.toArray W') (first | with_reducible assumption | exact ⟨t1, t2⟩ | exact ⟨s1, s2⟩) (refine step_mu rfl _ _ _ _ rfl rfl rfl rfl hrun ?_)
        go_wp2_with fail
        go_roundw
        case rel => exact ⟨k + 1, by omega, by go_num, HMX, HBX⟩
        case measure => simp [intOf]; omega
      · obtain rfl : k = n := by omega
        have j1 : decide ((k : Int) < (k : Int)) = false := decide_eq_false (by omega)
        have hG : Hid (Goes S w g (N + 16) (askM M id L) wr) := by
          obtain ⟨m', hm', hM⟩ := HM.out
          rw [HN.out, List.take_length] at hM
          have := HS1.out
          have := H16.out
          exact HFIN.out hr wr m' (by omega) hM HB.out
        clear hlt HM
        go_wp2_with fail
        go_ret
        exact ⟨by rw [hr]; rfl, hG.out⟩
end Go.Proofs.Ytcedljfdnbenoaa
