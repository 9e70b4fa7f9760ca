/-
  Package trace: is a name there twice; who is asked.
-/
import Derived.Test.YtcedljfdnbenoaaTrD
namespace Go.Proofs.Ytcedljfdnbenoaa
open Go.RowKit
open Go.Maps (Keyed IsMap)
set_option linter.unusedVariables false
set_option linter.unusedSimpArgs false
set_option maxRecDepth 100000

def stE : MpT I32 Unit := ⟨kId, 76, 77, unitElem, fun _ => .agg [], fun _ => .agg #[], .agg #[], .agg []⟩
theorem stE_ok : stE.Ok where
  hk := kId_ok
  ht := Try.underlying76
  zero := fun w => by kernel_rfl
  rz := unitElem_mk
  inv0 := fun v ps h => (unitElem_inv h).1
  rd := fun x => unitElem_mk
  inv := fun v x ps h => (unitElem_inv h).1
/-- Is one of some names there twice, or is anybody asked for it? -/
def twB (A : I32 → Option Int) : List I32 → List I32 → Bool
  | _, [] => false
  | seen, x :: r => if decide (x ∈ seen) || (A x).isSome then true else twB A (seen ++ [x]) r
theorem valS (f : Option Unit) : valO stE f = .agg #[] := by cases f <;> rfl
set_option maxHeartbeats 8000000 in
theorem twice_any {w : World} {S : Nat → Prop} {g N : Nat} {M : BkM} (h : BkI w S g N M) (v : Value) (L : List I32) (B : Nat) (hL : RowV idR w B v L) (hB : B ≤ w.heap.size) (h63 : L.length ≤ 1000000) :
    Calls Try.prog 20 #[bkP g, v] w fun e w' => e = .returned (.bool (twB M.A [] L)) ∧ Below w.heap.size w w' := by
  obtain ⟨tv, av, sz, P, h1, h⟩ := h
  obtain ⟨s0, c, rfl⟩ : ∃ s c, v = .slice s L.length c := hL.slice
  have hrow := row_at hL
  obtain ⟨n, hn⟩ : ∃ n, n = L.length := ⟨_, rfl⟩
  have HN := Lib.hid hn
  rw [← hn] at hrow h63 ⊢
  have HL : Hid (∀ k, k < n → ∃ x b o, L[k]? = some x ∧ s0 = some ⟨b, o, none⟩ ∧ b < w.heap.size ∧ w.rangeAt b (o + k * 32) (idL x)) := fun k hk => by
    obtain ⟨x, b, o, e1, e2, e3, e4⟩ := hrow k hk
    exact ⟨x, b, o, e1, e2, Nat.lt_of_lt_of_le e3 hB, e4⟩
  obtain ⟨res, hres⟩ : ∃ r, r = twB M.A [] L := ⟨_, rfl⟩
  rw [← hres]
  obtain ⟨A, hA⟩ : ∃ A, A = M.A := ⟨_, rfl⟩
  have HA : Hid (∀ W, Below w.heap.size w W → W.cell? ⟨g, 1, none⟩ = some av ∧ ∀ x, (Instr.lookup 25 av (.agg (idL x).toArray) true).run Try.prog W = .ok (Value.tuple #[valO akE (A x), .bool (A x).isSome]) W) := by
    show ∀ W, _
    intro W hb
    rw [hA]
    exact ⟨(h.keep hb).G.cell 1, fun x => (h.keep hb).ma.look akE_ok (x := x) trivial⟩
  have H0 : Hid (res = twB A (L.take 0) (L.drop 0)) := by show _ = _; rw [hres, hA]; rfl
  have hg := h.G.lt
  have hmm := @run_makeMap Try.prog
  unfold bkP
  clear hrow hL h hn hres hA
  go_enter Try.func20, Try.ntmps20
  go_upto_region 2 with fail
  obtain ⟨s, hs⟩ : ∃ s, s = w.heap.size := ⟨_, rfl⟩
  refine wp_any (fun W => MapG stE W s 0 (fun _ => none) ∧ Below w.heap.size w W) ⟨by rw [hs]; exact MapG.made _, (Below.refl _ _).alloc (Nat.le_refl _) _⟩ ?_
  have HS := Lib.hid hs
  rw [← hs]
  clear hs hmm
  rintro W0 ⟨hm, hW⟩
  have HM0 := Lib.hid hm
  have HW0 : Hid (Below w.heap.size w W0) := by rw [← HS.out]; exact hW
  clear hm hW
  go_wp2_with fail
  go_loopw [15] (fun i wr => ∃ (k m : Nat) (f : I32 → Option Unit), k ≤ n ∧ i = .int .i64 k ∧ m ≤ k ∧ Hid (MapG stE wr s m f) ∧ Hid (∀ x, (f x).isSome = decide (x ∈ L.take k)) ∧ Hid (res = twB A (L.take k) (L.drop k)) ∧ Hid (Below w.heap.size w wr)) (fun i _ => n - (intOf i).toNat)
  case atStart => exact ⟨0, 0, _, Nat.zero_le _, rfl, Nat.le_refl _, HM0, fun x => by simp, H0, HW0⟩
  case round =>
    obtain ⟨k, m, f, hk, rfl, hmk, HM, HF, HR, HB⟩ := hrel
    clear H0 HM0 HW0
    by_cases hlt : k < n
    · obtain ⟨x, b, o, hkx, rfl, hbw, hrg⟩ := HL.out k hlt
      have j1 : decide ((k : Int) < (n : Int)) = true := decide_eq_true (by omega)
      have hrg := rr_below hrg HB.out hbw
      have hbr : b < wr.heap.size := Nat.lt_of_lt_of_le hbw HB.out.size
      have hDR : L.drop k = x :: L.drop (k + 1) := by
        obtain ⟨hk', hx⟩ := List.getElem?_eq_some_iff.1 hkx
        rw [List.drop_eq_getElem_cons hk', hx]
      have hTK : L.take (k + 1) = L.take k ++ [x] := by
        rw [List.take_add_one, hkx]
        rfl
      have hRR := HR.out
      rw [hDR] at hRR
      unfold twB at hRR
      rw [← HF.out x, ← hTK] at hRR
      have HRR := Lib.hid hRR
      have HTK := Lib.hid hTK
      obtain ⟨hstc, K3, B3⟩ := id_made x wr
      have hM3 := HM.out.keep B3
      have hB3 := HB.out.trans (B3.mono HB.out.size)
      have hps := id_size x
      have hs32 := idL_len x
      obtain ⟨PL, hPL⟩ : ∃ PL, PL = idL x := ⟨_, rfl⟩
      have HPL := Lib.hid hPL
      rw [← hPL] at hstc K3 B3 hM3 hB3 hps hs32 hrg
      clear hPL hDR hTK hRR HR HM HB hkx
      go_upto_region 5 with (refine wpList_load_mid rfl 36 (.tmp 17) rfl b (o + k * 32) rfl PL _ hrg Try.underlying36 rfl hps ?_)
      refine wp_any (fun W => Bk W wr.heap.size 36 PL.toArray ∧ MapG stE W s m f ∧ Below w.heap.size w W) ⟨K3, hM3, hB3⟩ ?_
      clear K3 hM3 hB3 hstc B3 hps hs32 hrg hbr
      generalize wr.heap.size = k0 at *
      clear wr
      rintro W ⟨K, hM, hB⟩
      have hkl := K.lt
      obtain ⟨tl, htl⟩ : ∃ tl : TypeId, tl = 36 := ⟨_, rfl⟩
      obtain ⟨s32, hs32⟩ : ∃ sz : Nat, sz = 32 := ⟨_, rfl⟩
      have hag : ∀ w, (isAgg tl).run Try.prog w = .ok true w := by rw [htl]; exact id_agg
      have hsz : ∀ w, (sizeOf tl).run Try.prog w = .ok s32 w := by rw [htl, hs32]; exact id_sz
      have HLD : Hid (∀ V, Bk V k0 36 PL.toArray → (loadCellsFrom ⟨k0, 0, none⟩ 0 s32 #[]).run Try.prog V = .ok PL.toArray V) := by show ∀ V, _; rw [hs32, HPL.out]; exact fun V => id_load V k0 _ x
      have HTL := Lib.hid (show ∀ z, Op.load 36 z = Op.load tl z from fun z => by rw [htl])
      have t2 := HLD.out _ K
      have hlk := hM.look stE_ok (x := x) trivial
      rw [valS] at hlk
      change (Instr.lookup 76 (.map (some s)) (.agg (idL x).toArray) true).run Try.prog W = _ at hlk
      rw [← HPL.out] at hlk
      have hal : Below W.heap.size W (W.alloc (.cells #[] 77)) := (Below.refl _ _).alloc (Nat.le_refl _) _
      have K6 := K.keep hal
      have hM6 := hM.keep hal
      have hB6 := hB.trans (hal.mono hB.size)
      clear htl hs32 K hM hB hal
      have htl2 := HTL.out
      simp only [htl2]
      clear htl2
      go_upto_region 6 with (first | (at_lookup; refine wpList_lk rfl _ _ _ rfl rfl rfl hlk ?_) | go_in)
      refine wp_any (fun W => Bk W k0 36 PL.toArray ∧ MapG stE W s m f ∧ Below w.heap.size w W) ⟨K6, hM6, hB6⟩ ?_
      clear K6 hM6 hB6 hlk t2 hkl
      generalize W.heap.size = q8 at *
      clear W
      rintro W ⟨K, hM, hB⟩
      have hkl := K.lt
      have hc : ∀ W', Below W.heap.size W W' → W'.cell? ⟨g, 1, none⟩ = some av := fun W' hb => (HA.out W' (hB.trans (hb.mono hB.size))).1
      have hla : ∀ W', Below W.heap.size W W' → (loadCellsFrom ⟨k0, 0, none⟩ 0 s32 #[]).run Try.prog W' = .ok PL.toArray W' := fun V hb => HLD.out V (K.keep hb)
      have hl : ∀ W', Below W.heap.size W W' → (Instr.lookup 25 av (.agg PL.toArray) true).run Try.prog W' = .ok (Value.tuple #[valO akE (A x), .bool (A x).isSome]) W' := by rw [HPL.out]; exact fun W' hb => (HA.out W' (hB.trans (hb.mono hB.size))).2 x
      have hd : Below W.heap.size W W.drew := (Below.refl _ _).drew
      have t2 := hla _ hd
      obtain ⟨hv, hhv⟩ : ∃ v, v = valO akE (A x) := ⟨_, rfl⟩
      obtain ⟨ha, hha⟩ : ∃ b, b = (A x).isSome := ⟨_, rfl⟩
      obtain ⟨hf, hhf⟩ : ∃ b, b = (f x).isSome := ⟨_, rfl⟩
      have HRR2 := HRR.out
      rw [← hha, ← hhf] at HRR2
      rw [← hhv, ← hha] at hl
      have HFX := Lib.hid hhf
      rw [← hhf]
      obtain ⟨W5, hrun, hm5, hb5⟩ := (hM.keep hd).put stE_ok (x := x) trivial () (by unfold maxLen; omega)
      change (Instr.mapUpdate 76 (.map (some s)) (.agg (idL x).toArray) (.agg #[])).run Try.prog W.drew = _ at hrun
      rw [← HPL.out] at hrun
      have HM5 : Hid (∃ m', m' ≤ m + 1 ∧ MapG stE W5 s m' (upd f x (some ()))) := ⟨_, by split <;> omega, hm5⟩
      have HB5 : Hid (Below w.heap.size w W5) := (hB.trans (hd.mono hB.size)).trans (hb5.below (hB.trans (hd.mono hB.size)).size (fun k hk => by rw [hk, HS.out]; exact Nat.le_refl _))
      have HBd : Hid (Below w.heap.size w W.drew) := hB.trans (hd.mono hB.size)
      have HF5 : Hid (∀ z, (upd f x (some ()) z).isSome = decide (z ∈ L.take (k + 1))) := by
        show ∀ z, _
        intro z
        rw [HTK.out]
        by_cases ez : z = x
        · subst ez
          rw [upd_same]
          simp
        · rw [upd_other _ _ ez, HF.out z]
          simp [ez]
      clear hhv hha hhf hm5 hb5 hd hB hM K HRR HLD
      have htl2 := HTL.out
      simp only [htl2]
      clear htl2
      go_region_held (fun w' => Below W.heap.size W w') (first | with_reducible assumption | exact (Below.refl _ _).drew | exact Below.refl _ _) (fail)
      clear hc hla hl
      cases hf with
      | true =>
        have hr : res = true := by rw [HRR2]; rfl
        go_wp2_with fail
        go_ret
        exact ⟨by rw [hr]; rfl, HBd.out⟩
      | false =>
        cases ha with
        | true =>
          have hr : res = true := by rw [HRR2]; rfl
          go_wp2_with fail
          go_ret
          exact ⟨by rw [hr]; rfl, HBd.out⟩
        | false =>
          have hr : Hid (res = twB A (L.take (k + 1)) (L.drop (k + 1))) := HRR2
          clear HRR2
          go_upto_region 9 with fail
          have htl2 := HTL.out
          simp only [htl2]
          clear htl2
          go_wp2_with (first | (at_mapUpdate; refine wpList_mu rfl _ _ _ _ rfl rfl rfl rfl hrun ?_) | go_in)
          go_roundw
          case rel =>
            obtain ⟨m', hm', hM'⟩ := HM5.out
            exact ⟨k + 1, m', _, by omega, by go_num, by omega, hM', HF5, hr, HB5⟩
          case measure => simp [intOf]; omega
    · obtain rfl : k = n := by omega
      have j1 : decide ((k : Int) < (k : Int)) = false := decide_eq_false (by omega)
      have hr := HR.out
      rw [show L.drop k = [] by rw [HN.out]; exact List.drop_length] at hr
      have hr : res = false := hr
      clear hlt
      go_wp2_with fail
      go_ret
      exact ⟨by rw [hr]; rfl, HB.out⟩
end Go.Proofs.Ytcedljfdnbenoaa
