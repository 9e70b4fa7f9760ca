/-
  Package check: inputs.
-/
import Derived.Test.YtmjiadfdmchhaaaDoorCkC
namespace Go.Proofs.YtmjiadfdmchhaaaDoor
open Go.RowKit
open Go.Maps (Keyed IsMap)
set_option linter.unusedVariables false
set_option linter.unusedSimpArgs false
set_option maxRecDepth 100000

def inP (x : InM) : I32 × Nat := (x.tx, x.ix)
/-- Why inputs are refused; 0: they are not. -/
def inE (front : Bool) : List (I32 × Nat) → List InM → Nat
  | _, [] => 0
  | seen, x :: r => if 100 < x.key.length then 2 else if (decide (inP x = mkP) != front) = true then 120 else if inP x ∈ seen then 5 else inE front (seen ++ [inP x]) r
theorem unit_zero (w : World) : (zeroValue 104).run Tryd.prog w = .ok (.agg #[]) w := by kernel_rfl
theorem inL_po (x : InM) : (inL x).take 33 = poL (inP x) := by
  unfold inL poL inP
  rw [List.take_append, List.take_of_length_le (by rw [List.length_map, x.tx.2.1]; omega), List.length_map, x.tx.2.1]
  rfl
theorem in_poload (x : InM) (w : World) (g : Nat) (h : Bk w g 68 (inL x).toArray) : (loadCellsFrom ⟨g, 0, none⟩ 0 33 #[]).run Tryd.prog w = .ok (poL (inP x)).toArray w := by
  have e := run_loadCells_list (P := Tryd.prog) w ⟨g, 0, none⟩ (poL (inP x)) (fun j v hv => by
    rw [Addr.add_mid]
    refine h.range0 j v ?_
    rw [← inL_po] at hv
    rw [List.getElem?_take] at hv
    split at hv
    · simpa using hv
    · cases hv)
  rw [poL_len] at e
  exact e
theorem po_agg (w : World) : (isAgg 54).run Tryd.prog w = .ok true w := by kernel_rfl
theorem po_size (w : World) : (sizeOf 54).run Tryd.prog w = .ok 33 w := by kernel_rfl
theorem owns_below {H : Type} {P : Program} {k : TypeId} {R : Value → Option (DataW H × List MemPlace)} {b n : Nat} {D : DataW H} {w w' : World} (h : w.ownsMap P k R b n D) (hb : Below w.heap.size w w') : w'.ownsMap P k R b n D := by
  have hl := h.lt
  obtain ⟨es, clock, h1, h2, h3, h4⟩ := h
  exact ⟨es, clock, (hb.block b hl).trans h1, h2, h3, h4⟩
set_option maxHeartbeats 8000000 in
theorem inputs_any (L : List InM) (front : Bool) (v : Value) (w : World) (h : RowV inR w w.heap.size v L) (hix : ∀ x ∈ L, InV w w.heap.size x) :
    Calls Tryd.prog 32 #[v, .bool front] w fun r w' => r = .returned (.int .i64 (inE front [] L : Nat)) ∧ Below w.heap.size w w' := by
  have h63 : L.length < 9223372036854775808 := by obtain ⟨_, _, _, h1, h2, _⟩ := h; omega
  obtain ⟨s0, c, rfl⟩ : ∃ s c, v = .slice s L.length c := by obtain ⟨s, c, e, _⟩ := h; exact ⟨s, c, e⟩
  have hrow := row_at h
  obtain ⟨n, hn⟩ : ∃ n, n = L.length := ⟨_, rfl⟩
  have HN := Lib.hid hn
  rw [← hn] at hrow h63 ⊢
  have HL := Lib.hid hrow
  have HIX := Lib.hid hix
  obtain ⟨res, hres⟩ : ∃ r, r = inE front [] L := ⟨_, rfl⟩
  rw [← hres]
  have H0 : Hid (res = inE front ((L.take 0).map inP) (L.drop 0)) := by show _ = _; rw [hres]; rfl
  have hmm := @run_makeMap Tryd.prog
  clear hrow hix h hn hres
  go_enter Tryd.func32, Tryd.ntmps32
  go_upto_region 2 with fail
  refine wp_any (fun W => W.ownsMap Tryd.prog 54 unitElem w.heap.size 0 (.map [] : DataW Unit) ∧ Below w.heap.size w W) ⟨World.ownsMap_made _ _ _ _, (Below.refl _ _).alloc (Nat.le_refl _) _⟩ ?_
  obtain ⟨g, hg⟩ : ∃ g, g = w.heap.size := ⟨_, rfl⟩
  have HG := Lib.hid hg
  rintro W0 ⟨hown, hB⟩
  rw [← hg] at hown ⊢
  have HO := Lib.hid hown
  have HB0 := Lib.hid hB
  clear hown hB hg hmm
  go_wp2_with fail
  go_loopw [13] (fun i wr => ∃ (k : Nat) (D : DataW Unit), k ≤ n ∧ i = .int .i64 k ∧ Hid (wr.ownsMap Tryd.prog 54 unitElem g k D) ∧ Hid (∀ (p : I32 × Nat) kl, keyOf Tryd.prog 54 (pov p) = some kl → (Maps.has D kl = true ↔ p ∈ (L.take k).map inP)) ∧ Hid (res = inE front ((L.take k).map inP) (L.drop k)) ∧ Hid (Below w.heap.size w wr)) (fun i _ => n - (intOf i).toNat)
  case atStart => exact ⟨0, _, Nat.zero_le _, rfl, HO, (fun p kl _ => by simp [Maps.has]), H0, HB0⟩
  case round =>
    obtain ⟨k, D, hk, rfl, HO, HM, HR, HB⟩ := hrel
    clear H0 HB0
    by_cases hlt : k < n
    · obtain ⟨x, b, o, hkx, rfl, hbw, hrg⟩ := HL.out k hlt
      have j1 : decide ((k : Int) < (n : Int)) = true := decide_eq_true (by omega)
      have hrg := rr_below hrg HB.out hbw
      have hDR : L.drop k = x :: L.drop (k + 1) := by
        obtain ⟨hk', hx⟩ := List.getElem?_eq_some_iff.1 hkx
        rw [List.drop_eq_getElem_cons hk', hx]
      have hTK : (L.take (k + 1)).map inP = (L.take k).map inP ++ [inP x] := by
        rw [List.take_add_one, hkx]
        simp
      have hRR := HR.out
      rw [hDR] at hRR
      unfold inE at hRR
      have hxv := HIX.out x (List.mem_of_getElem? hkx)
      obtain ⟨kl, hkl⟩ := pt_key (inP x) hxv.1
      have HHM := Lib.hid ((HM.out (inP x) kl hkl))
      have HPE : Hid (∀ w, (Op.equalIn 10000 54 (pov (inP x)) (pov mkP)).run Tryd.prog w = .ok (decide (inP x = mkP)) w) := fun w => pt_eql _ _ hxv.1 (by decide) w
      have HMN : Hid (∀ D' : DataW Unit, D' = D.put kl (.agg []) → IsMap D → ∀ (p : I32 × Nat) kl', keyOf Tryd.prog 54 (pov p) = some kl' → (Maps.has D' kl' = true ↔ p ∈ (L.take (k + 1)).map inP)) := by
        rintro D' rfl hD p kl' hkl'
        rw [hTK, List.mem_append, List.mem_singleton]
        by_cases he : kl' = kl
        · subst he
          have hpx : p = inP x := pov_inj _ _ (ptLaw.inj hkl' hkl)
          rw [Maps.has_put_same hD (ptLaw.key hkl)]
          simp [hpx]
        · rw [Maps.has_put_other he, HM.out p kl' hkl']
          constructor
          · intro h; exact .inl h
          · rintro (h | h)
            · exact h
            · subst h
              rw [hkl] at hkl'
              exact absurd (Option.some.inj hkl').symm he
      obtain ⟨hstc, K6, B6⟩ := in_made x wr
      have hps := row_size inR_ok x
      have hbr : b < wr.heap.size := Nat.lt_of_lt_of_le hbw HB.out.size
      have HRR := Lib.hid hRR
      have HTK := Lib.hid hTK
      have HB6 := Lib.hid (below_step HB.out HB.out.size B6)
      have HO6 : Hid (World.ownsMap _ _ _ _ _ _ _) := owns_below HO.out B6
      obtain ⟨ks, kc, hkv⟩ : ∃ s c, x.kv = .slice s x.key.length c := ⟨_, _, rfl⟩
      have H33 : Hid ((inL x).toArray[33]? = some (.slice ks x.key.length kc)) := by rw [← hkv]; show _ = _; rw [List.getElem?_toArray]; exact in_33 x
      have HLO : Hid (∀ W, Bk W wr.heap.size 68 (inL x).toArray → (loadCellsFrom ⟨wr.heap.size, 0, none⟩ 0 33 #[]).run Tryd.prog W = .ok (poL (inP x)).toArray W) := fun W h => in_poload x W _ h
      obtain ⟨PV, hPV⟩ : ∃ P, P = (poL (inP x)).toArray := ⟨_, rfl⟩
      have hpv : pov (inP x) = .agg PV := by rw [hPV]; rfl
      rw [← hPV] at HLO
      rw [hpv] at HPE hkl
      obtain ⟨MV, hMV⟩ : ∃ P, P = (poL mkP).toArray := ⟨_, rfl⟩
      have hmv : pov mkP = .agg MV := by rw [hMV]; rfl
      rw [hmv] at HPE
      have HMK : Hid (∀ W, Calls Tryd.prog 17 #[] W fun r w' => r = .returned (.agg MV) ∧ Below W.heap.size W w') := fun W => by rw [← hmv]; exact maker_any W
      obtain ⟨kn, hkn⟩ : ∃ l, l = x.key.length := ⟨_, rfl⟩
      obtain ⟨bq, hbq⟩ : ∃ q, q = decide (inP x = mkP) := ⟨_, rfl⟩
      rw [← hkn] at H33
      rw [← hbq] at HPE
      have HRR : Hid (res = if 100 < kn then 2 else if (bq != front) = true then 120 else if inP x ∈ (L.take k).map inP then 5 else inE front ((L.take k).map inP ++ [inP x]) (L.drop (k + 1))) := by rw [hkn, hbq]; exact HRR.out
      rw [← HTK.out] at HRR
      obtain ⟨bs, hbs⟩ : ∃ q, q = Maps.has D kl := ⟨_, rfl⟩
      have HSN : Hid (bs = true ↔ inP x ∈ (L.take k).map inP) := by rw [hbs]; exact HHM.out
      have HKL := Lib.hid hkl
      obtain ⟨PL, hPL⟩ : ∃ PL, PL = inL x := ⟨_, rfl⟩
      have hs34 := inL_len x
      rw [← hPL] at H33 HLO hstc K6 B6 hs34 HB6 HO6
      have hrg : wr.rangeAt b (o + k * 34) PL := by rw [hPL]; exact hrg
      have hps : (Tryd.prog.info? 68).map (·.size) = some PL.length := by rw [hPL]; exact hps
      have HBS := Lib.hid hbs
      clear hPL hDR hRR hxv HB HR HO hkx B6 hTK HTK HHM HM hkv hPV hpv hMV hmv hkn hbq hkl hbr
      go_upto_region 5 with (refine wpList_load_mid rfl 68 (.tmp 15) rfl b (o + k * 34) rfl PL _ hrg Tryd.underlying68 rfl hps ?_)
      refine wp_any (fun W => Below w.heap.size w W ∧ W.ownsMap Tryd.prog 54 unitElem g k D ∧ Bk W wr.heap.size 68 PL.toArray) ⟨HB6.out, HO6.out, K6⟩ ?_
      clear HB6 HO6 K6 hstc hps hs34 hrg
      generalize wr.heap.size = g6 at *
      rintro W6 ⟨hB6, hO6, K6⟩
      have HB6 := Lib.hid hB6
      have HO6 := Lib.hid hO6
      have HK6 := Lib.hid K6
      have c33 := (K6.cell 33).trans H33.out
      have z6 := K6.lt
      clear hB6 hO6 K6
      by_cases h1 : 100 < kn
      · have d1 : decide ((100 : Int) < (kn : Int)) = true := decide_eq_true (by omega)
        have hr : res = 2 := by rw [HRR.out, if_pos h1]
        clear h1 hbs
        go_wp2_with fail
        go_ret
        exact ⟨by rw [hr]; rfl, HB6.out⟩
      have d1 : decide ((100 : Int) < (kn : Int)) = false := decide_eq_false (by omega)
      replace HRR := Lib.hid (HRR.out.trans (if_neg h1))
      clear h1
      obtain ⟨tl, htl⟩ : ∃ tl : TypeId, tl = 54 := ⟨_, rfl⟩
      obtain ⟨sz, hsz0⟩ : ∃ sz : Nat, sz = 33 := ⟨_, rfl⟩
      have hag : ∀ w, (isAgg tl).run Tryd.prog w = .ok true w := by rw [htl]; exact po_agg
      have hsz : ∀ w, (sizeOf tl).run Tryd.prog w = .ok sz w := by rw [htl, hsz0]; exact po_size
      have hla : ∀ W', Below W6.heap.size W6 W' → (loadCellsFrom ⟨g6, 0, none⟩ 0 sz #[]).run Tryd.prog W' = .ok PV W' := by rw [hsz0]; exact fun W' h => HLO.out W' (HK6.out.keep h)
      have HLS : Hid (∀ W', Bk W' g6 68 PL.toArray → (loadCellsFrom ⟨g6, 0, none⟩ 0 sz #[]).run Tryd.prog W' = .ok PV W') := by show ∀ _, _; rw [hsz0]; exact HLO.out
      have HTL := Lib.hid (show ∀ z, Op.load 54 z = Op.load tl z from fun z => by rw [htl])
      have heq := HPE.out
      clear htl hsz0 hbs
      go_upto_region 7 with fail
      have htl2 := HTL.out
      simp only [htl2]
      clear htl2 c33
      go_region_held (fun w' => Below W6.heap.size W6 w')
        (first | with_reducible assumption | exact (Below.refl _ _).drew | exact Below.refl _ _)
        (first
          | (go_at_call 17
             with_reducible refine (HMK.out _).mono ?_
             rintro e w7 ⟨rfl, hb7⟩
             have hE7 : Below W6.heap.size W6 w7 := ((Below.refl _ _).drew).trans hb7))
      all_goals
        have HB7 := Lib.hid (HB6.out.trans (hE7.mono HB6.out.size))
        have HO7 : Hid (World.ownsMap w7 Tryd.prog 54 unitElem g k D) := owns_below HO6.out hE7
        have HK7 := Lib.hid (HK6.out.keep hE7)
        have z7 := HK7.out.lt
        clear hE7 hla heq hb7
        by_cases h2 : (bq != front) = true
        · have hr : res = 120 := by rw [HRR.out, if_pos h2]
          cases bq <;> cases front <;> first | exact absurd h2 (by decide) | (go_wp2_with fail; go_ret; exact ⟨by rw [hr]; rfl, HB7.out⟩)
        have hq : bq = front := by
          clear HRR HPE HMK
          cases bq <;> cases front <;> first | rfl | exact absurd (by decide) h2
        replace HRR := Lib.hid (HRR.out.trans (if_neg h2))
        have hl7 : (loadCellsFrom ⟨g6, 0, none⟩ 0 sz #[]).run Tryd.prog w7 = .ok PV w7 := HLS.out _ HK7.out
        have HB8 := Lib.hid (HB7.out.alloc HB7.out.size (.cells #[] 104))
        have HO8 := Lib.hid (HO7.out.alloc (.cells #[] 104))
        have hl8 : (loadCellsFrom ⟨g6, 0, none⟩ 0 sz #[]).run Tryd.prog (w7.alloc (.cells #[] 104)) = .ok PV (w7.alloc (.cells #[] 104)) := HLS.out _ (HK7.out.alloc _)
        have hIM := Lib.hid HO7.out.isMap
        clear h2
        have HR9 : Hid (bs = false → res = inE front ((L.take (k + 1)).map inP) (L.drop (k + 1))) := fun hf => HRR.out.trans (if_neg (fun h => by
          have := HSN.out.2 h
          rw [hf] at this
          cases this))
        cases bq <;> cases front <;> first | (cases hq; done) | skip
        all_goals
          go_upto_region 9 with fail
          have htl2 := HTL.out
          simp only [htl2]
          clear htl2
          cases hbb : bs with
          | true =>
            have hr : res = 5 := by rw [HRR.out, if_pos (HSN.out.1 hbb)]
            have HBS2 : Hid (Maps.has D kl = true) := by show _ = _; rw [← HBS.out]; exact hbb
            go_wp2_with (first | (at_lookup; refine wpList_lookup_own_unit _ rfl _ _ 103 rfl 54 104 ptLaw Tryd.underlying103 (unit_zero _) g k D rfl HO7.out _ _ rfl HKL.out ?_; rw [HBS2.out]) | go_in)
            go_ret
            exact ⟨by first | rfl | (rw [hr]; rfl), HB8.out⟩
          | false =>
            have HBS2 : Hid (Maps.has D kl = false) := by show _ = _; rw [← HBS.out]; exact hbb
            go_upto_region 12 with (first | (at_lookup; refine wpList_lookup_own_unit _ rfl _ _ 103 rfl 54 104 ptLaw Tryd.underlying103 (unit_zero _) g k D rfl HO7.out _ _ rfl HKL.out ?_; rw [HBS2.out]) | go_in)
            have htl2 := HTL.out
            simp only [htl2]
            clear htl2
            go_wp2_with (first | (at_mapUpdate; refine wpList_mapUpdate_own _ rfl _ _ _ 103 rfl 54 104 ptLaw Tryd.underlying103 (unitElem (H := Unit)) g k D rfl HO8.out (by unfold maxLen; omega) _ _ kl rfl rfl HKL.out _ [] unitElem_mk ?_; intro w9 hown9 hgrow9) | go_in)
            have HB9 : Hid (Below w.heap.size w w9) := HB8.out.grown hgrow9 HB8.out.size (fun j hj => by cases hj; exact Nat.le_of_eq HG.out.symm)
            go_roundw
            case rel => exact ⟨k + 1, _, by omega, by go_num, hown9, HMN.out _ rfl hIM.out, HR9.out hbb, HB9⟩
            case measure => simp [intOf]; omega
    · obtain rfl : k = n := by omega
      have j1 : decide ((k : Int) < (k : Int)) = false := decide_eq_false (by omega)
      have hr := HR.out
      rw [show L.drop k = [] by rw [HN.out]; exact List.drop_length] at hr
      have hr : res = 0 := hr
      clear hlt
      go_wp2_with fail
      go_ret
      exact ⟨by rw [hr]; rfl, HB.out⟩
end Go.Proofs.YtmjiadfdmchhaaaDoor
