/-
  The document's check: Sum and Maker.
-/
import Derived.Test.YtmjiadfdmchhaaaDoorChD
namespace Go.Proofs.YtmjiadfdmchhaaaDoor
open Go.RowKit
set_option linter.unusedVariables false
set_option linter.unusedSimpArgs false
set_option maxRecDepth 100000

set_option maxHeartbeats 4000000 in
theorem rsumT_any (L : List OutM) (v : Value) (w : World) (h : RowV outR w w.heap.size v L) (hok : ∀ x ∈ L, OutOk x) :
    Calls Tryd.prog 50 #[v] w fun r w' => r = .returned (.tuple #[.int .i64 (osum 0 L).1, .bool (osum 0 L).2]) ∧ w' = w := by
  have h63 : L.length < 9223372036854775808 := by obtain ⟨_, _, _, h1, h2, _⟩ := h; omega
  obtain ⟨s0, c, rfl⟩ : ∃ s c, v = .slice s L.length c := by obtain ⟨s, c, e, _⟩ := h; exact ⟨s, c, e⟩
  have hrow := row_at h
  obtain ⟨n, hn⟩ : ∃ n, n = L.length := ⟨_, rfl⟩
  rw [← hn] at hrow h63 ⊢
  have HL := Lib.hid hrow
  have HOK := Lib.hid hok
  have HN := Lib.hid hn
  obtain ⟨res, hres⟩ : ∃ r, r = osum 0 L := ⟨_, rfl⟩
  rw [← hres]
  have H0 : Hid (res = osum 0 (L.drop 0)) := by show _ = _; rw [hres]; rfl
  clear hrow hok h hn hres
  go_enter Tryd.func50, Tryd.ntmps50
  go_wp2_with fail
  go_loopw [4, 5] (fun s i wr => ∃ (k : Nat) (sm : Int), k ≤ n ∧ i = .int .i64 k ∧ s = .int .i64 sm ∧ Hid (0 ≤ sm ∧ sm ≤ 1125899906842624) ∧ Hid (res = osum sm (L.drop k)) ∧ wr = w) (fun _ i _ => n - (intOf i).toNat)
  case atStart => exact ⟨0, 0, Nat.zero_le _, rfl, rfl, ⟨by decide, by decide⟩, H0.out, rfl⟩
  case round =>
    obtain ⟨k, sm, hk, rfl, rfl, HS, HR, rfl⟩ := hrel
    clear H0
    by_cases hlt : k < n
    · obtain ⟨x, b, o, hkx, rfl, hbw, hrg⟩ := HL.out k hlt
      have j1 : decide ((k : Int) < (n : Int)) = true := decide_eq_true (by omega)
      have hDR : L.drop k = x :: L.drop (k + 1) := by
        obtain ⟨hk', hx⟩ := List.getElem?_eq_some_iff.1 hkx
        rw [List.drop_eq_getElem_cons hk', hx]
      have hRR := HR.out
      rw [hDR] at hRR
      unfold osum at hRR
      have hxo := HOK.out x (List.mem_of_getElem? hkx)
      obtain ⟨am, ham⟩ : ∃ a, a = x.am := ⟨_, rfl⟩
      have c0 : wr.cell? ⟨b, o + k * 33, none⟩ = some (.int .i64 am) := by
        have := hrg 0 (.int .i64 am) (by rw [ham]; rfl)
        exact this
      have HXO : Hid (-9223372036854775808 ≤ am ∧ am ≤ 9223372036854775807) := by rw [ham]; exact hxo
      rw [← ham] at hRR
      have HRR := Lib.hid hRR
      have HBW := Lib.hid hbw
      obtain ⟨df, hdf⟩ : ∃ d, d = 1125899906842624 - sm := ⟨_, rfl⟩
      have hw1 : wrap64 (1125899906842624 - sm) = df := by
        have := HS.out
        rw [hdf]
        simp [wrap64, IntKind.wrap, IntKind.signed, IntKind.bits]
        omega
      have HDF := Lib.hid hdf
      clear hdf ham hDR hRR hxo hkx HR hrg
      by_cases h1 : am < 0
      · have d1 : decide (am < 0) = true := decide_eq_true h1
        have hr : res = (0, false) := by rw [HRR.out, if_pos (.inl h1)]
        clear h1 hw1
        go_wp2_with fail
        go_ret2
        exact ⟨by rw [hr]; rfl, rfl⟩
      · have d1 : decide (am < 0) = false := decide_eq_false h1
        by_cases h2 : df < am
        · have d2 : decide (df < am) = true := decide_eq_true h2
          have hr : res = (0, false) := by rw [HRR.out, if_pos (.inr (by rw [← HDF.out]; exact h2))]
          clear h1 h2
          go_wp2_with fail
          go_ret2
          exact ⟨by rw [hr]; rfl, rfl⟩
        · have d2 : decide (df < am) = false := decide_eq_false h2
          have hr : Hid (res = osum (sm + am) (L.drop (k + 1))) := by
            show _ = _
            rw [HRR.out, if_neg (fun h => by
              rcases h with h | h
              · exact h1 h
              · exact h2 (by rw [HDF.out]; exact h))]
          have HSN : Hid (0 ≤ sm + am ∧ sm + am ≤ 1125899906842624) := by
            have := HS.out
            have := HDF.out
            show _ ∧ _
            omega
          obtain ⟨sn, hsn⟩ : ∃ d, d = sm + am := ⟨_, rfl⟩
          have hw2 : wrap64 (sm + am) = sn := by
            have := HSN.out
            rw [hsn]
            simp [wrap64, IntKind.wrap, IntKind.signed, IntKind.bits]
            omega
          rw [← hsn] at hr HSN
          clear h1 h2 hsn
          go_wp2_with fail
          go_roundw
          case rel => exact ⟨k + 1, sn, by omega, by go_num, by rw [hw2], HSN, hr, trivial⟩
          case measure => simp [intOf]; omega
    · obtain rfl : k = n := by omega
      have j1 : decide ((k : Int) < (k : Int)) = false := decide_eq_false (by omega)
      have hr := HR.out
      rw [show L.drop k = [] by rw [HN.out]; exact List.drop_length] at hr
      have hr : res = (sm, true) := hr
      clear hlt
      go_wp2_with fail
      go_ret2
      exact ⟨by rw [hr]; rfl, rfl⟩
theorem in_byte (x : InM) (i : Nat) (hi : i < 32) : (inL x).toArray[i]? = some (.int .u8 ((nth x.tx.1 i : Nat) : Int)) := by
  rw [List.getElem?_toArray]
  unfold inL
  rw [List.getElem?_append_left (by rw [List.length_map, x.tx.2.1]; exact hi), List.getElem?_map, List.getElem?_eq_getElem (by rw [x.tx.2.1]; exact hi)]
  unfold nth
  rw [List.getD, List.getElem?_eq_getElem (by rw [x.tx.2.1]; exact hi)]
  rfl
theorem in_32' (x : InM) : (inL x).toArray[32]? = some (.int .u32 (x.ix : Int)) := by
  rw [List.getElem?_toArray]
  unfold inL
  rw [List.getElem?_append_right (by rw [List.length_map, x.tx.2.1]; decide), List.length_map, x.tx.2.1]
  rfl
theorem mk_iff (x : InM) : inP x = mkP ↔ (∀ j, j < 32 → nth x.tx.1 j = 0) ∧ x.ix = 4294967295 := by
  constructor
  · intro h
    have h1 : x.tx = i0 := congrArg Prod.fst h
    have h2 : x.ix = 4294967295 := congrArg Prod.snd h
    refine ⟨fun j hj => ?_, h2⟩
    rw [h1]
    show nth (zeros 32) j = 0
    unfold nth zeros
    rw [List.getD, List.getElem?_replicate, if_pos hj]
    rfl
  · rintro ⟨h1, h2⟩
    have h3 : x.tx = i0 := Subtype.ext (by
      apply List.ext_getElem (by rw [x.tx.2.1]; rfl)
      intro j ha hb
      have h4 := h1 j (by rw [← x.tx.2.1]; exact ha)
      unfold nth at h4
      rw [List.getD, List.getElem?_eq_getElem ha] at h4
      have h5 : (zeros 32)[j]'hb = 0 := by unfold zeros; exact List.getElem_replicate _
      show x.tx.1[j] = (zeros 32)[j]'hb
      rw [h5]
      exact h4)
    unfold inP mkP
    rw [h3, h2]
set_option maxHeartbeats 4000000 in
theorem rmaker_any (x : InM) (w : World) (hix : x.ix < 4294967296) :
    Calls Tryd.prog 49 #[.agg (inL x).toArray] w fun r w' => r = .returned (.bool (decide (inP x = mkP))) ∧ Below w.heap.size w w' := by
  have HMK := Lib.hid (mk_iff x)
  have HBY := Lib.hid (show ∀ j, j < 32 → _ from in_byte x)
  have H32 := Lib.hid (in_32' x)
  have hsz : (inL x).toArray.size = 34 := by rw [List.size_toArray]; exact inL_len x
  obtain ⟨res, hres⟩ : ∃ r, r = decide (inP x = mkP) := ⟨_, rfl⟩
  have HRES := Lib.hid hres
  rw [← hres]
  clear hres
  generalize (inL x).toArray = A at *
  obtain ⟨F, hF⟩ : ∃ F : Nat → Nat, F = nth x.tx.1 := ⟨_, rfl⟩
  have HF := Lib.hid hF
  rw [← hF] at HBY HMK
  obtain ⟨ix, hx⟩ : ∃ i, i = x.ix := ⟨_, rfl⟩
  rw [← hx] at HMK H32 hix
  clear hF hx
  go_enter Tryd.func49, Tryd.ntmps49
  go_upto_region 1 with fail
  refine wp_any (fun W => Below w.heap.size w W ∧ Bk W w.heap.size 68 A) ⟨(Below.refl _ _).alloc (Nat.le_refl _) _, Bk.new _ _ _⟩ ?_
  obtain ⟨p, hp⟩ : ∃ p, p = w.heap.size := ⟨_, rfl⟩
  rw [← hp]
  have HP := Lib.hid hp
  clear hp
  rintro W ⟨hB, K⟩
  have HB := Lib.hid (show Below w.heap.size w W from by rw [← HP.out]; exact hB)
  have HK := Lib.hid K
  clear hB K
  go_wp2_with fail
  go_loopw [3] (fun i wr => ∃ (k : Nat), k ≤ 32 ∧ i = .int .i64 k ∧ Hid (∀ j, j < k → F j = 0) ∧ wr = W) (fun i _ => 32 - (intOf i).toNat)
  case atStart => exact ⟨0, by omega, rfl, (fun j hj => absurd hj (by omega)), rfl⟩
  case round =>
    obtain ⟨k, hk, rfl, HZ, rfl⟩ := hrel
    by_cases hlt : k < 32
    · have j1 : decide ((k : Int) < (32 : Int)) = true := decide_eq_true (by omega)
      have c0 := (HK.out.cell k).trans (HBY.out k hlt)
      have z0 := HK.out.lt
      by_cases h0 : F k = 0
      · rw [h0] at c0
        have H0 := Lib.hid h0
        clear h0
        go_wp2_with fail
        go_roundw
        case rel =>
          refine ⟨k + 1, by omega, by go_num, (show ∀ j, j < k + 1 → F j = 0 from fun j hj => ?_), trivial⟩
          rcases Nat.lt_or_ge j k with h | h
          · exact HZ.out j h
          · obtain rfl : j = k := by omega
            exact H0.out
        case measure => simp [intOf]; omega
      · obtain ⟨f, hf⟩ : ∃ f, f = F k := ⟨_, rfl⟩
        rw [← hf] at c0
        have hf0 : f ≠ 0 := by rw [hf]; exact h0
        have q0 : ((f : Int) != 0) = true := by simp; omega
        have HR : Hid (res = false) := by
          show _ = _
          rw [HRES.out]
          exact decide_eq_false (fun h => h0 ((HMK.out.1 h).1 k hlt))
        clear h0 hf
        go_wp2_with fail
        go_ret
        exact ⟨by rw [HR.out]; rfl, HB.out⟩
    · obtain rfl : k = 32 := by omega
      have c0 := (HK.out.cell 32).trans H32.out
      have z0 := HK.out.lt
      have HR : Hid (res = (((ix : Nat) : Int) == 4294967295)) := by
        show _ = _
        rw [HRES.out]
        by_cases h : ix = 4294967295
        · rw [decide_eq_true (HMK.out.2 ⟨HZ.out, h⟩), h]
          rfl
        · rw [decide_eq_false (fun e => h (HMK.out.1 e).2)]
          symm
          rw [beq_eq_false_iff_ne]
          omega
      clear hlt
      go_wp2_with fail
      go_ret
      exact ⟨by rw [HR.out]; rfl, HB.out⟩
end Go.Proofs.YtmjiadfdmchhaaaDoor
