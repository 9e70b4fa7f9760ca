/-
  Package check: some; how much outputs are together.
-/
import Derived.Test.YtmjiadfdmchhaaaDoorTxC
namespace Go.Proofs.YtmjiadfdmchhaaaDoor
open Go.RowKit
set_option linter.unusedVariables false
set_option linter.unusedSimpArgs false
set_option maxRecDepth 100000

theorem csome_any (n most : Int) (w : World) :
    Calls Tryd.prog 25 #[.int .i64 n, .int .i64 most] w fun r w' => r = .returned (.bool (decide (0 < n ∧ n ≤ most))) ∧ w' = w := by
  by_cases h1 : 0 < n
  · have d1 : decide (0 < n) = true := decide_eq_true h1
    by_cases h2 : n ≤ most
    · have d2 : decide (n ≤ most) = true := decide_eq_true h2
      have d3 : decide (0 < n ∧ n ≤ most) = true := decide_eq_true ⟨h1, h2⟩
      rw [d3]
      clear d3
      go_enter Tryd.func25, Tryd.ntmps25
      go_wp2_with fail
      go_ret
      exact ⟨rfl, rfl⟩
    · have d2 : decide (n ≤ most) = false := decide_eq_false h2
      have d3 : decide (0 < n ∧ n ≤ most) = false := decide_eq_false (fun h => h2 h.2)
      rw [d3]
      clear d3
      go_enter Tryd.func25, Tryd.ntmps25
      go_wp2_with fail
      go_ret
      exact ⟨rfl, rfl⟩
  · have d1 : decide (0 < n) = false := decide_eq_false h1
    have d3 : decide (0 < n ∧ n ≤ most) = false := decide_eq_false (fun h => h1 h.1)
    rw [d3]
    clear d3
    go_enter Tryd.func25, Tryd.ntmps25
    go_wp2_with fail
    go_ret
    exact ⟨rfl, rfl⟩
/-- How much outputs are together, onto a sum. -/
def osum : Int → List OutM → Int × Bool
  | s, [] => (s, true)
  | s, x :: r => if x.am < 0 ∨ 1125899906842624 - s < x.am then (0, false) else osum (s + x.am) r
theorem osum_range (l : List OutM) : ∀ s, 0 ≤ s ∧ s ≤ 1125899906842624 → 0 ≤ (osum s l).1 ∧ (osum s l).1 ≤ 1125899906842624 := by
  induction l with
  | nil => intro s h; exact h
  | cons x r ih =>
    intro s h
    unfold osum
    split
    · exact ⟨by decide, by decide⟩
    · exact ih _ ⟨by omega, by omega⟩
/-- Good just where none is below nought and all together are not too much. -/
theorem osum_good (l : List OutM) : ∀ s, 0 ≤ s ∧ s ≤ 1125899906842624 → ((osum s l).2 = true ↔ (∀ x ∈ l, 0 ≤ x.am) ∧ s + (l.map (·.am)).sum ≤ 1125899906842624) := by
  induction l with
  | nil => intro s h; simp [osum]; exact h.2
  | cons x r ih =>
    intro s h
    have hs : ∀ (l : List OutM), (∀ x ∈ l, 0 ≤ x.am) → 0 ≤ (l.map (·.am)).sum := by
      intro l
      induction l with
      | nil => intro _; exact Int.le_refl 0
      | cons y q ihq =>
        intro hq
        have h1 := hq y List.mem_cons_self
        have h2 := ihq (fun z hz => hq z (List.mem_cons_of_mem _ hz))
        simp only [List.map_cons, List.sum_cons]
        omega
    unfold osum
    split
    · rename_i hc
      constructor
      · intro h; cases h
      · rintro ⟨h1, h2⟩
        have h3 := h1 x List.mem_cons_self
        have h4 := hs r (fun z hz => h1 z (List.mem_cons_of_mem _ hz))
        simp only [List.map_cons, List.sum_cons] at h2
        omega
    · rename_i hc
      rw [ih _ ⟨by omega, by omega⟩]
      simp only [List.map_cons, List.sum_cons, List.mem_cons, forall_eq_or_imp]
      constructor
      · rintro ⟨h1, h2⟩; exact ⟨⟨by omega, h1⟩, by omega⟩
      · rintro ⟨⟨h0, h1⟩, h2⟩; exact ⟨h1, by omega⟩
set_option maxHeartbeats 4000000 in
theorem csum_any (L : List OutM) (v : Value) (w : World) (h : RowV outR w w.heap.size v L) (hok : ∀ x ∈ L, OutOk x) :
    Calls Tryd.prog 15 #[v] w fun r w' => r = .returned (.tuple #[.int .i64 (osum 0 L).1, .bool (osum 0 L).2]) ∧ Below w.heap.size w w' := by
  have h63 : L.length < 9223372036854775808 := by obtain ⟨_, _, _, h1, h2, _⟩ := h; omega
  obtain ⟨s0, c, rfl⟩ : ∃ s c, v = .slice s L.length c := by obtain ⟨s, c, e, _⟩ := h; exact ⟨s, c, e⟩
  have hrow := row_at h
  obtain ⟨n, hn⟩ : ∃ n, n = L.length := ⟨_, rfl⟩
  have HN := Lib.hid hn
  rw [← hn] at hrow h63 ⊢
  have HL := Lib.hid hrow
  have HOK := Lib.hid hok
  obtain ⟨res, hres⟩ : ∃ r, r = osum 0 L := ⟨_, rfl⟩
  rw [← hres]
  have H0 : Hid (res = osum 0 (L.drop 0)) := by show _ = _; rw [hres]; rfl
  clear hrow hok h hn hres
  go_enter Tryd.func15, Tryd.ntmps15
  go_wp2_with fail
  go_loopw [4, 9] (fun s i wr => ∃ (k : Nat) (sm : Int), k ≤ n ∧ i = .int .i64 k ∧ s = .int .i64 sm ∧ Hid (0 ≤ sm ∧ sm ≤ 1125899906842624) ∧ Hid (res = osum sm (L.drop k)) ∧ Hid (Below w.heap.size w wr)) (fun _ i _ => n - (intOf i).toNat)
  case atStart => exact ⟨0, 0, Nat.zero_le _, rfl, rfl, ⟨by decide, by decide⟩, H0.out, Below.refl _ _⟩
  case round =>
    obtain ⟨k, sm, hk, rfl, rfl, HS, HR, HB⟩ := hrel
    clear H0
    by_cases hlt : k < n
    · obtain ⟨x, b, o, hkx, rfl, hbw, hrg⟩ := HL.out k hlt
      have j1 : decide ((k : Int) < (n : Int)) = true := decide_eq_true (by omega)
      have hrg := rr_below hrg HB.out hbw
      have hDR : L.drop k = x :: L.drop (k + 1) := by
        obtain ⟨hk', hx⟩ := List.getElem?_eq_some_iff.1 hkx
        rw [List.drop_eq_getElem_cons hk', hx]
      have hRR := HR.out
      rw [hDR] at hRR
      unfold osum at hRR
      have hxo := HOK.out x (List.mem_of_getElem? hkx)
      obtain ⟨hstc, K6, B6⟩ := out_made x wr
      have hps := row_size outR_ok x
      have hbr : b < wr.heap.size := Nat.lt_of_lt_of_le hbw HB.out.size
      obtain ⟨am, ham⟩ : ∃ a, a = x.am := ⟨_, rfl⟩
      have HA0 : Hid ((ouL x).toArray[0]? = some (.int .i64 am)) := by rw [ham]; rfl
      have HXO : Hid (-9223372036854775808 ≤ am ∧ am ≤ 9223372036854775807) := by rw [ham]; exact hxo
      rw [← ham] at hRR
      have HRR := Lib.hid hRR
      have HB6 := Lib.hid (below_step HB.out HB.out.size B6)
      obtain ⟨PL, hPL⟩ : ∃ PL, PL = ouL x := ⟨_, rfl⟩
      have hs33 := ouL_len x
      rw [← hPL] at HA0 hstc K6 B6 hs33 HB6
      have hrg : wr.rangeAt b (o + k * 33) PL := by rw [hPL]; exact hrg
      have hps : (Tryd.prog.info? 76).map (·.size) = some PL.length := by rw [hPL]; exact hps
      clear hPL hDR hRR hxo HB HR ham hkx B6
      go_upto_region 5 with (refine wpList_load_mid rfl 76 (.tmp 11) rfl b (o + k * 33) rfl PL _ hrg Tryd.underlying76 rfl hps ?_)
      refine wp_any (fun W => Below w.heap.size w W ∧ Bk W wr.heap.size 76 PL.toArray) ⟨HB6.out, K6⟩ ?_
      clear HB6 K6 hstc hps hs33 hrg
      generalize wr.heap.size = g6 at *
      rintro W6 ⟨hB6, K6⟩
      have HB6 := Lib.hid hB6
      have c0 := (K6.cell 0).trans HA0.out
      have z6 := K6.lt
      obtain ⟨df, hdf⟩ : ∃ d, d = 1125899906842624 - sm := ⟨_, rfl⟩
      have hw1 : wrap64 (1125899906842624 - sm) = df := by
        have := HS.out
        rw [hdf]
        simp [wrap64, IntKind.wrap, IntKind.signed, IntKind.bits]
        omega
      have HDF := Lib.hid hdf
      clear hB6 K6 hdf
      by_cases h1 : am < 0
      · have d1 : decide (am < 0) = true := decide_eq_true h1
        have hr : res = (0, false) := by rw [HRR.out, if_pos (.inl h1)]
        clear h1 hw1
        go_wp2_with fail
        go_ret2
        exact ⟨by rw [hr]; rfl, HB6.out⟩
      · have d1 : decide (am < 0) = false := decide_eq_false h1
        by_cases h2 : df < am
        · have d2 : decide (df < am) = true := decide_eq_true h2
          have hr : res = (0, false) := by rw [HRR.out, if_pos (.inr (by rw [← HDF.out]; exact h2))]
          clear h1 h2
          go_wp2_with fail
          go_ret2
          exact ⟨by rw [hr]; rfl, HB6.out⟩
        · have d2 : decide (df < am) = false := decide_eq_false h2
          have hr : Hid (res = osum (sm + am) (L.drop (k + 1))) := by
            show _ = _
            rw [HRR.out, if_neg (fun h => by
              rcases h with h | h
              · exact h1 h
              · exact h2 (by rw [HDF.out]; exact h))]
          have HSN : Hid (0 ≤ sm + am ∧ sm + am ≤ 1125899906842624) := by
            have := HS.out
            have := HDF.out
            show _ ∧ _
            omega
          obtain ⟨sn, hsn⟩ : ∃ d, d = sm + am := ⟨_, rfl⟩
          have hw2 : wrap64 (sm + am) = sn := by
            have := HSN.out
            rw [hsn]
            simp [wrap64, IntKind.wrap, IntKind.signed, IntKind.bits]
            omega
          rw [← hsn] at hr HSN
          clear h1 h2 hsn
          go_wp2_with fail
          go_roundw
          case rel => exact ⟨k + 1, sn, by omega, by go_num, by rw [hw2], HSN, hr, HB6⟩
          case measure => simp [intOf]; omega
    · obtain rfl : k = n := by omega
      have j1 : decide ((k : Int) < (k : Int)) = false := decide_eq_false (by omega)
      have hr := HR.out
      rw [show L.drop k = [] by rw [HN.out]; exact List.drop_length] at hr
      have hr : res = (sm, true) := hr
      clear hlt
      go_wp2_with fail
      go_ret2
      exact ⟨by rw [hr]; rfl, HB.out⟩
end Go.Proofs.YtmjiadfdmchhaaaDoor
