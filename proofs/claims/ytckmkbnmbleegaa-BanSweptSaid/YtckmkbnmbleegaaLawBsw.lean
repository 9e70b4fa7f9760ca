/-
  What is proved: BanSwept holds for every input. No condition.
-/
import Derived.Test.YtckmkbnmbleegaaBanI
namespace Go.Proofs.Ytckmkbnmbleegaa.banSwept
open Go.ChangeShapes Go.WideShapes Go.ChangeAt Go.RowKit
set_option linter.unusedVariables false

theorem own : ownKnob Try.prog.godebug = none := by kernel_rfl
theorem laidOut : laidOutB Try.prog = true := by kernel_rfl
set_option maxRecDepth 100000 in
set_option maxHeartbeats 4000000 in
theorem walk (now : Int) (L : List OpM) (v : Value) (w : World) (h : RowV opR w w.heap.size v L) :
    Calls Try.prog 7 #[v, .int .i64 now] w fun e w' => e = .returned (.bool true) ∧ Below w.heap.size w w' := by
  have h63 : L.length < 9223372036854775808 := by obtain ⟨_, _, _, h1, h2, _⟩ := h; omega
  obtain ⟨s0, c, rfl⟩ : ∃ s c, v = .slice s L.length c := h.slice
  have hrow := row_at h
  obtain ⟨n, hn⟩ : ∃ n, n = L.length := ⟨_, rfl⟩
  have HN := Lib.hid hn
  rw [← hn] at hrow h63 ⊢
  have HL := Lib.hid hrow
  clear hrow hn h
  by_cases h200 : 60 < n
  · have d0 : decide ((60 : Int) < (n : Int)) = true := decide_eq_true (by omega)
    go_enter Try.func7, Try.ntmps7
    go_wp2_with fail
    refine (bans_any w).mono ?_
    rintro e w1 ⟨rfl, hb1⟩
    go_wp2_with fail
    go_ret
    exact ⟨rfl, hb1⟩
  have d0 : decide ((60 : Int) < (n : Int)) = false := decide_eq_false (by omega)
  go_enter Try.func7, Try.ntmps7
  go_wp2_with fail
  refine (bans_any w).mono ?_
  rintro e w1 ⟨rfl, hb1⟩
  go_upto_region 6 with fail
  refine wp_any (fun W => Below w.heap.size w W ∧ Tab W w1.heap.size (.slice none 0 0) w1.heap.size []) ⟨below_step hb1 hb1.size ((Below.refl _ _).alloc (Nat.le_refl _) _), tab_new w1 _⟩ ?_
  have HT : Hid (w.heap.size ≤ w1.heap.size) := hb1.size
  clear hb1
  generalize w1.heap.size = T at *
  rintro W ⟨hB, hT⟩
  have HB := Lib.hid hB
  have H0 := Lib.hid hT
  clear hB hT
  go_wp2_with fail
  go_loopw [26] (fun i wr => ∃ (k : Nat) (v : Value) (M : List BanM), k ≤ n ∧ i = .int .i64 k ∧ Hid (Tab wr T v T M) ∧ Hid (M.length ≤ 32) ∧ Hid ((ads M).Nodup) ∧ Hid (∀ x ∈ ads M, x ∈ L.map (·.addr)) ∧ Hid (Below w.heap.size w wr)) (fun i _ => n - (intOf i).toNat)
  case atStart => exact ⟨0, _, [], Nat.zero_le _, rfl, H0.out, Nat.zero_le 32, List.nodup_nil, (fun x hx => by cases hx), HB.out⟩
  case round =>
    clear H0 HB
    obtain ⟨k, v, M, hk, rfl, HTb, HM, HD, HS, HB⟩ := hrel
    by_cases hlt : k < n
    · obtain ⟨⟨xk, xa, xt⟩, b, o, hkx, hse, hbw, hrg⟩ := HL.out k hlt
      subst hse
      have j1 : decide ((k : Int) < (n : Int)) = true := decide_eq_true (by omega)
      have hrg := rowr_below hrg HB.out hbw
      have r0 := hrg 0 _ rfl
      have r1 := hrg 1 _ rfl
      have r2 := hrg 2 _ rfl
      change wr.cell? ⟨b, o + k * 3 + 0, none⟩ = some (.int .i64 xk) at r0
      change wr.cell? ⟨b, o + k * 3 + 1, none⟩ = some (.int .i64 xa) at r1
      change wr.cell? ⟨b, o + k * 3 + 2, none⟩ = some (.int .i64 xt) at r2
      rw [Nat.add_zero] at r0
      have HX := Lib.hid hkx
      clear hrg hkx
      go_upto_region 9 with fail
      refine wp_any (fun W => Below wr.heap.size wr W ∧ Bk W wr.heap.size 30 #[.int .i64 xk, .int .i64 xa, .int .i64 xt]) ⟨(Below.refl _ _).alloc (Nat.le_refl _) _, Bk.new _ _ _⟩ ?_
      clear r0 r1 r2
      have hwz : Hid (w.heap.size ≤ wr.heap.size) := HB.out.size
      generalize hp5 : wr.heap.size = p5 at *
      rintro W1 ⟨hb1, K1⟩
      have HT1 := Lib.hid (HTb.out.keep (hp5 ▸ hb1))
      have HB1 := Lib.hid (HB.out.trans (hb1.mono hwz.out))
      have hB1r : Below wr.heap.size wr W1 := hp5 ▸ hb1
      have HW1 := Lib.hid hB1r
      have c0 := K1.cell 0
      have c1 := K1.cell 1
      have c2 := K1.cell 2
      change W1.cell? _ = some (.int .i64 xk) at c0
      change W1.cell? _ = some (.int .i64 xa) at c1
      change W1.cell? _ = some (.int .i64 xt) at c2
      have z5 := K1.lt
      have HK1 := Lib.hid K1
      clear hb1 K1 hB1r hp5
      have hbn := ban_any T v T M xa xt W1 HT1.out (Nat.le_of_lt HT1.out.G.lt) HM.out
      have HM2 := Lib.hid (banF_len M xa xt HM.out)
      have HD2 := Lib.hid (banF_nodup xa xt HD.out)
      have HS2 : Hid (∀ x ∈ ads (banF M xa xt), x ∈ L.map (·.addr)) := by
        show ∀ _, _
        intro x hx
        rcases banF_sub xa xt x hx with h | h
        · exact HS.out x h
        · rw [h]
          exact List.mem_map.2 ⟨_, List.mem_of_getElem? HX.out, rfl⟩
      generalize banF M xa xt = M2 at *
      clear HTb HM HD HS HB
      go_wp2_with fail
      refine hbn.mono ?_
      rintro e w3 ht
      obtain ⟨rfl, v3, hT3, hB3, _, _⟩ := ht.go HT1.out (B := w.heap.size) HT.out HT.out HB1.out.size
      have HT3 := Lib.hid hT3
      have HB3 := Lib.hid (HB1.out.trans hB3)
      clear hbn ht hT3 hB3 c0 c1 c2 z5
      go_wp2_with fail
      go_roundw
      case rel => exact ⟨k + 1, v3, M2, by omega, by simp, HT3.out, HM2.out, HD2.out, HS2.out, HB3.out⟩
      case measure => simp [intOf]; omega
    · have j1 : decide ((k : Int) < (n : Int)) = false := decide_eq_false (by omega)
      go_wp2_with fail
      clear hlt hk
      generalize wr = w0 at *
      go_loopw [8, 38] (fun s8 i wr => ∃ (k : Nat), k ≤ n ∧ i = .int .i64 k ∧ Hid (Tab wr T v T M) ∧ Hid (MineR intR wr T s8 (kept M now (L.take k))) ∧ Hid (Below w.heap.size w wr)) (fun _ i _ => n - (intOf i).toNat)
      case atStart => exact ⟨0, Nat.zero_le _, rfl, HTb.out, .inl ⟨rfl, rfl⟩, HB.out⟩
      case round =>
        clear HTb HB j1
        obtain ⟨k, hk, rfl, HTb, HK, HB⟩ := hrel
        by_cases hlt : k < n
        · obtain ⟨⟨xk, xa, xt⟩, b, o, hkx, hse, hbw, hrg⟩ := HL.out k hlt
          subst hse
          have j1 : decide ((k : Int) < (n : Int)) = true := decide_eq_true (by omega)
          have hrg := rowr_below hrg HB.out hbw
          have r0 := hrg 0 _ rfl
          have r1 := hrg 1 _ rfl
          have r2 := hrg 2 _ rfl
          change wr.cell? ⟨b, o + k * 3 + 0, none⟩ = some (.int .i64 xk) at r0
          change wr.cell? ⟨b, o + k * 3 + 1, none⟩ = some (.int .i64 xa) at r1
          change wr.cell? ⟨b, o + k * 3 + 2, none⟩ = some (.int .i64 xt) at r2
          rw [Nat.add_zero] at r0
          have HX := Lib.hid hkx
          clear hrg hkx
          go_upto_region 15 with fail
          refine wp_any (fun W => Below wr.heap.size wr W ∧ Bk W wr.heap.size 30 #[.int .i64 xk, .int .i64 xa, .int .i64 xt]) ⟨(Below.refl _ _).alloc (Nat.le_refl _) _, Bk.new _ _ _⟩ ?_
          clear r0 r1 r2
          have hwz : Hid (w.heap.size ≤ wr.heap.size) := HB.out.size
          generalize hp5 : wr.heap.size = p5 at *
          rintro W1 ⟨hb1, K1⟩
          have HT1 := Lib.hid (HTb.out.keep (hp5 ▸ hb1))
          have HB1 := Lib.hid (HB.out.trans (hb1.mono hwz.out))
          have hB1r : Below wr.heap.size wr W1 := hp5 ▸ hb1
          have HW1 := Lib.hid hB1r
          have c0 := K1.cell 0
          have c1 := K1.cell 1
          have c2 := K1.cell 2
          change W1.cell? _ = some (.int .i64 xk) at c0
          change W1.cell? _ = some (.int .i64 xa) at c1
          change W1.cell? _ = some (.int .i64 xt) at c2
          have z5 := K1.lt
          have HK1 := Lib.hid K1
          clear hb1 K1 hB1r hp5
          have hKK := HK.out.keep HW1.out
          have HK1k := Lib.hid hKK
          have hbd := banned_any T v T M xa now W1 HT1.out
          change Calls _ _ _ _ (fun e w' => e = .returned (.bool (bnd M now xa)) ∧ _) at hbd
          have hkt := kept_snoc (M := M) (now := now) HX.out
          simp only [] at hkt
          have HKT := Lib.hid hkt
          clear hkt hKK HK HTb HB
          cases hq : bnd M now xa with
          | false =>
            rw [hq] at hbd
            have HKT2 := HKT.out
            rw [hq, if_neg (by decide)] at HKT2
            have HKT2 := Lib.hid HKT2
            clear HKT hq
            go_wp2_with fail
            refine hbd.mono ?_
            rintro e w3 ⟨rfl, hb3⟩
            have HT3 := Lib.hid (HT1.out.keep hb3)
            have HK3 := Lib.hid (HK1k.out.keep hb3)
            have HB3 := Lib.hid (below_le HB1.out (Nat.le_refl _) hb3)
            clear hbd hb3 c0 c1 c2 z5
            go_wp2_with fail
            go_roundw
            case rel => exact ⟨k + 1, by omega, by simp, HT3.out, by rw [HKT2.out]; exact HK3.out, HB3.out⟩
            case measure => simp [intOf]; omega
          | true =>
            rw [hq] at hbd
            have HKT2 := HKT.out
            rw [hq, if_pos rfl] at HKT2
            have HKT2 := Lib.hid HKT2
            clear HKT hq
            go_wp2_with fail
            refine hbd.mono ?_
            rintro e w3 ⟨rfl, hb3⟩
            have HT3 := Lib.hid (HT1.out.keep hb3)
            have hK3 := HK1k.out.keep hb3
            have HB3 := Lib.hid (below_le HB1.out (Nat.le_refl _) hb3)
            have K3 := HK1.out.keep hb3
            have c1 := K3.cell 1
            change w3.cell? _ = some (.int .i64 xa) at c1
            have z5 := K3.lt
            have hB4 : Below w3.heap.size w3 (w3.alloc (.cells #[.int .i64 xa] 3)) := (Below.refl _ _).alloc (Nat.le_refl _) _
            have K4 : Bk (w3.alloc (.cells #[.int .i64 xa] 3)) w3.heap.size 3 (intR.c xa).toArray := Bk.new _ _ _
            have hlen : (kept M now (L.take k)).length ≤ 60 := by
              unfold kept
              refine Nat.le_trans (List.length_filter_le _ _) ?_
              rw [List.length_map, List.length_take]
              omega
            obtain ⟨v', W, hrun, hM, hBut, _⟩ := appR intR_ok (kept M now (L.take k)) [xa] u8 (.slice (some ⟨w3.heap.size, 0, none⟩) 1 1) T (w3.alloc (.cells #[.int .i64 xa] 3)) (hK3.keep hB4) (Nat.le_trans (Nat.le_of_lt HT3.out.G.lt) hB4.size) (one_rowR intR_ok K4) (by simp; omega)
            have HT5 := Lib.hid ((HT3.out.keep hB4).app (hK3.keep hB4) hBut)
            have HK5 := Lib.hid hM
            have HB5 := Lib.hid ((below_le HB3.out (Nat.le_refl _) hB4).trans (hBut.below (B := w.heap.size) (Nat.le_trans HB3.out.size hB4.size) (fun q hq => Nat.le_trans HT.out ((hK3.keep hB4).slb_lo hq).1)))
            obtain ⟨s9, c9, e9⟩ := hK3.slice
            subst e9
            change (Builtin.append_ #[39, 39] 39 _).run _ _ = _ at hrun
            clear hbd hb3 c0 c2 hK3 hB4 K4 hM hBut K3 hlen
            go_wp2_with (at_builtin; refine wpList_appG 39 rfl _ _ rfl rfl rfl rfl hrun ?_)
            go_roundw
            case rel => exact ⟨k + 1, by omega, by simp, HT5.out, by rw [HKT2.out]; exact HK5.out, HB5.out⟩
            case measure => simp [intOf]; omega
        · have j1 : decide ((k : Int) < (n : Int)) = false := decide_eq_false (by omega)
          have e : k = L.length := by have := HN.out; omega
          have hKL := HK.out
          rw [e, List.take_length] at hKL
          have HKL := Lib.hid hKL
          have hlv := swept_le HD.out now L HS.out
          have HLV := hlv
          have hso : ∀ a, _ := fun a => swept_ok HD.out now a
          have HSO := Lib.hid hso
          have hsw := sweep_any T v T M now wr HTb.out
          change Calls _ _ _ _ (fun e w' => Turned T v T (M.filter (liv now)) wr e w') at hsw
          have HKA : Hid (∀ a, a ∈ L.map (·.addr) → (kept M now L).any (fun x => x == a) = bnd M now a) := by show ∀ _, _; exact fun a ha => kept_any M now L a ha
          have HTW := Lib.hid (liv_twice M now)
          obtain ⟨KL, hKLe⟩ : ∃ KL, KL = kept M now L := ⟨_, rfl⟩
          rw [← hKLe] at HKL HLV HKA
          clear hlv hso hKL e hKLe HD HS HM HK
          go_wp2_with fail
          clear hlt hk j1
          refine hsw.mono ?_
          rintro e w3 ht
          obtain ⟨rfl, v3, hT3, hB3, hBt, _⟩ := ht.go HTb.out (B := w.heap.size) HT.out HT.out HB.out.size
          have HT3 := Lib.hid hT3
          have HB3 := Lib.hid (HB.out.trans hB3)
          have HK3 := Lib.hid (HKL.out.turned HTb.out hBt)
          have hl := len_any T v3 T _ w3 hT3
          clear hsw ht hT3 hB3 hBt HTb HB HKL
          generalize M.filter (liv now) = M3 at *
          go_wp2_with fail
          refine hl.mono ?_
          rintro e w4 ⟨rfl, rfl⟩
          have hsw := sweep_any T v3 T M3 now w4 HT3.out
          change Calls _ _ _ _ (fun e w' => Turned T v3 T (M3.filter (liv now)) w4 e w') at hsw
          rw [HTW.out] at hsw
          clear hl
          go_wp2_with fail
          refine hsw.mono ?_
          rintro e w5 ht
          obtain ⟨rfl, v5, hT5, hB5, hBt, _⟩ := ht.go HT3.out (B := w.heap.size) HT.out HT.out HB3.out.size
          have HT5 := Lib.hid hT5
          have HB5 := Lib.hid (HB3.out.trans hB5)
          have HK5 := Lib.hid (HK3.out.turned HT3.out hBt)
          clear hsw ht hT5 hB5 hBt HT3 HB3 HK3
          obtain ⟨s8', c8, e8⟩ := HK5.out.slice
          subst e8
          have hkrow := row_at (HK5.out.rows intR_ok)
          obtain ⟨m, hm⟩ : ∃ m, m = KL.length := ⟨_, rfl⟩
          have hK5 := HK5.out
          have hm63 : m < 9223372036854775808 := by
            obtain ⟨_, _, _, q1, q2, _⟩ := hK5.rows intR_ok
            omega
          rw [← hm] at HLV hK5 ⊢
          have HLV := Lib.hid HLV
          have HM := Lib.hid hm
          have HK5 := Lib.hid hK5
          clear hkrow hm hK5
          go_wp2_with fail
          generalize w5 = w0 at *
          go_loopw [59] (fun i wr => ∃ (k : Nat), k ≤ n ∧ i = .int .i64 k ∧ Hid (Tab wr T v5 T M3) ∧ Hid (MineR intR wr T (.slice s8' m c8) KL) ∧ Hid (Below w.heap.size w wr)) (fun i _ => n - (intOf i).toNat)
          case atStart => exact ⟨0, Nat.zero_le _, rfl, HT5.out, HK5.out, HB5.out⟩
          case round =>
            clear HT5 HK5 HB5
            obtain ⟨k, hk, rfl, HTb, HK, HB⟩ := hrel
            by_cases hlt : k < n
            · obtain ⟨⟨xk, xa, xt⟩, b, o, hkx, hse, hbw, hrg⟩ := HL.out k hlt
              subst hse
              have j1 : decide ((k : Int) < (n : Int)) = true := decide_eq_true (by omega)
              have hrg := rowr_below hrg HB.out hbw
              have r0 := hrg 0 _ rfl
              have r1 := hrg 1 _ rfl
              have r2 := hrg 2 _ rfl
              change wr.cell? ⟨b, o + k * 3 + 0, none⟩ = some (.int .i64 xk) at r0
              change wr.cell? ⟨b, o + k * 3 + 1, none⟩ = some (.int .i64 xa) at r1
              change wr.cell? ⟨b, o + k * 3 + 2, none⟩ = some (.int .i64 xt) at r2
              rw [Nat.add_zero] at r0
              have HX := Lib.hid hkx
              clear hrg hkx
              go_upto_region 24 with fail
              refine wp_any (fun W => Below wr.heap.size wr W ∧ Bk W wr.heap.size 30 #[.int .i64 xk, .int .i64 xa, .int .i64 xt]) ⟨(Below.refl _ _).alloc (Nat.le_refl _) _, Bk.new _ _ _⟩ ?_
              clear r0 r1 r2
              have hwz : Hid (w.heap.size ≤ wr.heap.size) := HB.out.size
              generalize hp5 : wr.heap.size = p5 at *
              rintro W1 ⟨hb1, K1⟩
              have HT1 := Lib.hid (HTb.out.keep (hp5 ▸ hb1))
              have HB1 := Lib.hid (HB.out.trans (hb1.mono hwz.out))
              have hB1r : Below wr.heap.size wr W1 := hp5 ▸ hb1
              have HW1 := Lib.hid hB1r
              have c0 := K1.cell 0
              have c1 := K1.cell 1
              have c2 := K1.cell 2
              change W1.cell? _ = some (.int .i64 xk) at c0
              change W1.cell? _ = some (.int .i64 xa) at c1
              change W1.cell? _ = some (.int .i64 xt) at c2
              have z5 := K1.lt
              have HK1 := Lib.hid K1
              clear hb1 K1 hB1r hp5
              have hKK := HK.out.keep HW1.out
              have HK2 := Lib.hid hKK
              have hxa : xa ∈ L.map (·.addr) := List.mem_map.2 ⟨_, List.mem_of_getElem? HX.out, rfl⟩
              obtain ⟨hs1, hs2⟩ := HSO.out xa
              have hka := HKA.out xa hxa
              have hub := until_any T v5 T M3 xa W1 HT1.out
              generalize til M3 xa = rr at hs1 hub
              obtain ⟨ut, ok⟩ := rr
              simp only [] at hs1 hub
              rw [hs1] at hub
              obtain ⟨bq, hbq⟩ : ∃ bq, bq = bnd M now xa := ⟨_, rfl⟩
              rw [← hbq] at hub hka hs2
              have HKA2 := Lib.hid hka
              have HS2 := Lib.hid hs2
              clear hKK HK HTb HB hs1 hbq hka hs2 hxa
              go_wp2_with fail
              refine hub.mono ?_
              rintro e w3 ⟨rfl, hb3⟩
              have HT3 := Lib.hid (HT1.out.keep hb3)
              have hK3 := HK2.out.keep hb3
              have HB3 := Lib.hid (below_le HB1.out (Nat.le_refl _) hb3)
              have K3 := HK1.out.keep hb3
              have c1 := K3.cell 1
              change w3.cell? _ = some (.int .i64 xa) at c1
              have z5 := K3.lt
              have hkrow := row_at (hK3.rows intR_ok)
              have HK3 := Lib.hid hK3
              rw [← HM.out] at hkrow
              have HKR := Lib.hid hkrow
              clear hub hb3 hK3 hkrow c0 c2 K3
              go_wp2_with fail
              generalize hwo : w3 = wo at *
              clear hwo
              have jx1 := j1
              clear j1
              go_loopw [16, 71] (fun s16 i wr => ∃ (j : Nat), j ≤ m ∧ i = .int .i64 j ∧ s16 = .bool ((KL.take j).any (fun x => x == xa)) ∧ wr = wo) (fun _ i _ => m - (intOf i).toNat)
              case atStart => exact ⟨0, Nat.zero_le _, rfl, rfl, rfl⟩
              case round =>
                obtain ⟨j, hj, rfl, rfl, rfl⟩ := hrel
                by_cases hjm : j < m
                · obtain ⟨x, b', o', hjx, hse, hbw', hrg⟩ := HKR.out j hjm
                  subst hse
                  have j1 : decide ((j : Int) < (m : Int)) = true := decide_eq_true (by omega)
                  have r0 := hrg 0 _ rfl
                  change wr.cell? ⟨b', o' + j * 1 + 0, none⟩ = some (.int .i64 x) at r0
                  rw [Nat.mul_one, Nat.add_zero] at r0
                  have hany : (KL.take (j + 1)).any (fun x => x == xa) = ((KL.take j).any (fun x => x == xa) || (x == xa)) := by
                    rw [List.take_add_one, hjx, List.any_append]
                    simp
                  generalize (KL.take j).any (fun x => x == xa) = fnd at *
                  have HANY := Lib.hid hany
                  clear hany hrg hjx
                  cases fnd
                  · have HANY2 : Hid ((KL.take (j + 1)).any (fun x => x == xa) = (x == xa)) := HANY.out
                    clear HANY
                    go_wp2_with fail
                    go_roundw
                    case rel => exact ⟨j + 1, by omega, by simp, by rw [HANY2.out], trivial⟩
                    case measure => simp [intOf]; omega
                  · have HANY2 : Hid ((KL.take (j + 1)).any (fun x => x == xa) = true) := HANY.out
                    clear HANY
                    go_wp2_with fail
                    go_roundw
                    case rel => exact ⟨j + 1, by omega, by simp, by rw [HANY2.out], trivial⟩
                    case measure => simp [intOf]; omega
                · have j1 : decide ((j : Int) < (m : Int)) = false := decide_eq_false (by omega)
                  have e : (KL.take j).any (fun x => x == xa) = bq := by
                    rw [List.take_of_length_le (by have := HM.out; omega)]
                    exact HKA2.out
                  rw [e]
                  have hbd := banned_any T v5 T M3 xa now wr HT3.out
                  change Calls _ _ _ _ (fun e w' => e = .returned (.bool (bnd M3 now xa)) ∧ _) at hbd
                  rw [HS2.out] at hbd
                  clear e
                  cases bq
                  · go_wp2_with fail
                    refine hbd.mono ?_
                    rintro e w6 ⟨rfl, hb6⟩
                    have HT6 := Lib.hid (HT3.out.keep hb6)
                    have HK6 := Lib.hid (HK3.out.keep hb6)
                    have HB6 := Lib.hid (below_le HB3.out (Nat.le_refl _) hb6)
                    clear hbd hb6 c1 z5
                    go_wp2_with fail
                    go_roundw
                    case rel => exact ⟨k + 1, by omega, by simp, HT6.out, HK6.out, HB6.out⟩
                    case measure => simp [intOf]; omega
                  · go_wp2_with fail
                    refine hbd.mono ?_
                    rintro e w6 ⟨rfl, hb6⟩
                    have HT6 := Lib.hid (HT3.out.keep hb6)
                    have HK6 := Lib.hid (HK3.out.keep hb6)
                    have HB6 := Lib.hid (below_le HB3.out (Nat.le_refl _) hb6)
                    clear hbd hb6 c1 z5
                    go_wp2_with fail
                    go_roundw
                    case rel => exact ⟨k + 1, by omega, by simp, HT6.out, HK6.out, HB6.out⟩
                    case measure => simp [intOf]; omega
            · have j1 : decide ((k : Int) < (n : Int)) = false := decide_eq_false (by omega)
              have hl := len_any T v5 T _ wr HTb.out
              have e1 : decide ((M3.length : Int) ≤ (m : Int)) = true := decide_eq_true (by have := HLV.out; omega)
              have e2 : decide (M3.length ≤ m) = true := decide_eq_true HLV.out
              go_wp2_with fail
              refine hl.mono ?_
              rintro e w6 ⟨rfl, rfl⟩
              go_wp2_with fail
              go_ret
              exact ⟨rfl, HB.out⟩

set_option maxRecDepth 100000 in
set_option maxHeartbeats 2000000 in
theorem lifted (os : Os) (started : os.Started) (H : Type) (enc : TypeId × Value → H) :
    ReturnsInHanded {} Try.checked os 7 .any (Rows.banSweptSpec.pre6 enc Try.prog Try.f7 Rows.banSweptRow.domain false) (Rows.banSweptSpec.post enc Try.prog Try.f7 false true false false) := by
  refine returnsInHanded_of_change (C := Try.checked) own started (by kernel_rfl) Try.func7
    (ChangeSpec.witness6 (enc := enc) (C := Try.checked) false ⟨#[], #[.slice none 0 0, .int .i64 0], []⟩ 8 (by kernel_rfl) (by kernel_rfl) (by kernel_rfl) (by kernel_rfl)) ?_
  intro W base args ds gs before hval0 hW hcnd _
  have hval : ∀ (j : Nat) t v, Try.f7.params[j]? = some t → args[j]? = some v → Value.okWide Try.prog W .any base t v := hval0
  have hW' := hW
  obtain ⟨p, q, hA0, hV, rfl, hfz, hnd⟩ := hW
  have hA : DataW.TrodAll enc Try.prog W 0 (fun _ => true) true Try.f7.params.toList args.toList ds p := hA0
  rw [Try.params7] at hA hval
  obtain ⟨v0, vs0, d0, ds0, p0, q0, hargs, rfl, rfl, h0, r0⟩ := trodAll_cons hA
  obtain ⟨v1, vs1, d1, ds1, p1, q1, rfl, rfl, rfl, h1, r1⟩ := trodAll_cons r0
  obtain ⟨rfl, rfl, rfl⟩ := trodAll_nil r1
  obtain rfl : args = #[v0, v1] := by cases args; simp_all
  obtain ⟨rfl, rfl⟩ := trodVars_none hV
  have lt0 : ∀ x ∈ p0, x.block < W.heap.size := by obtain ⟨m, hm⟩ := h0; exact DataW.trod_lt m _ _ _ hm
  have lt1 : ∀ x ∈ p1, x.block < W.heap.size := by obtain ⟨m, hm⟩ := h1; exact DataW.trod_lt m _ _ _ hm
  obtain ⟨x0, hb0⟩ := ops_arg (hval 0 22 v0 rfl rfl) h0
  obtain ⟨x1, rfl, _, _, hwf1⟩ := open_int (k := .i64) Try.underlying3 (hval 1 3 v1 rfl rfl) h1
  have hy1 := wf_i64r hwf1
  clear hA0 hval0
  have hwalk := walk x1 x0 v0 W hb0
  refine hwalk.mono fun e W' ⟨he, bel⟩ => ?_
  subst he
  exact ⟨_, rfl, _, _, _, [], _, [], hW', trodAll_mk1 (shut_bool Try.underlying4 _), (trodAll_cons_mk (Below.trod laidOut (by kernel_rfl) (of_decide_eq_true (by kernel_rfl)) h0 bel lt0) (trodAll_cons_mk (Below.trod laidOut (by kernel_rfl) (of_decide_eq_true (by kernel_rfl)) h1 bel lt1) trodAll_mk0)), rfl, bel.frame _, fun h => by cases h⟩

theorem over : Rows.banSweptRow.holds Try.pinned (OpenSpec.ofChange Rows.banSweptSpec) :=
  OpenClaim.holds_of_wide 7 Try.f7 rfl rfl rfl rfl rfl rfl rfl ⟨rfl, rfl, rfl, rfl, rfl⟩ rfl rfl rfl rfl rfl (by kernel_rfl) Try.func7 (by kernel_rfl)
    (of_decide_eq_true (by kernel_rfl)) (by unfold Func.isWrapper; first | (rw [if_pos (by decide +kernel)]; kernel_rfl) | (rw [if_neg (by decide +kernel)]; exact ⟨rfl, rfl⟩))
    (fun os started H enc _ => lifted os started H enc)

theorem proved : Rows.BanSweptSaid := over
#print axioms proved
end Go.Proofs.Ytckmkbnmbleegaa.banSwept
