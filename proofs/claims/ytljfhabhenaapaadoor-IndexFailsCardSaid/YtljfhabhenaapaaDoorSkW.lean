/-
  IndexSkips: its walk.
-/
import Derived.Test.YtljfhabhenaapaaDoorPrA
namespace Go.Proofs.YtljfhabhenaapaaDoor
open Go.RowKit
set_option linter.unusedVariables false
set_option linter.unusedSimpArgs false
set_option maxRecDepth 100000
theorem mineV_some {h : Hd} {l : Nat} : ∀ (r k : Nat) {x : Hd}, mineV h l k r = some x → ∃ j, x = hAt h j ∧ provV x l = 0
  | 0, k, x, e => by unfold mineV at e; cases e
  | r + 1, k, x, e => by
    unfold mineV at e
    split at e
    · rename_i hp
      injection e with e
      exact ⟨k, e.symm, by rw [← e]; exact hp⟩
    · exact mineV_some r (k + 1) e
theorem g0_lin : LinT [g0] 0 := by
  refine ⟨g0_ok, rfl, ?_, ?_, ?_, ?_, ?_⟩ <;> intro j hj
  all_goals obtain rfl : j = 0 := by omega
  any_goals rfl
  intro h; omega
/-- What a round of mining gives: a header behind the i-th, or none. -/
def mined (ver t tries : Nat) (y : I32) : Option Hd := mineV ⟨ver, y.1, zeros 32, t, 545259519, 0⟩ 545259519 0 tries
def minedH (o : Option Hd) : Hd := o.getD hd0
theorem mined_is {ver t tries : Nat} (hv : ver < 4294967296) (ht : t < 4294967296) (y : I32) : IsHd (minedH (mined ver t tries y)) := by
  unfold minedH
  cases h : mined ver t tries y with
  | none => exact hd0_is
  | some x =>
    obtain ⟨j, e, _⟩ := mineV_some _ _ h
    show IsHd x
    rw [e]
    exact hAt_is (bH_is hv ht y) j
theorem mined_some {ver t tries : Nat} {y : I32} {x : Hd} (h : mined ver t tries y = some x) : x.v = ver ∧ x.p = y.1 ∧ x.t = t ∧ x.b = 545259519 ∧ provV x 545259519 = 0 := by
  obtain ⟨j, e, hp⟩ := mineV_some _ _ h
  rw [e]
  exact ⟨rfl, rfl, rfl, rfl, by rw [← e]; exact hp⟩
theorem mine_law (ver t : Nat) (y : I32) (w : World) (hv : ver < 4294967296) (ht : t < 4294967296) (hL : Laid w) :
    Calls Tryd.prog 9 #[.agg (hdL ⟨ver, y.1, zeros 32, t, 545259519, 0⟩).toArray, .int .u32 545259519, .int .i64 1000] w fun e w' => e = .returned (.tuple #[.agg (hdL (minedH (mined ver t 1000 y))).toArray, .bool (mined ver t 1000 y).isSome]) ∧ Below w.heap.size w w' :=
  mine_any ⟨ver, y.1, zeros 32, t, 545259519, 0⟩ 545259519 1000 w (bH_is hv ht y) (by decide) (by decide) hL
/-- A new header's variable. -/
theorem hd_made {w : World} (h : Hd) (k : IsHd h) (Z : Array Value) (hZ : Z.size = 68) : (w.alloc (.cells Z 32)).there w.heap.size 0 (hdL h).toArray.size ∧ Below w.heap.size w ((w.alloc (.cells Z 32)).setCells w.heap.size 0 (hdL h)) ∧ Bk ((w.alloc (.cells Z 32)).setCells w.heap.size 0 (hdL h)) w.heap.size 32 (hdL h).toArray := by
  have N := Bk.new w 32 Z
  exact ⟨N.there _ (by rw [List.size_toArray, hdL_length k, hZ]; exact Nat.le_refl _), Below.setCells (Nat.le_refl _) _ _ _ ((Below.refl _ _).alloc (Nat.le_refl _) _), Bk.setAll (xs := (hdL h).toArray) N (by rw [List.size_toArray, hdL_length k, hZ])⟩
theorem hd_szA {h : Hd} (k : IsHd h) : (Tryd.prog.info? 32).map (·.size) = some (hdL h).toArray.size := by rw [List.size_toArray, hdL_length k]; exact hd_info
theorem hd_onA (h : Hd) : (hdL h).toArray.all (·.oneCell') = true := all_oneCell_toArray (hdL_one h)
set_option maxHeartbeats 32000000 in
theorem walk (n : Int) (PL : List PrM) (v : Value) (w : World) (hLd : Laid w) (hn : -9223372036854775808 ≤ n ∧ n ≤ 9223372036854775807) (hP : RowV pairR w w.heap.size v PL) (hPI : ∀ x ∈ PL, InI x.a ∧ InI x.b) :
    Calls Tryd.prog 3 #[.int .i64 n, v] w fun e w' => e = .returned (.bool true) ∧ Below w.heap.size w w' := by
  have h63 : PL.length < 9223372036854775808 := by obtain ⟨_, _, _, h1, h2, _⟩ := hP; omega
  obtain ⟨s0, c, rfl⟩ : ∃ s c, v = .slice s PL.length c := hP.slice
  have hrow := row_at hP
  obtain ⟨m, hm⟩ : ∃ m, m = PL.length := ⟨_, rfl⟩
  rw [← hm] at hrow h63 ⊢
  have HR : Hid (∀ k, k < m → ∃ (x : PrM) (b o : Nat), PL[k]? = some x ∧ s0 = some ⟨b, o, none⟩ ∧ b < w.heap.size ∧ w.rangeAt b (o + k * 2) (prL x)) := hrow
  have HPI := Lib.hid hPI
  have HGR := Lib.hid (grows_any w hLd)
  have HLD := Lib.hid hLd
  have HE := Lib.hid easy_any
  have HN := Lib.hid (fun W (hW : Below w.heap.size w W) => new_any W (hLd.keep hW))
  clear hrow hm hP hPI hLd
  go_enter Tryd.func3, Tryd.ntmps3
  go_wp2_with fail
  refine HGR.out.mono ?_
  rintro e w1 ⟨rfl, hb1⟩
  have HB1 := Lib.hid hb1
  clear HGR hb1
  by_cases hn0 : n < 0
  · have d1 : decide (n < 0) = true := decide_eq_true hn0
    clear hn0
    go_wp2_with fail
    go_ret
    exact ⟨rfl, HB1.out⟩
  have d1 : decide (n < 0) = false := decide_eq_false hn0
  by_cases hn40 : 40 < n
  · have d2 : decide (40 < n) = true := decide_eq_true hn40
    clear hn0 hn40
    go_wp2_with fail
    go_ret
    exact ⟨rfl, HB1.out⟩
  have d2 : decide (40 < n) = false := decide_eq_false hn40
  by_cases hm50 : 50 < m
  · have d3 : decide ((50 : Int) < (m : Int)) = true := decide_eq_true (by omega)
    clear hn0 hn40 hm50
    go_wp2_with fail
    go_ret
    exact ⟨rfl, HB1.out⟩
  have d3 : decide ((50 : Int) < (m : Int)) = false := decide_eq_false (by omega)
  obtain ⟨N, rfl⟩ : ∃ N : Nat, n = (N : Int) := ⟨n.toNat, by omega⟩
  have hN40 : N ≤ 40 := by omega
  clear hn0 hn40 hn
  generalize ruA r0 = RA at *
  go_wp2_with fail
  refine (HE.out w1).mono ?_
  rintro e w2 ⟨rfl, hb2⟩
  have HB2 := Lib.hid (HB1.out.trans (hb2.mono HB1.out.size))
  clear hb2
  go_wp2_with fail
  refine (HN.out w2 HB2.out).mono ?_
  rintro e w3 ⟨p, F, rfl, hT3, hb3⟩
  unfold pv
  have HB3 := Lib.hid (HB2.out.trans (hb3.mono HB2.out.size))
  have HT3 := Lib.hid hT3
  have hlo : w.heap.size ≤ w2.heap.size := HB2.out.size
  have HLO := Lib.hid hlo
  clear hb3 hT3 hlo HN HE HB1 HB2
  generalize w2.heap.size = lo at *
  clear w2 w1
  go_wp2_with fail
  go_loopw [36] (fun iv wr => ∃ (i : Nat) (L : List Nd) (F : Nat → Prop), iv = .int .i64 (i : Int) ∧ i ≤ N ∧ Hid (LinT L i) ∧ Hid (Tre wr p lo F r0 L) ∧ Hid (Below w.heap.size w wr)) (fun iv _ => N - (intOf iv).toNat)
  case atStart => exact ⟨0, [g0], F, rfl, Nat.zero_le _, g0_lin, HT3.out, HB3.out⟩
  case round =>
    obtain ⟨i, L, F, rfl, hi, HLT, HT, HB⟩ := hrel
    clear HT3 HB3
    rename World => wq
    by_cases hlt : i < N
    · have j1 : decide ((i : Int) < (N : Int)) = true := decide_eq_true (by omega)
      have j2 : decide (i < N) = true := decide_eq_true hlt
      have hil : i < L.length := by rw [HLT.out.len]; omega
      have hix := HLT.out.ok.hd _ (ndA_mem hil)
      obtain ⟨x, hx⟩ : ∃ x, x = ndA L i := ⟨_, rfl⟩
      have hG : Hid (Calls Tryd.prog 10 #[.pointer (some ⟨p, 0, none⟩), .int .i64 (i : Int)] wq fun e w' => e = .returned (.agg (ndL x).toArray) ∧ Below wq.heap.size wq w') := by
        have := get_any HT.out (i : Int)
        rw [getN_nat hil, ← hx] at this
        exact this
      rw [← hx] at hix
      have HX := Lib.hid hx
      obtain ⟨NA, hNA⟩ : ∃ NA, NA = (ndL x).toArray := ⟨_, rfl⟩
      obtain ⟨IDL, hIDL⟩ : ∃ IDL, IDL = idL (nameI x.h) := ⟨_, rfl⟩
      obtain ⟨ZH, hZH⟩ : ∃ ZH, ZH = hdA hd0 := ⟨_, rfl⟩
      obtain ⟨B0, hB0⟩ : ∃ B0, B0 = bH 0 (nameI x.h) := ⟨_, rfl⟩
      obtain ⟨HQ, hHQ⟩ : ∃ HQ, HQ = (hdL ⟨0, (nameI x.h).1, zeros 32, i + 1, 545259519, 0⟩).toArray := ⟨_, rfl⟩
      obtain ⟨o, ho⟩ : ∃ o, o = mined 0 (i + 1) 1000 (nameI x.h) := ⟨_, rfl⟩
      have hoi : IsHd (minedH o) := by rw [ho]; exact mined_is (by decide) (by omega) _
      have f0 : ∀ w, (Instr.field 45 (.agg NA) 1).run Tryd.prog w = .ok (.agg IDL.toArray) w := fun w => by rw [hNA, hIDL]; exact nf_id hix w
      have z1 : ∀ w, (zeroValue 32).run Tryd.prog w = .ok (.agg ZH) w := fun w => by rw [hZH]; exact hd_zero w
      have z2 : (ZH = #[]) = False := by rw [hZH]; exact hd_zne
      have z3 : ZH.size = 68 := by rw [hZH]; exact hdA_size hd0_is
      have b1 : IDL.zipIdx.foldl (fun (cs : Array Value) (x : Value × Nat) => cs.setIfInBounds (1 + x.2) x.1) ZH = B0 := by rw [hIDL, hZH, hB0]; exact bH_0 _
      have b2 : B0.size = 68 := by rw [hB0]; exact bH_size _ _
      have b3 : (B0.setIfInBounds 65 (.int .u32 ((i : Int) + 1))).setIfInBounds 66 (.int .u32 545259519) = HQ := by rw [hB0, hHQ]; exact bH_2 0 (i + 1) (nameI x.h)
      have b4 : IDL.length = 32 := by rw [hIDL]; exact idL_len _
      have w1w : IntKind.i64.wrap ((i : Int) + 1) = (i : Int) + 1 := IntWalk.i64_in _ (by omega)
      have w2w : IntKind.u32.wrap ((i : Int) + 1) = (i : Int) + 1 := by rw [IntKind.wrap_u32]; omega
      have hM : Hid (∀ W, Below w.heap.size w W → Calls Tryd.prog 9 #[.agg HQ, .int .u32 545259519, .int .i64 1000] W fun e w' => e = .returned (.tuple #[.agg (hdL (minedH o)).toArray, .bool o.isSome]) ∧ Below W.heap.size W w') := fun W hW => by
        rw [hHQ, ho]
        exact mine_law 0 (i + 1) (nameI x.h) W (by decide) (by omega) (HLD.out.keep hW)
      obtain ⟨HL, hHL⟩ : ∃ HL, HL = hdL (minedH o) := ⟨_, rfl⟩
      have hMD : ∀ W : World, (W.alloc (.cells ZH 32)).there W.heap.size 0 HL.toArray.size ∧ Below W.heap.size W ((W.alloc (.cells ZH 32)).setCells W.heap.size 0 HL) ∧ Bk ((W.alloc (.cells ZH 32)).setCells W.heap.size 0 HL) W.heap.size 32 HL.toArray := fun W => by rw [hHL]; exact hd_made _ hoi ZH z3
      have l2 : (Tryd.prog.info? 32).map (·.size) = some HL.toArray.size := by rw [hHL]; exact hd_szA hoi
      have l3 : HL.toArray.all (·.oneCell') = true := by rw [hHL]; exact hd_onA _
      have hA : Hid (∀ W, Below wq.heap.size wq W → Below w.heap.size w W → Calls Tryd.prog 11 #[.pointer (some ⟨p, 0, none⟩), .agg HL.toArray, .int .i64 1000] W fun e w' => e = .returned (.tuple #[.int .i64 (addF L 545259519 (minedH o) 1000).2.1, .int .i64 (((addF L 545259519 (minedH o) 1000).2.2 : Nat) : Int)]) ∧ AddG W p lo F r0 (addF L 545259519 (minedH o) 1000).1 w') := fun W h1 h2 => by
        rw [hHL]
        exact tadd_any (HT.out.keep h1) rfl (minedH o) hoi 1000 (by decide) (HLD.out.keep h2) (by rw [HLT.out.len]; omega)
      have HO := Lib.hid ho
      rw [← hNA] at hG
      rw [← hHL] at hM
      clear hx hNA hIDL hZH hB0 hHQ ho hHL hix hil
      go_wp2_with fail
      refine hG.out.mono ?_
      rintro e w4 ⟨rfl, hb4⟩
      have HQ4 := Lib.hid hb4
      have HB4 := Lib.hid (HB.out.trans (hb4.mono HB.out.size))
      clear hb4 hG
      go_wp2_with fail
      refine (hM.out w4 HB4.out).mono ?_
      rintro e w5 ⟨rfl, hb5⟩
      have HQ5 := Lib.hid (HQ4.out.trans (hb5.mono HQ4.out.size))
      have HB5 := Lib.hid (HB4.out.trans (hb5.mono HB4.out.size))
      clear hb5 hM HQ4 HB4
      obtain ⟨hth, hm1, hm2⟩ := hMD w5
      go_upto_region 10 with (refine wpList_store_mid rfl 32 (.tmp 8) (.tmp 49) rfl w5.heap.size 0 HL.toArray rfl rfl hth l2 l3 ?_)
      refine wp_any (fun W => Below wq.heap.size wq W ∧ Below w.heap.size w W ∧ Bk W w5.heap.size 32 HL.toArray) ⟨HQ5.out.trans (hm1.mono HQ5.out.size), HB5.out.trans (hm1.mono HB5.out.size), hm2⟩ ?_
      clear hth hm1 hm2 HQ5 HB5 hMD z1 z2 z3
      generalize w5.heap.size = k8 at *
      clear w5 w4
      rintro W6 ⟨hq6, hb6, K6⟩
      have HQ6 := Lib.hid hq6
      have HB6 := Lib.hid hb6
      clear hq6 hb6
      go_wp2_with (first | (refine wpList_load_row rfl 32 (.tmp 8) rfl k8 rfl 32 HL.toArray (0, 0) _ K6 Tryd.underlying32 rfl l2 ?_) | fail)
      refine (hA.out W6 HQ6.out HB6.out).mono ?_
      rintro e w7 ⟨rfl, F7, hT7, hb7, hn7⟩
      have HB7 : Hid (Below w.heap.size w w7) := HB6.out.trans (hb7.below HB6.out.size (fun k hk => Nat.le_trans HLO.out (HT.out.lt hk).1))
      have HT7 := Lib.hid hT7
      clear hT7 hb7 hn7 K6 hA
      have hcs : o = none ∨ ∃ x2, o = some x2 := by
        cases o with
        | none => exact .inl rfl
        | some x2 => exact .inr ⟨x2, rfl⟩
      rcases hcs with hov | ⟨x2, hov⟩
      · have hos : o.isSome = false := by rw [hov]; rfl
        clear hov
        go_wp2_with fail
        go_ret
        exact ⟨rfl, HB7.out⟩
      · have hms := mined_some (HO.out.symm.trans hov)
        have hos : o.isSome = true := by rw [hov]; rfl
        have hmh : minedH o = x2 := by rw [hov]; rfl
        have hNXT := HLT.out.next (h := minedH o) (by omega) hoi (by rw [hmh, hms.2.1, HX.out]; rfl) (by rw [hmh]; exact hms.2.2.1) (by rw [hmh]; exact hms.2.2.2.1) (by rw [hmh]; exact hms.2.2.2.2)
        rcases hNXT with ⟨_, h5⟩ | ⟨h01, hlin⟩
        · rw [h5]
          clear hms hmh hov h5
          go_wp2_with fail
          go_ret
          exact ⟨rfl, HB7.out⟩
        · rw [h01]
          have HLIN := Lib.hid hlin
          have w3w : IntKind.i64.wrap ((i : Int) + 1) = (i : Int) + 1 := IntWalk.i64_in _ (by omega)
          have d9 : (((i + 1 : Nat) : Int) != ((i : Int) + 1)) = false := by simp
          have d10 : (((i : Int) + 1) != ((i : Int) + 1)) = false := by simp
          clear hms hmh hov h01 hlin
          go_wp2_with fail
          go_roundw
          case rel => exact ⟨i + 1, _, F7, by go_num, by omega, HLIN, HT7, HB7⟩
          case measure => simp [intOf]; omega
    · have j1 : decide ((i : Int) < (N : Int)) = false := decide_eq_false (by omega)
      have j2 : decide (i < N) = false := decide_eq_false hlt
      obtain rfl : i = N := by omega
      clear hlt
      go_upto_region 16 with fail
      go_wp2_with fail
      go_loopw [74] (fun kv wr => ∃ k : Nat, kv = .int .i64 (k : Int) ∧ k ≤ m ∧ Hid (Tre wr p lo F r0 L) ∧ Hid (Below w.heap.size w wr)) (fun kv _ => m - (intOf kv).toNat)
      case atStart => exact ⟨0, rfl, Nat.zero_le _, HT.out, HB.out⟩
      case round =>
        obtain ⟨k, rfl, hk, HT, HB⟩ := hrel
        rename World => wz
        by_cases hkm : k < m
        · have g1 : decide ((k : Int) < (m : Int)) = true := decide_eq_true (by omega)
          have g2 : decide (k < m) = true := decide_eq_true hkm
          obtain ⟨x, b, o, hx, rfl, hbw, hrg⟩ := HR.out k hkm
          have hI := HPI.out x (List.mem_of_getElem? hx)
          have hrg : wz.rangeAt b (o + k * 2) (prL x) := rowr_below hrg HB.out hbw
          have hbz : b < wz.heap.size := Nat.lt_of_lt_of_le hbw HB.out.size
          have N13 := Bk.new wz 49 #[.int .i64 0, .int .i64 0]
          have hth : (wz.alloc (.cells #[.int .i64 0, .int .i64 0] 49)).there wz.heap.size 0 (prL x).toArray.size := N13.there _ (Nat.le_refl _)
          have hB2 : Below wz.heap.size wz ((wz.alloc (.cells #[.int .i64 0, .int .i64 0] 49)).setCells wz.heap.size 0 (prL x)) := Below.setCells (Nat.le_refl _) _ _ _ ((Below.refl _ _).alloc (Nat.le_refl _) _)
          have K2 : Bk ((wz.alloc (.cells #[.int .i64 0, .int .i64 0] 49)).setCells wz.heap.size 0 (prL x)) wz.heap.size 49 (prL x).toArray := Bk.setAll (xs := (prL x).toArray) N13 rfl
          clear hx N13
          go_upto_region 19 with (first | (refine wpList_load_mid rfl 49 (.tmp 76) rfl b (o + k * 2) rfl (prL x) _ hrg Tryd.underlying49 rfl (row_size pairR_ok x) ?_) | (refine wpList_store_mid rfl 49 (.tmp 13) (.tmp 77) rfl wz.heap.size 0 (prL x).toArray rfl rfl hth (row_size pairR_ok x) (all_oneCell_toArray (pairR_ok.one x)) ?_))
          refine wp_any (fun W => Below w.heap.size w W ∧ Tre W p lo F r0 L ∧ Bk W wz.heap.size 49 (prL x).toArray) ⟨HB.out.trans (hB2.mono HB.out.size), HT.out.keep hB2, K2⟩ ?_
          clear hB2 K2 hth hrg hbz HT HB
          generalize wz.heap.size = k13 at *
          clear wz
          rintro W ⟨hbW, hTW, KW⟩
          have HBW := Lib.hid hbW
          have HTW := Lib.hid hTW
          have c0 : W.cell? ⟨k13, 0, none⟩ = some (.int .i64 x.a) := KW.cell 0
          have c1 : W.cell? ⟨k13, 1, none⟩ = some (.int .i64 x.b) := KW.cell 1
          have zk := KW.lt
          obtain ⟨xa, hxa⟩ : ∃ a, a = x.a := ⟨_, rfl⟩
          obtain ⟨xb, hxb⟩ : ∃ a, a = x.b := ⟨_, rfl⟩
          rw [← hxa] at c0 hI
          rw [← hxb] at c1 hI
          clear hbW hTW KW hxa hxb
          go_still (by kernel_rfl)
          have HTD : Hid (Tre W.drew p lo F r0 L) := HTW.out.keep (Below.refl _ _).drew
          have HBD : Hid (Below w.heap.size w W.drew) := HBW.out.drew
          clear HTW HBW c0 c1 zk
          have HTW := HTD
          have HBW := HBD
          clear HTD HBD
          change Exit.then _ _ _ _ W.drew
          obtain ⟨W2, hW2⟩ : ∃ W2, W2 = W.drew := ⟨_, rfl⟩
          rw [← hW2] at HTW HBW ⊢
          clear hW2
          clear W
          by_cases a0 : xa < 0
          · have e1 : decide (xa < 0) = true := decide_eq_true a0
            clear a0
            go_wp2_with fail
            go_roundw
            case rel => exact ⟨k + 1, by go_num, by omega, HTW, HBW⟩
            case measure => simp [intOf]; omega
          have e1 : decide (xa < 0) = false := decide_eq_false a0
          by_cases a1 : (i : Int) < xa
          · have e2 : decide ((i : Int) < xa) = true := decide_eq_true a1
            clear a0 a1
            go_wp2_with fail
            go_roundw
            case rel => exact ⟨k + 1, by go_num, by omega, HTW, HBW⟩
            case measure => simp [intOf]; omega
          have e2 : decide ((i : Int) < xa) = false := decide_eq_false a1
          obtain ⟨q, rfl⟩ : ∃ q : Nat, xa = (q : Int) := ⟨xa.toNat, by omega⟩
          have hqi : q ≤ i := by omega
          have hLn : L.length < 1000000 := by rw [HLT.out.len]; omega
          have hAN := Lib.hid (anc_any HTW.out (q : Int) xb hLn)
          have hON := Lib.hid (on_any HTW.out xb (q : Int) hLn)
          rw [HLT.out.ancI hqi] at hAN
          rw [HLT.out.onB hqi] at hON
          unfold pv at hAN hON
          clear a0 a1 hLn
          by_cases b0 : xb < 0
          · have e3 : decide (xb < 0) = true := decide_eq_true b0
            rw [if_pos (Or.inl b0)] at hAN
            rw [decide_eq_false (by omega)] at hON
            clear b0
            go_wp2_with fail
            refine hAN.out.mono ?_
            rintro e w9 ⟨rfl, rfl⟩
            go_wp2_with fail
            refine hON.out.mono ?_
            rintro e w9 ⟨rfl, rfl⟩
            go_wp2_with fail
            go_roundw
            case rel => exact ⟨k + 1, by go_num, by omega, HTW, HBW⟩
            case measure => simp [intOf]; omega
          have e3 : decide (xb < 0) = false := decide_eq_false b0
          by_cases b1 : (q : Int) < xb
          · have e4 : decide ((q : Int) < xb) = true := decide_eq_true b1
            rw [if_pos (Or.inr b1)] at hAN
            rw [decide_eq_false (by omega)] at hON
            clear b0 b1
            go_wp2_with fail
            refine hAN.out.mono ?_
            rintro e w9 ⟨rfl, rfl⟩
            go_wp2_with fail
            refine hON.out.mono ?_
            rintro e w9 ⟨rfl, rfl⟩
            go_wp2_with fail
            go_roundw
            case rel => exact ⟨k + 1, by go_num, by omega, HTW, HBW⟩
            case measure => simp [intOf]; omega
          have e4 : decide ((q : Int) < xb) = false := decide_eq_false b1
          rw [if_neg (by omega)] at hAN
          rw [decide_eq_true (by omega)] at hON
          have e5 : (xb != xb) = false := by simp
          have e6 : decide (0 ≤ xb) = true := decide_eq_true (by omega)
          clear b0 b1
          go_wp2_with fail
          refine hAN.out.mono ?_
          rintro e w9 ⟨rfl, rfl⟩
          go_wp2_with fail
          refine hON.out.mono ?_
          rintro e w9 ⟨rfl, rfl⟩
          go_wp2_with fail
          go_roundw
          case rel => exact ⟨k + 1, by go_num, by omega, HTW, HBW⟩
          case measure => simp [intOf]; omega
        · have g1 : decide ((k : Int) < (m : Int)) = false := decide_eq_false (by omega)
          have g2 : decide (k < m) = false := decide_eq_false hkm
          clear hkm
          go_wp2_with fail
          go_ret
          exact ⟨rfl, HB.out⟩
end Go.Proofs.YtljfhabhenaapaaDoor
