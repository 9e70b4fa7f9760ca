/-
  What is proved: for every slice of slices of bytes and every uint64 the law WholeNumbers returns true, and its arguments read behind the call as they read before; the two listed tables of package hash are taken to hold what the program's text lays in them, and the card ties them to it.
-/
import Derived.Test.YtkkkfcdoilojmaaDoorWhA
namespace Go.Proofs.YtkkkfcdoilojmaaDoor.wholeNumbers
open Go.ChangeShapes Go.WideShapes Go.ChangeAt Go.RowKit
set_option linter.unusedVariables false

theorem own : ownKnob Tryd.prog.godebug = none := by kernel_rfl
theorem laidOut : laidOutB Tryd.prog = true := by kernel_rfl
theorem wf_i64 {z : Int} (h : (Lit.int .i64 z).wf = true) : -9223372036854775808 ≤ z ∧ z ≤ 9223372036854775807 := by
  simp [Lit.wf, IntKind.min, IntKind.max, IntKind.signed, IntKind.bits] at h
  omega

set_option maxRecDepth 100000 in
set_option maxHeartbeats 4000000 in
theorem walk_inn (ps : List (List Nat)) (n : Nat) (s : Option Addr) (c : Nat) (w : World) (hL : Laid w) (hc : ps.length ≤ c ∧ c < 9223372036854775808) (hv : PartsV w s ps) (hn : n < B64) (h10 : ps.length ≤ 10) :
    Calls Tryd.prog 9 #[.slice s ps.length c, .int .u64 (n : Int)] w fun e w' => e = .returned (.bool true) ∧ Below w.heap.size w w' := by
  have HL := Lib.hid hL
  have HLW := Lib.hid (fun W (h : Below w.heap.size w W) => hL.below h hL.size)
  have HSN := Lib.hid (fun W (h : Laid W) => sum0 0 W h)
  have HF0 := Lib.hid (fun W => fromID_any (sha []) rfl (sha_lt []) W)
  have HZ0 := Lib.hid (fun W => zero_any (sn []) W (sn_lt []))
  have HOF := Lib.hid (fun W => of_any n W hn)
  have hbl : blen n ≤ 64 := blen64 n hn
  have HLN := Lib.hid (fun W => len_any n W (Nat.lt_trans hn (by decide +kernel)))
  have hd0 : decide ((64 : Int) < (blen n : Int)) = false := decide_eq_false (by omega)
  have hz0 : decide (sn [] = 0) = false := decide_eq_false sn_none
  rw [hz0] at HZ0
  have hd1 : decide ((10 : Int) < (ps.length : Int)) = false := decide_eq_false (by omega)
  have hd1' : decide (10 < ps.length) = false := decide_eq_false (by omega)
  clear hL
  change Hid (∀ W, Calls Tryd.prog _ _ W fun e w' => e = .returned (nv (sn [])) ∧ _) at HF0
  generalize sn [] = s0 at *
  generalize sha [] = h0 at *
  generalize blen n = bl at *
  go_enter Tryd.func9, Tryd.ntmps9
  go_wp2_with fail
  refine (HSN.out _ HL.out).mono ?_
  rintro e w1 ⟨rfl, hb1⟩
  have hW := hb1
  clear hb1 HSN
  go_wp2_with fail
  refine (HF0.out _).mono ?_
  rintro e w2 ⟨rfl, hb⟩
  have hW := hW.trans (hb.mono hW.size)
  clear hb HF0
  go_wp2_with fail
  refine (HZ0.out _).mono ?_
  rintro e w3 ⟨rfl, hb⟩
  have hW := hW.trans (hb.mono hW.size)
  clear hb HZ0
  go_wp2_with fail
  refine (HOF.out _).mono ?_
  rintro e w4 ⟨rfl, hb⟩
  have hW := hW.trans (hb.mono hW.size)
  clear hb
  go_wp2_with fail
  refine (HLN.out _).mono ?_
  rintro e w5 ⟨rfl, hb⟩
  have hW := hW.trans (hb.mono hW.size)
  clear hb HLN hz0
  go_wp2_with fail
  have hW := Lib.hid hW
  clear hd0 HOF
  go_loopw [5, 6, 33] (fun all list i wr => ∃ k : Nat, k ≤ ps.length ∧ i = .int .i64 (k : Int) ∧ Below w.heap.size w wr ∧ MineR byR wr w.heap.size all (ps.take k).flatten ∧ MineR nuR wr w.heap.size list ((ps.take k).map dn) ∧ (∀ p ∈ ps.take k, p.length ≤ 200)) (fun _ _ i _ => ps.length - (intOf i).toNat)
  case atStart => exact ⟨0, Nat.zero_le _, rfl, hW.out, .inl ⟨rfl, rfl⟩, .inl ⟨rfl, rfl⟩, fun p hp => by rw [List.take_zero] at hp; cases hp⟩
  case round =>
    obtain ⟨k, hk, rfl, hbe, MA, ML, h200⟩ := hrel
    obtain ⟨sa, ca, rfl⟩ := MA.slice
    obtain ⟨sl, cl, rfl⟩ := ML.slice
    by_cases hlt : k < ps.length
    · have hd : decide ((k : Int) < (ps.length : Int)) = true := decide_eq_true (by omega)
      have hd' : decide (k < ps.length) = true := decide_eq_true hlt
      obtain ⟨p, hp⟩ : ∃ p, ps[k]? = some p := ⟨_, List.getElem?_eq_getElem hlt⟩
      have hpm := List.mem_of_getElem? hp
      obtain ⟨pb, po, rfl, hpb, hP⟩ := hv (fun h => by rw [h] at hlt; simp at hlt)
      obtain ⟨pv, hcell, hbs⟩ := hP k p hp
      have hcell := (hbe.cell (p := ⟨pb, po + k, none⟩) hpb).trans hcell
      have HB0 := Lib.hid hbs
      have hbs := (hbs.keep hbe (Nat.le_refl _)).mono hbe.size
      have HBS := Lib.hid hbs
      obtain ⟨sp, cp, epv, _⟩ := hbs
      subst epv
      by_cases hpl' : 200 < p.length
      · have hd2 : decide ((200 : Int) < (p.length : Int)) = true := decide_eq_true (by omega)
        have hd2' : decide (200 < p.length) = true := decide_eq_true hpl'
        clear hP
        go_wp2_with fail
        go_ret
        exact ⟨rfl, hbe⟩
      have hpl : p.length ≤ 200 := by omega
      clear hpl'
      have h200' : ∀ q ∈ ps.take (k + 1), q.length ≤ 200 := by
        intro q hq
        rw [List.take_add_one, hp] at hq
        rcases List.mem_append.1 hq with hq | hq
        · exact h200 q hq
        · have hq' : q = p := by simpa using hq
          rw [hq']; exact hpl
      have HH := Lib.hid h200'
      clear h200'
      have hd2 : decide ((200 : Int) < (p.length : Int)) = false := decide_eq_false (by omega)
      have hd2' : decide (200 < p.length) = false := decide_eq_false (by omega)
      have hfl := take_le2 ps k h200 (by omega)
      have hml : ((ps.take k).map dn).length ≤ 10 := by rw [List.length_map, List.length_take]; omega
      obtain ⟨v2, W2, hrun2, M2, hb2, hbut⟩ := appR byR_ok (ps.take k).flatten p _ _ w.heap.size wr MA hbe.size (bs_byR HBS.out) (by omega)
      have hbs2 := HBS.out
      have ML2 := ML.but nu_by MA hbut
      have E1 := take_flat ps k p hp
      obtain ⟨yf, hyf⟩ : ∃ yf, yf = (ps.take (k + 1)).flatten := ⟨_, rfl⟩
      rw [← E1, ← hyf] at M2
      have HYF := Lib.hid hyf
      clear E1 hyf
      obtain ⟨s2, c2, rfl⟩ := M2.slice
      have hW2 := hbe.trans hb2
      have HE2 := Lib.hid (take_map ps k p hp)
      clear hP
      generalize hxf : (ps.take k).flatten = xf at *
      generalize hxm : (ps.take k).map dn = xm at *
      have hW3 := hW2.alloc hW2.size (.cells #[.slice sp p.length cp] 49)
      have HP3 := Lib.hid (parts_bs (xs := p) (u := 49) ((HB0.out.keep hW3 (Nat.le_refl _)).mono hW3.size) (Nat.le_refl _) (Bk.new W2 49 #[.slice sp p.length cp]))
      have HTW := Lib.hid (fun sp W h1 h2 => twice1 p sp 1 W h1 (by omega) h2)
      have HFD := Lib.hid (fun W => fromID_any (sha (sha p)) rfl (sha_lt _) W)
      go_wp2_with (refine wpList_appR (v1 := .slice sa xf.length ca) (v2 := .slice sp p.length cp) 49 rfl (.tmp 40) (.tmp 41) rfl rfl rfl rfl hrun2 ?_)
      refine (HTW.out _ _ (HLW.out _ hW3) HP3.out).mono ?_
      rintro e w7 ⟨rfl, hb⟩
      have M3 := (M2.keep (((Below.refl _ _).alloc (Nat.le_refl _) _).trans (hb.mono (by simp))))
      have ML3 := (ML2.keep (((Below.refl _ _).alloc (Nat.le_refl _) _).trans (hb.mono (by simp))))
      have hW7 := hW3.trans (hb.mono hW3.size)
      clear hb HP3 hW3 HTW M2 ML2 hcell
      go_wp2_with fail
      refine (HFD.out _).mono ?_
      rintro e w8 ⟨rfl, hb⟩
      have M3 := M3.keep hb
      have ML3 := ML3.keep hb
      have hW8 := hW7.trans (hb.mono hW7.size)
      clear hb HFD hW7
      change MineR byR w8 w.heap.size _ _ at M3
      have hmx : xm.length + 1 ≤ 1048576 := by omega
      have hdn : ofL (sha (sha p)) = dn p := rfl
      rw [hdn]
      generalize dn p = d at *
      have hA := (Below.refl w8.heap.size w8).alloc (Nat.le_refl _) (.cells #[.int .u64 (wd0 d : Int), .int .u64 (wd1 d : Int), .int .u64 (wd2 d : Int), .int .u64 (wd3 d : Int)] 44)
      have M4 := M3.keep hA
      have ML4 := ML3.keep hA
      have hW9 := hW8.alloc hW8.size (.cells #[.int .u64 (wd0 d : Int), .int .u64 (wd1 d : Int), .int .u64 (wd2 d : Int), .int .u64 (wd3 d : Int)] 44)
      obtain ⟨v5, W5, hrun5, M5, hb5, hbut5⟩ := appR nuR_ok xm [d] _ _ w.heap.size _ ML4 hW9.size (num_row (Bk.new w8 44 _)) hmx
      have MA5 := M4.but by_nu ML4 hbut5
      rw [← HE2.out] at M5
      obtain ⟨ym, hym⟩ : ∃ ym, ym = (ps.take (k + 1)).map dn := ⟨_, rfl⟩
      rw [← hym] at M5
      have HYM := Lib.hid hym
      clear hym HE2
      obtain ⟨s5, c5, rfl⟩ := M5.slice
      go_wp2_with (refine wpList_appR (v1 := .slice sl xm.length cl) (v2 := .slice (some ⟨w8.heap.size, 0, none⟩) 1 1) 50 rfl (.tmp 43) (.tmp 48) rfl rfl rfl rfl hrun5 ?_)
      go_roundw
      case rel => exact ⟨k + 1, by omega, by go_num, hW9.trans hb5, by rw [← HYF.out]; exact MA5, by rw [← HYM.out]; exact M5, HH.out⟩
      case measure => simp [intOf]; omega
    · obtain rfl : k = ps.length := by omega
      have hd : decide ((ps.length : Int) < (ps.length : Int)) = false := decide_eq_false (by omega)
      rw [List.take_length] at MA ML
      simp only [List.take_length]
      have hfl := take_le2 ps ps.length h200 h10
      rw [List.take_length] at hfl
      clear h200
      have hml : (ps.map dn).length ≤ 10 := by rw [List.length_map]; exact h10
      have hys : ∀ y ∈ ps.map dn, y < M256 := fun y hy => by obtain ⟨q, _, rfl⟩ := List.mem_map.1 hy; exact dn_lt q
      have hPV := hv.keep hbe
      have HSU := Lib.hid (sumv ps s c wr (HLW.out _ hbe) (by omega) (by omega) hPV)
      have hal : ∀ q ∈ ps.flatten, q < 256 := by
        have h := hPV
        intro q hq
        obtain ⟨xs, hxs, hxm⟩ := List.mem_flatten.1 hq
        obtain ⟨j, hj⟩ := List.mem_iff_getElem?.1 hxs
        obtain ⟨pb, po, _, _, hP⟩ := h (fun h => by rw [h] at hxs; cases hxs)
        obtain ⟨v, _, _, _, _, _, _, hx, _⟩ := hP j xs hj
        exact hx q hxm
      have MB := byR_bs (MA.rows byR_ok) hal
      have MR := ML.rows nuR_ok
      have HFR := Lib.hid (fun W => fromID_any (sha ps.flatten) rfl (sha_lt _) W)
      have hxn := sn_lt ps.flatten
      have HID := Lib.hid (fun W => ID_any (sn ps.flatten) W)
      rw [sn_back] at HID
      have HS1 := Lib.hid (fun sp W h1 h2 => sum1 ps.flatten sp 1 W h1 (by omega) h2)
      change Hid (∀ W, Calls Tryd.prog _ _ W fun e w' => e = .returned (nv (sn ps.flatten)) ∧ _) at HFR
      have hlq : (sha ps.flatten).length = 32 := rfl
      generalize sn ps.flatten = x at *
      generalize sha ps.flatten = q at *
      obtain ⟨fl, hfl0⟩ : ∃ fl, fl = ps.flatten := ⟨_, rfl⟩
      rw [← hfl0] at MA MB HS1 hfl hal ⊢
      clear hfl0 MA ML hPV
      generalize ps.map dn = ys at *
      have hW := Lib.hid hbe
      have hszE := hbe.size
      clear hbe
      go_wp2_with fail
      refine HSU.out.mono ?_
      rintro e w7 ⟨rfl, hb⟩
      have hE := hb
      clear hb HSU
      go_wp2_with fail
      refine (HFR.out _).mono ?_
      rintro e w8 ⟨rfl, hb⟩
      have hE := hE.trans (hb.mono hE.size)
      clear hb HFR
      go_upto_region 16 with fail
      refine wp_any (fun V => Below wr.heap.size wr V ∧ Bk V w8.heap.size 44 (A4 (wd0 x) (wd1 x) (wd2 x) (wd3 x))) ⟨hE.alloc hE.size _, Bk.new _ _ _⟩ ?_
      have hg9 := hE.size
      generalize w8.heap.size = g9 at *
      clear hE
      rintro V ⟨hE, X9⟩
      obtain ⟨a0, a1, a2, a3, a4, a5, a6, a7, za⟩ := X9.f4
      go_wp2_with fail
      refine (HID.out _).mono ?_
      rintro e w9 ⟨rfl, hb⟩
      have X9 := X9.keep hb
      have hE := hE.trans (hb.mono hE.size)
      clear hb HID a0 a1 a2 a3 a4 a5 a6 a7 za
      have hE2 := hE.alloc hE.size (.cells #[.slice sa fl.length ca] 49)
      have HC := Lib.hid (HS1.out _ _ (HLW.out _ (hW.out.trans (hE2.mono hszE))) (parts_bs (xs := fl) (u := 49) ((MB.keep hE2 (Nat.le_refl _)).mono hE2.size) (Nat.le_refl _) (Bk.new w9 49 #[.slice sa fl.length ca])))
      have X9 := X9.alloc (.cells #[.slice sa fl.length ca] 49)
      clear HS1 hE
      go_wp2_with fail
      refine HC.out.mono ?_
      rintro e w10 ⟨rfl, hb⟩
      have X9 := X9.keep hb
      have hE := hE2.trans (hb.mono hE2.size)
      have heq : ∀ W, (Op.equalIn 10000 23 (.agg (idA q)) (.agg (idA q))).run Tryd.prog W = .ok true W := fun W => idself q hlq W
      clear hb HC hE2
      have HAD := Lib.hid (add_row ys (.slice sl ys.length cl) w10 (by omega) hys ((MR.keep hE (Nat.le_refl _)).mono hE.size))
      go_wp2_with fail
      refine HAD.out.mono ?_
      rintro e w11 ⟨bb, rfl, hb⟩
      have X9 := X9.keep hb
      have hE := hE.trans (hb.mono hE.size)
      clear hb HAD heq
      have hss : ys.sum % M256 < M256 := Nat.mod_lt _ M256_pos
      obtain ⟨S, hS⟩ : ∃ S, S = ys.sum % M256 := ⟨_, rfl⟩
      rw [← hS] at hss ⊢
      have HSS := Lib.hid hS
      clear hS
      go_upto_region 19 with fail
      obtain ⟨wE, hwE⟩ : ∃ z : World, z = wr := ⟨_, rfl⟩
      subst hwE
      refine wp_any (fun V => Below wE.heap.size wE V ∧ Bk V g9 44 (A4 (wd0 x) (wd1 x) (wd2 x) (wd3 x)) ∧ Bk V w11.heap.size 44 (A4 (wd0 S) (wd1 S) (wd2 S) (wd3 S))) ⟨hE.alloc hE.size _, X9.alloc _, Bk.new _ _ _⟩ ?_
      have hg10 := hE.size
      have hg910 : g9 < w11.heap.size := X9.lt
      generalize w11.heap.size = g10 at *
      clear hE X9
      rintro V ⟨hE, X9, X10⟩
      have hml2 := hml
      go_wp2_with fail
      go_loopw [67] (fun i W' => ∃ k r : Nat, k ≤ ys.length ∧ i = .int .i64 (k : Int) ∧ Below wE.heap.size wE W' ∧ Bk W' g9 44 (A4 (wd0 x) (wd1 x) (wd2 x) (wd3 x)) ∧ Bk W' g10 44 (A4 (wd0 r) (wd1 r) (wd2 r) (wd3 r)) ∧ r < M256 ∧ Hid ((r + (ys.take k).sum) % M256 = ys.sum % M256)) (fun i _ => ys.length - (intOf i).toNat)
      case atStart => exact ⟨0, S, Nat.zero_le _, rfl, hE, X9, X10, hss, by show _ = _; rw [List.take_zero, List.sum_nil, Nat.add_zero, Nat.mod_eq_of_lt hss]; exact HSS.out⟩
      case round =>
        obtain ⟨k, r, hk, rfl, hE, X9, X10, hr, HR⟩ := hrel
        by_cases hlt : k < ys.length
        · have hd : decide ((k : Int) < (ys.length : Int)) = true := decide_eq_true (by omega)
          have hd' : decide (k < ys.length) = true := decide_eq_true hlt
          obtain ⟨y, hy⟩ : ∃ y, ys[k]? = some y := ⟨_, List.getElem?_eq_getElem hlt⟩
          have hym := hys y (List.mem_of_getElem? hy)
          obtain ⟨b, o, rfl, hb0, _, hc0⟩ := MR.at_ (fun h => by rw [h] at hlt; simp at hlt)
          obtain ⟨c0, c1, c2, c3⟩ := nuR_nums hc0 k y hy
          have c0 := (hE.cell (p := ⟨b, o + k * 4, none⟩) hb0).trans c0
          have c1 := (hE.cell (p := ⟨b, o + k * 4 + 1, none⟩) hb0).trans c1
          have c2 := (hE.cell (p := ⟨b, o + k * 4 + 2, none⟩) hb0).trans c2
          have c3 := (hE.cell (p := ⟨b, o + k * 4 + 3, none⟩) hb0).trans c3
          obtain ⟨s0', s1, s2, s3, s4, s5, s6, s7, zs⟩ := X10.f4
          have HSB := Lib.hid (fun W => sub_any r y W hr hym)
          have HN := Lib.hid (show ((r + M256 - y) % M256 + (ys.take (k + 1)).sum) % M256 = ys.sum % M256 by rw [take_sum ys k y hy, sub_step r y _ hym]; exact HR.out)
          have hrr : (r + M256 - y) % M256 < M256 := Nat.mod_lt _ M256_pos
          generalize (r + M256 - y) % M256 = r' at *
          generalize decide (r < y) = bo at *
          clear hc0
          go_wp2_with fail
          refine (HSB.out _).mono ?_
          rintro e w12 ⟨rfl, hb⟩
          have X9 := (X9.alloc (.cells #[.int .u64 (wd0 y : Int), .int .u64 (wd1 y : Int), .int .u64 (wd2 y : Int), .int .u64 (wd3 y : Int)] 44)).keep hb
          have X10 := (X10.alloc (.cells #[.int .u64 (wd0 y : Int), .int .u64 (wd1 y : Int), .int .u64 (wd2 y : Int), .int .u64 (wd3 y : Int)] 44)).keep hb
          have hE1 := hE.alloc hE.size (.cells #[.int .u64 (wd0 y : Int), .int .u64 (wd1 y : Int), .int .u64 (wd2 y : Int), .int .u64 (wd3 y : Int)] 44)
          have hE1 := hE1.trans (hb.mono hE1.size)
          clear hb HSB c0 c1 c2 c3 s0' s1 s2 s3 s4 s5 s6 s7 zs hE
          obtain ⟨s0', s1, s2, s3, s4, s5, s6, s7, zs⟩ := X10.f4
          go_wp2_with fail
          go_roundw
          case rel => exact ⟨k + 1, r', by omega, by go_num, Below.set4 hE1 hg10 _ _ _ _, X9.far4 (by omega) _ _ _ _, X10.set4 _ _ _ _, hrr, HN.out⟩
          case measure => simp [intOf]; omega
        · obtain rfl : k = ys.length := by omega
          have hd : decide ((ys.length : Int) < (ys.length : Int)) = false := decide_eq_false (by omega)
          have hR0 := HR.out
          rw [List.take_length] at hR0
          obtain rfl : r = 0 := sub_end r _ hr hR0
          have HMU := Lib.hid (fun W => mul_any x n W hxn hn)
          have hpM : x * n % M256 < M256 := Nat.mod_lt _ M256_pos
          have hp0 : n = 0 → x * n % M256 = 0 := fun h => by rw [h, Nat.mul_zero, Nat.zero_mod]
          have hp1 : ¬ M256 ≤ x * n → x * n % M256 = x * n := fun h => Nat.mod_eq_of_lt (by omega)
          have HP0 := Lib.hid hp0
          have HP1 := Lib.hid hp1
          obtain ⟨ov, hov⟩ : ∃ ov, ov = decide (M256 ≤ x * n) := ⟨_, rfl⟩
          rw [← hov] at HMU
          have HOV := Lib.hid hov
          clear hov hp0 hp1 hR0 HR
          generalize x * n % M256 = p at *
          obtain ⟨a0, a1, a2, a3, a4, a5, a6, a7, za⟩ := X9.f4
          go_wp2_with fail
          refine (HMU.out _).mono ?_
          rintro e w13 ⟨rfl, hb⟩
          have X9 := X9.keep hb
          have X10 := X10.keep hb
          have hE := hE.trans (hb.mono hE.size)
          clear hb HMU a0 a1 a2 a3 a4 a5 a6 a7 za
          go_upto_region 25 with fail
          refine wp_any (fun V => Below wE.heap.size wE V ∧ Bk V g9 44 (A4 (wd0 x) (wd1 x) (wd2 x) (wd3 x)) ∧ Bk V g10 44 (A4 (wd0 0) (wd1 0) (wd2 0) (wd3 0)) ∧ Bk V w13.heap.size 44 (A4 (wd0 p) (wd1 p) (wd2 p) (wd3 p))) ⟨hE.alloc hE.size _, X9.alloc _, X10.alloc _, Bk.new _ _ _⟩ ?_
          have hg14 := hE.size
          generalize w13.heap.size = g14 at *
          clear hE X9 X10
          rintro V ⟨hE, X9, X10, X14⟩
          have HZZ := Lib.hid (fun W => zero_any 0 W M256_pos)
          have HZP := Lib.hid (fun W => zero_any p W hpM)
          obtain ⟨s0', s1, s2, s3, s4, s5, s6, s7, zs⟩ := X10.f4
          go_wp2_with fail
          refine (HZZ.out _).mono ?_
          rintro e w14 ⟨rfl, hb⟩
          have X9 := X9.keep hb
          have X14 := X14.keep hb
          have hE := hE.trans (hb.mono hE.size)
          clear hb X10 s0' s1 s2 s3 s4 s5 s6 s7 zs
          obtain ⟨p0, p1, p2, p3, p4, p5, p6, p7, zp⟩ := X14.f4
          by_cases hn0 : n = 0
          · have hpz := HP0.out hn0
            subst hpz hn0
            clear HOV HP0 HP1
            go_wp2_with fail
            refine (HZZ.out _).mono ?_
            rintro e w15 ⟨rfl, hb⟩
            have hE := hE.trans (hb.mono hE.size)
            clear hb
            cases ov
            all_goals
              go_wp2_with fail
              go_ret
              exact ⟨rfl, hW.out.trans (hE.mono hszE)⟩
          · have hn1 : decide ((n : Int) = 0) = false := decide_eq_false (by omega)
            have hn2 : decide (n = 0) = false := decide_eq_false hn0
            cases ov
            case true =>
              go_wp2_with fail
              go_ret
              exact ⟨rfl, hW.out.trans (hE.mono hszE)⟩
            case false =>
              have hnM : n < M256 := Nat.lt_trans hn (by decide +kernel)
              have hov := HOV.out
              have hno : ¬ M256 ≤ x * n := of_decide_eq_false hov.symm
              have hpx := HP1.out hno
              have HOF2 := Lib.hid (fun W => of_any n W hn)
              have HD2 := Lib.hid (fun W => div_any p n W hpM hnM (by omega))
              have hqx : p / n = x := by rw [hpx]; exact Nat.mul_div_cancel _ (by omega)
              have hrz : p % n = 0 := by rw [hpx]; exact Nat.mul_mod_left _ _
              obtain ⟨qq, hqq⟩ : ∃ qq, qq = p / n := ⟨_, rfl⟩
              obtain ⟨rm, hrm⟩ : ∃ rm, rm = p % n := ⟨_, rfl⟩
              rw [← hqq] at HD2 hqx
              rw [← hrm] at HD2 hrz
              have HQX := Lib.hid hqx
              have HRZ := Lib.hid hrz
              clear hqq hrm hqx hrz hpx hno hov HOV HP0 HP1 HZZ HZP
              go_upto_region 29 with fail
              generalize w14 = W at *
              go_cut [16, 17] (fun s16 s17 wx => ∃ g16 g17 : Nat, s16 = .pointer (some ⟨g16, 0, none⟩) ∧ s17 = .pointer (some ⟨g17, 0, none⟩) ∧ Below W.heap.size W wx ∧ Bk wx g16 44 (A4 (wd0 qq) (wd1 qq) (wd2 qq) (wd3 qq)) ∧ Bk wx g17 44 (A4 (wd0 rm) (wd1 rm) (wd2 rm) (wd3 rm)))
              case first =>
                go_region_held3 (fun w' => w'.cell? ⟨g14, 0, none⟩ = some (.int .u64 (wd0 p : Int)) ∧ w'.cell? ⟨g14, 1, none⟩ = some (.int .u64 (wd1 p : Int)) ∧ w'.cell? ⟨g14, 2, none⟩ = some (.int .u64 (wd2 p : Int)) ∧ w'.cell? ⟨g14, 3, none⟩ = some (.int .u64 (wd3 p : Int)))
                  ((refine ⟨?_, ?_, ?_, ?_⟩; (focus (refine cellS (w := W) ?_ p0; repeat' (first | with_reducible exact Below.refl _ _ | with_reducible assumption | with_reducible refine Below.drew ?_ | with_reducible refine Below.setCell ?_ ?_ _ | with_reducible refine Below.alloc ?_ ?_ _ | with_reducible exact Nat.le_refl _ | omega | (simp; done) | (simp; omega) | (simp [World.drew]; done) | (simp [World.drew]; omega)))); (focus (refine cellS (w := W) ?_ p1; repeat' (first | with_reducible exact Below.refl _ _ | with_reducible assumption | with_reducible refine Below.drew ?_ | with_reducible refine Below.setCell ?_ ?_ _ | with_reducible refine Below.alloc ?_ ?_ _ | with_reducible exact Nat.le_refl _ | omega | (simp; done) | (simp; omega) | (simp [World.drew]; done) | (simp [World.drew]; omega)))); (focus (refine cellS (w := W) ?_ p2; repeat' (first | with_reducible exact Below.refl _ _ | with_reducible assumption | with_reducible refine Below.drew ?_ | with_reducible refine Below.setCell ?_ ?_ _ | with_reducible refine Below.alloc ?_ ?_ _ | with_reducible exact Nat.le_refl _ | omega | (simp; done) | (simp; omega) | (simp [World.drew]; done) | (simp [World.drew]; omega)))); (focus (refine cellS (w := W) ?_ p3; repeat' (first | with_reducible exact Below.refl _ _ | with_reducible assumption | with_reducible refine Below.drew ?_ | with_reducible refine Below.setCell ?_ ?_ _ | with_reducible refine Below.alloc ?_ ?_ _ | with_reducible exact Nat.le_refl _ | omega | (simp; done) | (simp; omega) | (simp [World.drew]; done) | (simp [World.drew]; omega))))))
                  (first
                  | (go_at_call 22
                     refine (HOF2.out _).mono ?_
                     rintro e w5 ⟨rfl, hb5⟩
                     have hE5 : Below W.heap.size W w5 := by
                       refine below_step ?_ ?_ hb5
                       · repeat' (first | with_reducible exact Below.refl _ _ | with_reducible assumption | with_reducible refine Below.drew ?_ | with_reducible refine Below.setCell ?_ ?_ _ | with_reducible refine Below.alloc ?_ ?_ _ | with_reducible exact Nat.le_refl _ | omega | (simp; done) | (simp; omega) | (simp [World.drew]; done) | (simp [World.drew]; omega))
                       · first | omega | (simp; done) | (simp; omega) | (simp [World.drew]; done) | (simp [World.drew]; omega)
                     have z5 := hE5.size
                     try (refine with_fact (p := Bk w5 (W.heap.size) 44 #[.int .u64 0, .int .u64 0, .int .u64 0, .int .u64 0]) ?_ ?_; (focus (refine Bk.keep ?_ hb5; (first | exact Bk.new _ _ _ | exact (Bk.new _ _ _).drew | exact (Bk.new _ _ _).alloc _ | exact ((Bk.new _ _ _).alloc _).drew); done)); intro N5a; obtain ⟨n5a0, n5a1, n5a2, n5a3, n5a4, n5a5, n5a6, n5a7, n5a8⟩ := N5a.f4)
                     try (refine with_fact (p := Bk w5 (W.heap.size + 1) 44 #[.int .u64 0, .int .u64 0, .int .u64 0, .int .u64 0]) ?_ ?_; (focus (refine Bk.keep ?_ hb5; (first | (refine Bk.new' _ _ _ ?_; (simp; done)) | (refine Bk.drew (Bk.new' _ _ _ ?_); (simp; done))); done)); intro N5b; obtain ⟨n5b0, n5b1, n5b2, n5b3, n5b4, n5b5, n5b6, n5b7, n5b8⟩ := N5b.f4))
                  | (go_at_call 28
                     refine (HD2.out _).mono ?_
                     rintro e w6 ⟨rfl, hb6⟩
                     have hE6 : Below W.heap.size W w6 := by
                       refine below_step ?_ ?_ hb6
                       · repeat' (first | with_reducible exact Below.refl _ _ | with_reducible assumption | with_reducible refine Below.drew ?_ | with_reducible refine Below.setCell ?_ ?_ _ | with_reducible refine Below.alloc ?_ ?_ _ | with_reducible exact Nat.le_refl _ | omega | (simp; done) | (simp; omega) | (simp [World.drew]; done) | (simp [World.drew]; omega))
                       · first | omega | (simp; done) | (simp; omega) | (simp [World.drew]; done) | (simp [World.drew]; omega)
                     have z6 := hE6.size
                     try (refine with_fact (p := Bk w6 (W.heap.size) 44 #[.int .u64 0, .int .u64 0, .int .u64 0, .int .u64 0]) ?_ ?_; (focus (refine Bk.keep ?_ hb6; (first | exact N5a | exact N5a.alloc _ | exact (N5a.alloc _).alloc _); done)); intro N6a; obtain ⟨n6a0, n6a1, n6a2, n6a3, n6a4, n6a5, n6a6, n6a7, n6a8⟩ := N6a.f4)
                     try (refine with_fact (p := Bk w6 (W.heap.size + 1) 44 #[.int .u64 0, .int .u64 0, .int .u64 0, .int .u64 0]) ?_ ?_; (focus (refine Bk.keep ?_ hb6; (first | exact N5b | exact N5b.alloc _ | exact (N5b.alloc _).alloc _); done)); intro N6b; obtain ⟨n6b0, n6b1, n6b2, n6b3, n6b4, n6b5, n6b6, n6b7, n6b8⟩ := N6b.f4)
                     try (refine with_fact (p := Bk w6 (w5.heap.size) 44 #[.int .u64 0, .int .u64 0, .int .u64 0, .int .u64 0]) ?_ ?_; (focus (refine Bk.keep ?_ hb6; (first | exact Bk.new _ _ _ | exact (Bk.new _ _ _).alloc _); done)); intro N6c; obtain ⟨n6c0, n6c1, n6c2, n6c3, n6c4, n6c5, n6c6, n6c7, n6c8⟩ := N6c.f4)
                     try (refine with_fact (p := Bk w6 (w5.heap.size + 1) 44 #[.int .u64 0, .int .u64 0, .int .u64 0, .int .u64 0]) ?_ ?_; (focus (refine Bk.keep ?_ hb6; (refine Bk.new' _ _ _ ?_; (simp; done)); done)); intro N6d; obtain ⟨n6d0, n6d1, n6d2, n6d3, n6d4, n6d5, n6d6, n6d7, n6d8⟩ := N6d.f4)))
                all_goals
                  go_wp2_with fail
                  go_meet
                  refine ⟨_, _, rfl, rfl, ?_, ?_, ?_⟩
                  · repeat' (first | with_reducible exact Below.refl _ _ | with_reducible assumption | with_reducible refine Below.drew ?_ | with_reducible refine Below.setCell ?_ ?_ _ | with_reducible refine Below.alloc ?_ ?_ _ | with_reducible exact Nat.le_refl _ | omega | (simp; done) | (simp; omega) | (simp [World.drew]; done) | (simp [World.drew]; omega))
                  · change Bk _ _ _ #[Value.int .u64 (wd0 qq : Int), .int .u64 (wd1 qq : Int), .int .u64 (wd2 qq : Int), .int .u64 (wd3 qq : Int)]
                    first
                      | with_reducible exact Bk.new _ _ _
                      | (with_reducible refine Bk.new' _ _ _ ?_; (simp; done))
                      | repeat' (first | with_reducible exact Bk.new _ _ _ | with_reducible exact N6a.set4 _ _ _ _ | with_reducible exact N6b.set4 _ _ _ _ | with_reducible exact N6c.set4 _ _ _ _ | with_reducible exact N6d.set4 _ _ _ _ | with_reducible exact N6a | with_reducible exact N6b | with_reducible exact N6c | with_reducible exact N6d | with_reducible refine Bk.set4 (a := .int .u64 0) (b := .int .u64 0) (c := .int .u64 0) (d := .int .u64 0) ?_ _ _ _ _ | with_reducible refine Bk.far4 ?_ ?_ _ _ _ _ | with_reducible refine Bk.alloc ?_ _ | omega | (simp; done) | (simp; omega))
                  · change Bk _ _ _ #[Value.int .u64 (wd0 rm : Int), .int .u64 (wd1 rm : Int), .int .u64 (wd2 rm : Int), .int .u64 (wd3 rm : Int)]
                    first
                      | with_reducible exact Bk.new _ _ _
                      | (with_reducible refine Bk.new' _ _ _ ?_; (simp; done))
                      | repeat' (first | with_reducible exact Bk.new _ _ _ | with_reducible exact N6a.set4 _ _ _ _ | with_reducible exact N6b.set4 _ _ _ _ | with_reducible exact N6c.set4 _ _ _ _ | with_reducible exact N6d.set4 _ _ _ _ | with_reducible exact N6a | with_reducible exact N6b | with_reducible exact N6c | with_reducible exact N6d | with_reducible refine Bk.set4 (a := .int .u64 0) (b := .int .u64 0) (c := .int .u64 0) (d := .int .u64 0) ?_ _ _ _ _ | with_reducible refine Bk.far4 ?_ ?_ _ _ _ _ | with_reducible refine Bk.alloc ?_ _ | omega | (simp; done) | (simp; omega))
              case rest =>
                obtain ⟨g16, g17, rfl, rfl, hbc, XQ, XR⟩ := hcut
                have X9 := X9.keep hbc
                have hE := hE.trans (hbc.mono hE.size)
                obtain rfl : qq = x := HQX.out
                obtain rfl : rm = 0 := HRZ.out
                have HZZ := Lib.hid (fun W => zero_any 0 W M256_pos)
                have heq := nv_eql qq qq hxn hxn
                simp only [decide_true] at heq
                clear hbc p0 p1 p2 p3 p4 p5 p6 p7 zp
                obtain ⟨p0, p1, p2, p3, p4, p5, p6, p7, zp⟩ := XQ.f4
                obtain ⟨r0, r1, r2, r3, r4, r5, r6, r7, zr⟩ := XR.f4
                obtain ⟨a0, a1, a2, a3, a4, a5, a6, a7, za⟩ := X9.f4
                go_wp2_with fail
                refine (HZZ.out _).mono ?_
                rintro e w15 ⟨rfl, hb⟩
                have hE := hE.trans (hb.mono hE.size)
                clear hb
                go_wp2_with fail
                go_ret
                exact ⟨rfl, hW.out.trans (hE.mono hszE)⟩

set_option maxRecDepth 100000 in
set_option maxHeartbeats 1000000 in
theorem walk_big (m : Nat) (n : Nat) (s : Option Addr) (c : Nat) (w : World) (hL : Laid w) (hn : n < B64) (h10 : 10 < m) :
    Calls Tryd.prog 9 #[.slice s m c, .int .u64 (n : Int)] w fun e w' => e = .returned (.bool true) ∧ Below w.heap.size w w' := by
  have HL := Lib.hid hL
  have HLW := Lib.hid (fun W (h : Below w.heap.size w W) => hL.below h hL.size)
  have HSN := Lib.hid (fun W (h : Laid W) => sum0 0 W h)
  have HF0 := Lib.hid (fun W => fromID_any (sha []) rfl (sha_lt []) W)
  have HZ0 := Lib.hid (fun W => zero_any (sn []) W (sn_lt []))
  have HOF := Lib.hid (fun W => of_any n W hn)
  have hbl : blen n ≤ 64 := blen64 n hn
  have HLN := Lib.hid (fun W => len_any n W (Nat.lt_trans hn (by decide +kernel)))
  have hd0 : decide ((64 : Int) < (blen n : Int)) = false := decide_eq_false (by omega)
  have hz0 : decide (sn [] = 0) = false := decide_eq_false sn_none
  rw [hz0] at HZ0
  have hd1 : decide ((10 : Int) < (m : Int)) = true := decide_eq_true (by omega)
  have hd1' : decide (10 < m) = true := decide_eq_true h10
  clear hL
  change Hid (∀ W, Calls Tryd.prog _ _ W fun e w' => e = .returned (nv (sn [])) ∧ _) at HF0
  generalize sn [] = s0 at *
  generalize sha [] = h0 at *
  generalize blen n = bl at *
  go_enter Tryd.func9, Tryd.ntmps9
  go_wp2_with fail
  refine (HSN.out _ HL.out).mono ?_
  rintro e w1 ⟨rfl, hb1⟩
  have hW := hb1
  clear hb1 HSN
  go_wp2_with fail
  refine (HF0.out _).mono ?_
  rintro e w2 ⟨rfl, hb⟩
  have hW := hW.trans (hb.mono hW.size)
  clear hb HF0
  go_wp2_with fail
  refine (HZ0.out _).mono ?_
  rintro e w3 ⟨rfl, hb⟩
  have hW := hW.trans (hb.mono hW.size)
  clear hb HZ0
  go_wp2_with fail
  refine (HOF.out _).mono ?_
  rintro e w4 ⟨rfl, hb⟩
  have hW := hW.trans (hb.mono hW.size)
  clear hb
  go_wp2_with fail
  refine (HLN.out _).mono ?_
  rintro e w5 ⟨rfl, hb⟩
  have hW := hW.trans (hb.mono hW.size)
  clear hb HLN hz0
  go_wp2_with fail
  go_ret
  exact ⟨rfl, hW⟩
theorem walk (v : Value) (n : Nat) (w : World) (hL : Laid w) (hn : n < B64) (hv : ∃ (s : Option Addr) (cap : Nat) (ps : List (List Nat)), v = .slice s ps.length cap ∧ ps.length ≤ cap ∧ cap < 9223372036854775808 ∧ PartsV w s ps) :
    Calls Tryd.prog 9 #[v, .int .u64 (n : Int)] w fun e w' => e = .returned (.bool true) ∧ Below w.heap.size w w' := by
  obtain ⟨s, c, ps, rfl, h1, h2, h3⟩ := hv
  by_cases h : 10 < ps.length
  · exact walk_big _ n s c w hL hn h
  · exact walk_inn ps n s c w hL ⟨h1, h2⟩ h3 hn (by omega)

end Go.Proofs.YtkkkfcdoilojmaaDoor.wholeNumbers
