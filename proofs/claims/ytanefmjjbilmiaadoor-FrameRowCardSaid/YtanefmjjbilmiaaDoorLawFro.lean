/-
  What is proved: for every slice of texts, every slice of slices of bytes and every slice of whole numbers the law FrameRow returns true, and its arguments read behind the call as they read before it; the two listed tables of package hash are taken to hold what the program's text lays in them, and the card ties them to it.
-/
import Derived.Test.YtanefmjjbilmiaaDoorFroR
import Derived.Test.YtanefmjjbilmiaaDoorTie
import Derived.Test.YtanefmjjbilmiaaDoorCards
import Derived.Stop.Joined
namespace Go.Proofs.YtanefmjjbilmiaaDoor.frameRow
open Go.ChangeShapes Go.WideShapes Go.ChangeAt Go.RowKit
set_option linter.unusedVariables false

theorem own : ownKnob Tryd.prog.godebug = none := by kernel_rfl
theorem laidOut : laidOutB Tryd.prog = true := by kernel_rfl
theorem wf_i64 {z : Int} (h : (Lit.int .i64 z).wf = true) : -9223372036854775808 ≤ z ∧ z ≤ 9223372036854775807 := by
  simp [Lit.wf, IntKind.min, IntKind.max, IntKind.signed, IntKind.bits] at h
  omega
set_option maxRecDepth 100000
set_option linter.unusedSimpArgs false
def sepL (p : List Nat × List Nat) : List Nat := p.1 ++ [58] ++ p.2
structure RowInv (w wr : World) (F : List (List Nat × List Nat)) (vb vw : Value) : Prop where
  good : ∀ p ∈ F, WordOk p.1 ∧ p.2.length ≤ 300 ∧ ∀ x ∈ p.2, x < 256
  b : Mine wr w.heap.size vb (encAll F)
  want : MineR strR wr w.heap.size vw (F.map sepL)
  bel : Below w.heap.size w wr
theorem strN_colon : strN [58] = ⟨#[58]⟩ := by decide +kernel
theorem wpList_appI {ops : Array Oper} {rest : List Oper} {o : Oper} {a : Act} {w W : World} {Q : Exit → Act → World → Prop} {v1 v2 v : Value} (t : TypeId) (hg : o.guard = none) (s x : Operand)
    (hop : o.op = Op.call { callee := Callee.builtin Builtin.append, args := #[s, x], argTypes := #[t, t] }) (hty : o.type = t) (hs : a.eval s = v1) (hx : a.eval x = v2)
    (hrun : (Builtin.append_ #[t, t] t #[v1, v2]).run Tryd.prog w = .ok v W) (hK : wpList Tryd.prog ops Q rest (a.put o.dst v) W) : wpList Tryd.prog ops Q (o :: rest) a w := wpList_appG t hg s x hop hty hs hx hrun hK
theorem cells_madeF {W : World} {lo : Nat} {v : Value} {s : Option Addr} {n c : Nat} {L : List FrM} (h : MadeM W lo v (.slice s n c) L) (i : Nat) (x : FrM) (hx : L[i]? = some x) : ∃ b, s = some ⟨b, 0, none⟩ ∧ b < W.heap.size ∧ W.cell? ⟨b, i * 2, none⟩ = some (.string (strN x.wd)) ∧ W.cell? ⟨b, i * 2 + 1, none⟩ = some x.dv := by
  rcases h.1 with ⟨_, rfl⟩ | ⟨T, cap, z, e, hc, hc2, hT, K⟩
  · simp at hx
  · injection e with e1 e2 e3
    subst e1
    have h0 := rowr_row frR_ok K i x hx 0 _ rfl
    have h1 := rowr_row frR_ok K i x hx 1 _ rfl
    have e : 0 + i * frR.k = i * 2 := by rw [Nat.zero_add]; rfl
    rw [e] at h0 h1
    exact ⟨T, rfl, K.lt, h0, h1⟩
theorem cells_str {W : World} {lo : Nat} {s : Option Addr} {n c : Nat} {L : List (List Nat)} (h : MineR strR W lo (.slice s n c) L) (i : Nat) (x : List Nat) (hx : L[i]? = some x) : ∃ b, s = some ⟨b, 0, none⟩ ∧ b < W.heap.size ∧ W.cell? ⟨b, i, none⟩ = some (.string (strN x)) := by
  rcases h with ⟨_, rfl⟩ | ⟨T, cap, z, e, hc, hc2, hT, K⟩
  · simp at hx
  · injection e with e1 e2 e3
    subst e1
    have h0 := rowr_row strR_ok K i x hx 0 _ rfl
    have e : 0 + i * strR.k + 0 = i := by show 0 + i * 1 + 0 = i; omega
    rw [e] at h0
    exact ⟨T, rfl, K.lt, h0⟩
set_option maxHeartbeats 16000000 in
theorem walk (WL : List (List Nat)) (cs : List Int) (v0 v1 v2 : Value) (w : World) (hL : Laid w) (hw : RowV strR w w.heap.size v0 WL) (hwx : ∀ l ∈ WL, ∀ x ∈ l, x < 256)
    (hd : ∃ (s : Option Addr) (cap : Nat) (ps : List (List Nat)), v1 = .slice s ps.length cap ∧ ps.length ≤ cap ∧ cap < 9223372036854775808 ∧ PartsV w s ps)
    (hc : RowV intR w w.heap.size v2 cs) (hci : ∀ z ∈ cs, -9223372036854775808 ≤ z ∧ z ≤ 9223372036854775807) :
    Calls Tryd.prog 7 #[v0, v1, v2] w fun e w' => e = .returned (.bool true) ∧ Below w.heap.size w w' := by
  have HFR := Lib.hid (frames_any w hL)
  have HL := Lib.hid hL
  obtain ⟨sd, cd, DL, rfl, _, _, hdp⟩ := hd
  obtain ⟨sw, cw, rfl⟩ := hw.slice
  obtain ⟨sc, cc, rfl⟩ := hc.slice
  have HW := Lib.hid hw
  have HWX := Lib.hid hwx
  have HDP := Lib.hid hdp
  have HEN : Hid (∀ (x b : List Nat) s n c W, Below w.heap.size w W → (∀ y ∈ x, y < 256) → b.length ≤ 300 → BsV W W.heap.size (.slice s n c) b → Calls Tryd.prog 17 #[.agg #[.string (strN x), .slice s n c]] W fun r w' => EncPost W w' x b r) := fun x b s n c W hW hx hl hb => fencode_any x b s n c W (hL.below hW hL.size) hx hb (by omega)
  have HFED : Hid (∀ B s n c W, Below w.heap.size w W → BsV W W.heap.size (.slice s n c) B → B.length ≤ 10000 → cs.length ≤ 100 → Calls Tryd.prog 23 #[.slice s n c, .slice sc cs.length cc] W fun r w' => FedPost W w' B r) := fun B s n c W hW hb h1 h2 => fed_any B cs _ _ W (hL.below hW hL.size) hb ((hc.keep hW (Nat.le_refl _)).mono hW.size) hci (by omega) (by omega)
  obtain ⟨nw, hnw⟩ : ∃ n, n = WL.length := ⟨_, rfl⟩
  obtain ⟨nd, hnd⟩ : ∃ n, n = DL.length := ⟨_, rfl⟩
  obtain ⟨nc, hnc⟩ : ∃ n, n = cs.length := ⟨_, rfl⟩
  rw [← hnw] at HW
  rw [← hnc] at HFED
  rw [← hnw, ← hnd, ← hnc]
  have HNW := Lib.hid hnw
  have HND := Lib.hid hnd
  clear hL hw hwx hdp hc hci hnw hnd hnc
  go_enter Tryd.func7, Tryd.ntmps7
  go_wp2_with fail
  refine HFR.out.mono ?_
  rintro e w1 ⟨rfl, hb1⟩
  have HW1 := Lib.hid hb1
  clear hb1 HFR
  by_cases h1 : 10 < nw
  · have q1 : decide ((10 : Int) < (nw : Int)) = true := decide_eq_true (by omega)
    clear h1
    go_wp2_with fail
    go_ret
    exact ⟨rfl, HW1.out⟩
  have q1 : decide ((10 : Int) < (nw : Int)) = false := decide_eq_false (by omega)
  by_cases h2 : nd ≠ nw
  · have q2 : ((nd : Int) != (nw : Int)) = true := by rw [bne_iff_ne]; omega
    clear h1 h2
    go_wp2_with fail
    go_ret
    exact ⟨rfl, HW1.out⟩
  have h2 : nd = nw := by omega
  subst h2
  have q2 : ((nd : Int) != (nd : Int)) = false := by simp
  by_cases h3 : 60 < nc
  · have q3 : decide ((60 : Int) < (nc : Int)) = true := decide_eq_true (by omega)
    clear h1 h3
    go_wp2_with fail
    go_ret
    exact ⟨rfl, HW1.out⟩
  have q3 : decide ((60 : Int) < (nc : Int)) = false := decide_eq_false (by omega)
  have H10 := Lib.hid (show nd ≤ 10 ∧ nc ≤ 60 by omega)
  clear h1 h3
  have HST : Hid (RowInv w w1 [] (.slice none 0 0) (.slice none 0 0)) := ⟨by simp, .inl ⟨rfl, rfl⟩, .inl ⟨rfl, rfl⟩, HW1.out⟩
  clear HW1
  go_wp2_with fail
  go_loopw [7, 8, 37] (fun bv wv iv wr => ∃ (i : Nat) (F : List (List Nat × List Nat)) (sb : Option Addr) (nb cb : Nat) (ss : Option Addr) (ns css : Nat), i ≤ nd ∧ F.length ≤ i ∧ iv = .int .i64 (i : Int) ∧ bv = .slice sb nb cb ∧ wv = .slice ss ns css ∧ Hid (RowInv w wr F (.slice sb nb cb) (.slice ss ns css))) (fun _ _ iv _ => nd - (intOf iv).toNat)
  case atStart => exact ⟨0, [], none, 0, 0, none, 0, 0, Nat.zero_le _, Nat.le_refl _, rfl, rfl, rfl, HST.out⟩
  case round =>
    obtain ⟨i, F, sb, nb, cb, ss, ns, css, hi, hFi, rfl, rfl, rfl, HI⟩ := hrel
    clear HST
    by_cases hlt : i < nd
    · have j1 : decide ((i : Int) < (nd : Int)) = true := decide_eq_true (by omega)
      have j2 : decide (i < nd) = true := decide_eq_true hlt
      have j3 : (i : Int) < (nd : Int) := by omega
      have j4 : (0 : Int) ≤ (i : Int) := by omega
      have hiw : IntKind.i64.wrap ((i : Int) + 1) = ((i + 1 : Nat) : Int) := by
        have := H10.out
        simp [IntKind.wrap, IntKind.signed, IntKind.bits]
        omega
      obtain ⟨x, hx⟩ : ∃ x, WL[i]? = some x := ⟨_, List.getElem?_eq_getElem (by have := HNW.out; omega)⟩
      obtain ⟨d, hdd⟩ : ∃ d, DL[i]? = some d := ⟨_, List.getElem?_eq_getElem (by have := HND.out; omega)⟩
      obtain ⟨bw, ow, rfl, hbw, hnw2, hcw⟩ := HW.out.at_ (by rintro rfl; cases hx)
      obtain ⟨pb, po, rfl, hpb, hpc⟩ := HDP.out (by rintro rfl; cases hdd)
      obtain ⟨u, hcu, hbu⟩ := hpc i d hdd
      obtain ⟨su, cu, rfl, hbu2⟩ := hbu
      have hbu : BsV w w.heap.size (.slice su d.length cu) d := ⟨su, cu, rfl, hbu2⟩
      have hxx := HWX.out x (List.mem_of_getElem? hx)
      have hcx : wr.cell? ⟨bw, ow + i, none⟩ = some (.string (strN x)) := by
        have h := hcw i x hx 0 _ rfl
        have e : ow + i * strR.k + 0 = ow + i := by show ow + i * 1 + 0 = _; omega
        rw [e] at h
        exact (HI.out.bel.cell (p := ⟨bw, ow + i, none⟩) hbw).trans h
      have hcd : wr.cell? ⟨pb, po + i, none⟩ = some (.slice su d.length cu) := (HI.out.bel.cell (p := ⟨pb, po + i, none⟩) hpb).trans hcu
      have hzw : bw < wr.heap.size := Nat.lt_of_lt_of_le hbw HI.out.bel.size
      have hzp : pb < wr.heap.size := Nat.lt_of_lt_of_le hpb HI.out.bel.size
      have hsz := strN_size x
      obtain ⟨lx, hlx⟩ : ∃ lx, lx = x.length := ⟨_, rfl⟩
      obtain ⟨ld, hld⟩ : ∃ ld, ld = d.length := ⟨_, rfl⟩
      rw [← hlx] at hsz
      rw [← hld] at hcd hbu
      have HLX := Lib.hid hlx
      have HLD := Lib.hid hld
      have HBU := Lib.hid hbu
      have HXX := Lib.hid hxx
      have HJ := Lib.hid (show i + 1 ≤ nd by omega)
      have HFI := Lib.hid hFi
      obtain ⟨ux, hux⟩ : ∃ ux, ux = strN x := ⟨_, rfl⟩
      rw [← hux] at hcx hsz
      have HUX := Lib.hid hux
      have HCX := Lib.hid (show Hid (bw < w.heap.size) from hbw)
      have hcdW := hcu
      rw [← hld] at hcdW
      have HCD : Hid (∀ W, Below w.heap.size w W → W.cell? ⟨pb, po + i, none⟩ = some (.slice su ld cu) ∧ pb < W.heap.size) := fun W h => ⟨(h.cell (p := ⟨pb, po + i, none⟩) hpb).trans hcdW, Nat.lt_of_lt_of_le hpb h.size⟩
      clear hlt hi hFi hlx hld hux hbu hbu2 hxx hcu hpc hx hdd hnw2 hcw hbw hpb hcdW
      by_cases h4 : 20 < lx
      · have q4 : decide ((20 : Int) < (lx : Int)) = true := decide_eq_true (by omega)
        have HE := Lib.hid HI.out.bel
        clear h4
        go_wp2_with fail
        go_ret
        exact ⟨rfl, HE.out⟩
      have q4 : decide ((20 : Int) < (lx : Int)) = false := decide_eq_false (by omega)
      by_cases h5 : 300 < ld
      · have q5 : decide ((300 : Int) < (ld : Int)) = true := decide_eq_true (by omega)
        have HE := Lib.hid HI.out.bel
        clear h4 h5
        go_wp2_with fail
        go_ret
        exact ⟨rfl, HE.out⟩
      have q5 : decide ((300 : Int) < (ld : Int)) = false := decide_eq_false (by omega)
      have H20 := Lib.hid (show lx ≤ 20 ∧ ld ≤ 300 by omega)
      have hen := HEN.out x d su ld cu wr HI.out.bel HXX.out (by have := HLD.out; omega) ((HBU.out.keep HI.out.bel (Nat.le_refl _)).mono HI.out.bel.size)
      rw [← HUX.out] at hen
      have HE1 := Lib.hid hen
      clear h4 h5 hen
      go_wp2_with fail
      refine HE1.out.mono ?_
      rintro r w3 ⟨v3, rfl, hb3, hM3, hN3⟩
      have HI3 : Hid (RowInv w w3 F (.slice sb nb cb) (.slice ss ns css)) := ⟨HI.out.good, HI.out.b.keep hb3, HI.out.want.keep hb3, below_step HI.out.bel HI.out.bel.size hb3⟩
      obtain ⟨ee, hee⟩ : ∃ ee, ee = encE x d := ⟨_, rfl⟩
      rw [← hee] at hM3 hN3 ⊢
      have HEE := Lib.hid hee
      have HHM := Lib.hid hM3
      have HSZ3 : Hid (wr.heap.size ≤ w3.heap.size) := hb3.size
      clear hb3 hM3 hee HI HE1 hcx hcd hzw hzp
      by_cases he : ee = 0
      · have q6 : ((ee : Int) == 0) = true := by rw [he]; rfl
        have hM3 := HHM.out he
        have hok := encE_ok (HEE.out.symm.trans he)
        obtain ⟨s3, c3, rfl⟩ := hM3.slice
        obtain ⟨n3, hn3⟩ : ∃ n3, n3 = (encL x d).length := ⟨_, rfl⟩
        rw [← hn3] at hM3
        rw [← hn3]
        have hxe : ∀ y ∈ encL x d, y < 256 := encL_lt x d HXX.out (by
          obtain ⟨_, _, _, _, _, h, _⟩ := HBU.out
          exact h)
        have hle := encL_len x d hok.1.2.1
        have hlF := encAll_len F (fun p hp => ⟨(HI3.out.good p hp).1, (HI3.out.good p hp).2.1⟩)
        have hFl := HFI.out
        have hjj := HJ.out
        have h10 := H10.out
        have hld2 := HLD.out
        have h20 := H20.out
        obtain ⟨v5, W5, hr5, hM5, hB5, hs5⟩ := app3 (encAll F) (encL x d) (.slice sb nb cb) (.slice s3 n3 c3) w.heap.size w3 HI3.out.b HI3.out.bel.size (hM3.bs hxe) (by omega)
        obtain ⟨s5, c5, rfl⟩ := hM5.slice
        have hW5 : Below w.heap.size w W5 := HI3.out.bel.trans (hB5.below HI3.out.bel.size (fun k hk => (HI3.out.b.slb_lo hk).1))
        have hwant5 : MineR strR W5 w.heap.size (.slice ss ns css) (F.map sepL) := by
          rcases HI3.out.want with h | ⟨T, cap, z, e1, g1, g2, g3, K⟩
          · exact .inl h
          · exact .inr ⟨T, cap, z, e1, g1, g2, g3, hB5.keep K (fun hs => HI3.out.b.apart K (by decide) hs)⟩
        have hcd5 := (HCD.out W5 hW5).1
        have hzp5 := (HCD.out W5 hW5).2
        have hcv : (convert 22 9 (.slice su ld cu)).run Tryd.prog W5 = .ok (.string (strN d)) W5 := conv_bs (HBU.out.keep hW5 (Nat.le_refl _))
        have hsd : (strN d).size = ld := by rw [strN_size]; exact HLD.out.symm
        obtain ⟨ud, hud⟩ : ∃ ud, ud = strN d := ⟨_, rfl⟩
        rw [← hud] at hcv hsd
        have hz1 : ux.size ≤ 20 := by rw [hsz]; exact H20.out.1
        have hz2 : ud.size ≤ 300 := by rw [hsd]; exact H20.out.2
        have hz3 : (⟨#[58]⟩ : ByteArray).size = 1 := rfl
        have hz4 : ux.size + 1 ≤ 9223372036854775807 := by omega
        have hz5 : ux.size + 1 + ud.size ≤ 9223372036854775807 := by omega
        have hSX : (ux ++ ⟨#[58]⟩) ++ ud = strN (sepL (x, d)) := by
          rw [HUX.out, hud, ← strN_colon, strN_append, strN_append]
          rfl
        have hA : Below W5.heap.size W5 (W5.alloc (.cells #[.string ((ux ++ ⟨#[58]⟩) ++ ud)] 9)) := (Below.refl _ _).alloc (Nat.le_refl _) _
        have hrow1 : RowV strR (W5.alloc (.cells #[.string ((ux ++ ⟨#[58]⟩) ++ ud)] 9)) (W5.alloc (.cells #[.string ((ux ++ ⟨#[58]⟩) ++ ud)] 9)).heap.size (.slice (some ⟨W5.heap.size, 0, none⟩) 1 1) [sepL (x, d)] := row_built strR_ok (L := [sepL (x, d)]) (t := 9) (by
          have h := Bk.new W5 9 #[.string ((ux ++ ⟨#[58]⟩) ++ ud)]
          rw [hSX] at h ⊢
          exact h) rfl (by omega)
        obtain ⟨v6, W6, hr6, hM6, hb6, hB6⟩ := appR strR_ok (F.map sepL) [sepL (x, d)] (.slice ss ns css) (.slice (some ⟨W5.heap.size, 0, none⟩) 1 1) w.heap.size (W5.alloc (.cells #[.string ((ux ++ ⟨#[58]⟩) ++ ud)] 9)) (hwant5.keep hA) (Nat.le_trans hW5.size hA.size) hrow1 (by rw [List.length_map]; simp; omega)
        obtain ⟨s6, c6, rfl⟩ := hM6.slice
        have HINV : Hid (RowInv w W6 (F ++ [(x, d)]) (.slice s5 (encAll F ++ encL x d).length c5) (.slice s6 (F.map sepL ++ [sepL (x, d)]).length c6)) := by
          refine ⟨fun p hp => ?_, ?_, ?_, (hW5.trans (hA.mono hW5.size)).trans hb6⟩
          · rcases List.mem_append.1 hp with h | h
            · exact HI3.out.good p h
            · rw [List.mem_singleton.1 h]
              refine ⟨hok.1, by show d.length ≤ 300; omega, ?_⟩
              obtain ⟨_, _, _, _, _, h, _⟩ := HBU.out
              exact h
          · have e : encAll (F ++ [(x, d)]) = encAll F ++ encL x d := by unfold encAll; simp
            rw [e]
            rcases hM5.keep hA with h | ⟨T, cap, z, e1, g1, g2, g3, K⟩
            · exact .inl h
            · refine .inr ⟨T, cap, z, e1, g1, g2, g3, hB6.2 _ _ _ K (fun o n c hc => ?_)⟩
              rcases hwant5.keep hA with ⟨h, _⟩ | ⟨T2, cap2, z2, h, _, _, _, K2⟩
              · rw [h] at hc; cases hc
              · rw [h] at hc
                injection hc with a1 a2 a3
                injection a1 with a1
                injection a1 with a1 _ _
                subst a1
                exact absurd (K.type_eq K2) (by decide)
          · rw [List.map_append]
            exact hM6
        have HFL : Hid ((F ++ [(x, d)]).length ≤ i + 1) := by show _ ≤ _; rw [List.length_append]; simp; omega
        obtain ⟨n5, hn5⟩ : ∃ n5, n5 = (encAll F ++ encL x d).length := ⟨_, rfl⟩
        obtain ⟨n6, hn6⟩ : ∃ n6, n6 = (F.map sepL ++ [sepL (x, d)]).length := ⟨_, rfl⟩
        rw [← hn5] at hr5 HINV
        rw [← hn6] at hr6 HINV
        clear hM3 hok hn3 hxe hle hlF hFl hjj h10 hld2 h20 hM5 hB5 hs5 hW5 hwant5 hud hSX hA hrow1 hM6 hb6 hB6 hn5 hn6 he HHM hN3 HI3
        go_upto_region 15 with (refine wpList_appI (v1 := .slice sb nb cb) (v2 := .slice s3 n3 c3) 22 rfl (.tmp 65) (.tmp 66) rfl rfl rfl rfl hr5 ?_)
        clear hr5
        go_wp2_with (refine wpList_appI (v1 := .slice ss ns css) (v2 := .slice (some ⟨W5.heap.size, 0, none⟩) 1 1) 52 rfl (.tmp 68) (.tmp 77) rfl rfl rfl rfl hr6 ?_)
        go_roundw
        case rel => exact ⟨i + 1, F ++ [(x, d)], s5, n5, c5, s6, n6, c6, HJ.out, HFL.out, by first | rfl | (push_cast; rfl), rfl, rfl, HINV.out⟩
        case measure => have := HJ.out; simp [intOf]; omega
      · have q6 : ((ee : Int) == 0) = false := by rw [beq_eq_false_iff_ne]; omega
        clear he
        go_wp2_with fail
        go_roundw
        case rel => exact ⟨i + 1, F, sb, nb, cb, ss, ns, css, HJ.out, Nat.le_succ_of_le HFI.out, by first | rfl | (push_cast; rfl), rfl, rfl, HI3.out⟩
        case measure => have := HJ.out; simp [intOf]; omega
    · have j1 : decide ((i : Int) < (nd : Int)) = false := decide_eq_false (by omega)
      have j2 : decide (i < nd) = false := decide_eq_false hlt
      have hgood : ∀ p ∈ F, WordOk p.1 ∧ p.2.length ≤ 16384 ∧ ∀ x ∈ p.2, x < 256 := fun p hp => ⟨(HI.out.good p hp).1, Nat.le_trans (HI.out.good p hp).2.1 (by decide), (HI.out.good p hp).2.2⟩
      have hbs := HI.out.b.bs (encAll_lt F hgood)
      have hlen := encAll_len F (fun p hp => ⟨(HI.out.good p hp).1, (HI.out.good p hp).2.1⟩)
      have hfz : FZ (encAll F) = ⟨[], 0, F⟩ := encAll_feed F [] hgood
      have h10 := H10.out
      have hns : ns = F.length := by
        obtain ⟨s, c, h⟩ := HI.out.want.slice
        injection h with _ h _
        rw [h, List.length_map]
      have hnb : nb = (encAll F).length := by
        obtain ⟨s, c, h⟩ := HI.out.b.slice
        injection h
      have HF := Lib.hid (HFED.out (encAll F) sb nb cb wr HI.out.bel hbs (by omega) (by omega))
      have HFZ := Lib.hid hfz
      have HNS := Lib.hid hns
      have HLF : Hid (F.length ≤ 100) := by
        show _ ≤ _
        omega
      clear hgood hbs hlen hfz h10 hns hnb hi hFi hlt HFED HEN
      go_wp2_with fail
      refine HF.out.mono ?_
      rintro r w2 ⟨rv, p, v2, L, rfl, hp, hF2, hM2, ho2, hb2⟩
      have hF3 : FeedM w2 p wr.heap.size v2 [] 0 := by
        rw [HFZ.out] at hF2
        exact hF2
      have ho3 : L.map FrM.pr = F := by
        rw [HFZ.out] at ho2
        exact ho2
      clear hF2 ho2
      obtain ⟨sl, cl, rfl⟩ := hM2.1.slice
      obtain ⟨s2, c2, rfl⟩ := hF3.2.slice
      have HHE : Hid (Calls Tryd.prog 22 #[.pointer (some ⟨p, 0, none⟩)] w2 fun r w' => r = .returned (.int .i64 0) ∧ w' = w2) := fheld_any p _ _ _ _ _ _ w2 hF3
      have HER : Hid (Calls Tryd.prog 25 #[.pointer (some ⟨p, 0, none⟩)] w2 fun r w' => r = .returned (.int .i64 0) ∧ w' = w2) := ferr_any p _ _ _ _ w2 hF3
      have HW2 := Lib.hid (below_step HI.out.bel HI.out.bel.size hb2)
      have HS2 := Lib.hid (HI.out.want.keep hb2)
      have HG2 := Lib.hid HI.out.good
      have HM2 := Lib.hid hM2
      have HO := Lib.hid ho3
      have hlL : L.length = F.length := by rw [← ho3, List.length_map]
      obtain ⟨nl, hnl⟩ : ∃ nl, nl = L.length := ⟨_, rfl⟩
      rw [← hnl] at HM2 hlL ⊢
      have HNL := Lib.hid hnl
      obtain rfl : ns = nl := HNS.out.trans hlL.symm
      have HNB : Hid (ns ≤ 100) := by
        have h := HLF.out
        show _ ≤ _
        omega
      have q7 : ((ns : Int) != (ns : Int)) = false := by simp
      clear hF3 ho3 hM2 hb2 hp hnl hlL HF HI HNS
      go_wp2_with fail
      refine HHE.out.mono ?_
      rintro r w4 ⟨rfl, rfl⟩
      clear HHE
      go_wp2_with fail
      refine HER.out.mono ?_
      rintro r w5 ⟨rfl, rfl⟩
      clear HER
      go_wp2_with fail
      go_loopw [108] (fun iv wr => ∃ i : Nat, i ≤ ns ∧ iv = .int .i64 (i : Int) ∧ Hid (Below w5.heap.size w5 wr)) (fun iv _ => ns - (intOf iv).toNat)
      case atStart => exact ⟨0, Nat.zero_le _, rfl, Below.refl _ _⟩
      case round =>
        obtain ⟨i, hi, rfl, HWr⟩ := hrel
        by_cases hlt : i < ns
        · have j1 : decide ((i : Int) < (ns : Int)) = true := decide_eq_true (by omega)
          have j2 : decide (i < ns) = true := decide_eq_true hlt
          have j3 : (i : Int) < (ns : Int) := by omega
          have j4 : (0 : Int) ≤ (i : Int) := by omega
          have hi1 : IntKind.i64.wrap ((i : Int) + 1) = ((i + 1 : Nat) : Int) := by
            have := HNB.out
            simp [IntKind.wrap, IntKind.signed, IntKind.bits]
            omega
          obtain ⟨x, hxe⟩ : ∃ x, L[i]? = some x := ⟨_, List.getElem?_eq_getElem (by have := HNL.out; omega)⟩
          have hxo : F[i]? = some x.pr := by rw [← HO.out, List.getElem?_map, hxe]; rfl
          have hxs : (F.map sepL)[i]? = some (sepL x.pr) := by rw [List.getElem?_map, hxo]; rfl
          have hxg := HG2.out x.pr (List.mem_of_getElem? hxo)
          have hMr := HM2.out.keep HWr.out
          obtain ⟨bl, rfl, hbl, hl0, hl1⟩ := cells_madeF hMr i x hxe
          obtain ⟨bo, rfl, hbo, ho0⟩ := cells_str (HS2.out.keep HWr.out) i (sepL x.pr) hxs
          have hdat := ((hMr.2 x (List.mem_of_getElem? hxe)).1).bs hxg.2.2
          obtain ⟨s8, c8, hdv⟩ : ∃ s c, x.dv = .slice s x.da.length c := ⟨_, _, rfl⟩
          rw [hdv] at hl1 hdat
          have hz1 : (strN x.wd).size ≤ 100 := by
            rw [strN_size]
            have : x.wd.length ≤ 12 := hxg.1.2.1
            omega
          have hz2 : (strN x.da).size ≤ 1000 := by
            rw [strN_size]
            have : x.da.length ≤ 300 := hxg.2.1
            omega
          have hE : ((((strN x.wd) ++ ⟨#[58]⟩) ++ (strN x.da)).toList == (strN (sepL x.pr)).toList) = true := by
            rw [← strN_colon, strN_append, strN_append]
            exact beq_self_eq_true _
          have HZ1 := Lib.hid hz1
          have HZ2 := Lib.hid hz2
          have HE := Lib.hid hE
          obtain ⟨uw, huw⟩ : ∃ u, u = strN x.wd := ⟨_, rfl⟩
          obtain ⟨ud, hud⟩ : ∃ u, u = strN x.da := ⟨_, rfl⟩
          obtain ⟨ut, hut⟩ : ∃ u, u = strN (sepL x.pr) := ⟨_, rfl⟩
          have hcd : Hid (∀ W, Below wr.heap.size wr W → (convert 22 9 (.slice s8 x.da.length c8)).run Tryd.prog W = .ok (.string (strN x.da)) W) := fun W h => conv_bs (hdat.keep h (Nat.le_refl _))
          rw [← huw] at hl0 HZ1 HE
          rw [← hud] at hcd HZ2 HE
          rw [← hut] at ho0 HE
          obtain ⟨n8, hn8⟩ : ∃ n, n = x.da.length := ⟨_, rfl⟩
          rw [← hn8] at hcd hl1
          have HJ := Lib.hid (show i + 1 ≤ ns by omega)
          have HI := Lib.hid hlt
          have HO0 := Lib.hid ho0
          have HBO := Lib.hid hbo
          clear hxo hxs hxg hMr hdat hdv hlt hi hz1 hz2 hE huw hud hut hn8 hxe ho0 hbo
          go_upto_region 23 with fail
          have hA : Below wr.heap.size wr (wr.alloc (.cells #[.string uw, .slice s8 n8 c8] 28)) := (Below.refl _ _).alloc (Nat.le_refl _) _
          refine wp_any (fun W => Below wr.heap.size wr W ∧ Bk W wr.heap.size 28 #[.string uw, .slice s8 n8 c8]) ⟨hA, Bk.new wr 28 #[.string uw, .slice s8 n8 c8]⟩ ?_
          clear hA hl0 hl1 hbl
          rintro W6 ⟨hW6, KG⟩
          have HKG := Lib.hid KG
          have HB6 := Lib.hid hW6
          have hzb : bo < W6.heap.size := Nat.lt_of_lt_of_le HBO.out hW6.size
          have hcb : W6.cell? ⟨bo, i, none⟩ = some (.string ut) := (hW6.cell (p := ⟨bo, i, none⟩) HBO.out).trans HO0.out
          have hcd6 : Hid (∀ W, Below W6.heap.size W6 W → (convert 22 9 (.slice s8 n8 c8)).run Tryd.prog W = .ok (.string ud) W) := fun W h => hcd.out W (below_step HB6.out HB6.out.size h)
          clear KG hW6 hcd
          refine froR23 wr.heap.size bo ns css i n8 c8 s8 uw ud ut W6 _ _ _ _ _ _ _ _ _ _ _ _ _ _ _ _ _ _ _ _ _ _ _ _ _ _ _ _ _ _ _ _ _ _ _ _ _ _ _ _ _ _ _ _ _ _ _ _ _ _ _ _ _ _ _ _ _ _ _ _ _ _ _ _ _ _ _ _ _ _ _ _ _ _ _ _ _ _ _ _ _ _ _ _ _ _ _ _ _ _ _ _ _ _ _ _ _ _ _ _ _ _ _ _ _ _ _ _ _ _ _ _ _ _ _ _ _ _ _ _ _ _ _ _ HKG HZ1.out HZ2.out (by have := HI.out; omega) (by omega) HI.out hzb hcb HE.out hcd6 (Lib.hid (fun _ _ _ _ _ _ _ _ _ _ _ w7 hb7 => ?_))
          have HW7 := Lib.hid (HWr.out.trans ((below_step HB6.out HB6.out.size hb7).mono HWr.out.size))
          clear hb7 HB6 HKG hzb hcb hcd6 HWr
          go_wp2_with fail
          go_roundw
          case rel => exact ⟨i + 1, HJ.out, by first | rfl | (push_cast; rfl), HW7.out⟩
          case measure => have := HJ.out; simp [intOf]; omega
        · have j1 : decide ((i : Int) < (ns : Int)) = false := decide_eq_false (by omega)
          have j2 : decide (i < ns) = false := decide_eq_false hlt
          have HE := Lib.hid (HW2.out.trans (HWr.out.mono HW2.out.size))
          clear hlt hi
          go_wp2_with fail
          go_ret
          exact ⟨rfl, HE.out⟩

/-- The door's own heap meets the condition. -/
theorem door_met (os : Os) (args : Array Value) : laidMetH Tryd.prog laidL ((World.doorLaid Tryd.prog 19 os).forCall (fun _ _ => 0) ⟨#[], args, []⟩).memory :=
  laidMetH_of_parts3 (fuel := 8) (laidMet_of_run' 8 (by kernel_rfl) (by kernel_rfl)) (by kernel_rfl) (by kernel_rfl)

set_option maxRecDepth 100000 in
theorem lifted (os : Os) (started : os.Started) (H : Type) (enc : TypeId × Value → H) :
    ReturnsInHanded {} Tryd.checked os 7 .any (fun w args => (Rows.frameRowSpec.pre enc Tryd.prog Tryd.f7 [] false w args ∧ laidMetH Tryd.prog laidL w) ∧ sizedMet enc Tryd.prog Tryd.f7 (OpenSpec.ofChange Rows.frameRowSpec) false w args)
      (Rows.frameRowSpec.post enc Tryd.prog Tryd.f7 false true false false) := by
  refine returnsInHanded_of_change_and (C := Tryd.checked) (X := fun w _ => laidMetH Tryd.prog laidL w) (fun _ _ _ hh h => h.of_heap hh) own started (by kernel_rfl) Tryd.func7
    (ChangeSpec.witness_shaped (enc := enc) (C := Tryd.checked) (os := os) (X := fun w _ => laidMetH Tryd.prog laidL w) false (World.doorLaid Tryd.prog 19 os) #[.slice none 0 0, .slice none 0 0, .slice none 0 0] 8 rfl (World.shaped_of_RefB (by kernel_rfl) (by kernel_rfl)) (by kernel_rfl) (by kernel_rfl) (by kernel_rfl) (door_met os _)) ?_
  intro W base args ds gs before hval0 hW _ _ hL _
  have hval : ∀ (j : Nat) t v, Tryd.f7.params[j]? = some t → args[j]? = some v → Value.okWide Tryd.prog W .any base t v := hval0
  have hW' := hW
  obtain ⟨p, q, hA0, hV, rfl, hfz, hnd⟩ := hW
  have hA : DataW.TrodAll enc Tryd.prog W 0 (fun _ => true) true Tryd.f7.params.toList args.toList ds p := hA0
  rw [Tryd.params7] at hA hval
  obtain ⟨v0, vs0, d0, ds0, p0, q0, hargs, rfl, rfl, h0, r0⟩ := trodAll_cons hA
  obtain ⟨v1, vs1, d1, ds1, p1, q1, rfl, rfl, rfl, h1, r1⟩ := trodAll_cons r0
  obtain ⟨v2, vs2, d2, ds2, p2, q2, rfl, rfl, rfl, h2, r2⟩ := trodAll_cons r1
  obtain ⟨rfl, rfl, rfl⟩ := trodAll_nil r2
  obtain rfl : args = #[v0, v1, v2] := by cases args; simp_all
  obtain ⟨rfl, rfl⟩ := trodVars_none hV
  have lt0 : ∀ x ∈ p0, x.block < W.heap.size := by obtain ⟨m, hm⟩ := h0; exact DataW.trod_lt m _ _ _ hm
  have lt1 : ∀ x ∈ p1, x.block < W.heap.size := by obtain ⟨m, hm⟩ := h1; exact DataW.trod_lt m _ _ _ hm
  have lt2 : ∀ x ∈ p2, x.block < W.heap.size := by obtain ⟨m, hm⟩ := h2; exact DataW.trod_lt m _ _ _ hm
  obtain ⟨x0, hb0⟩ := strs_arg (hval 0 52 v0 rfl rfl) h0
  have hb1 := parts_arg (hval 1 53 v1 rfl rfl) h1
  obtain ⟨x2, hb2⟩ := ints_arg (hval 2 41 v2 rfl rfl) h2
  have hwalk := walk x0 x2 v0 v1 v2 W (of_laid hL) hb0.1 hb0.2 hb1 hb2.1 hb2.2
  clear hA0 hval0
  refine hwalk.mono fun e W' ⟨he, bel⟩ => ?_
  subst he
  exact ⟨_, rfl, _, _, _, [], _, [], hW', trodAll_mk1 (shut_bool Tryd.underlying4 _), (trodAll_cons_mk (Below.trod laidOut (by kernel_rfl) (of_decide_eq_true (by kernel_rfl)) h0 bel lt0) (trodAll_cons_mk (Below.trod laidOut (by kernel_rfl) (of_decide_eq_true (by kernel_rfl)) h1 bel lt1) (trodAll_cons_mk (Below.trod laidOut (by kernel_rfl) (of_decide_eq_true (by kernel_rfl)) h2 bel lt2) trodAll_mk0))), rfl, bel.frame _, fun h => by cases h⟩

theorem over : Rows.FrameRowSaid :=
  OpenClaim.holds_of_wide 7 Tryd.f7 rfl rfl rfl rfl rfl rfl rfl ⟨rfl, rfl, rfl, rfl, rfl⟩ rfl rfl rfl rfl rfl (by kernel_rfl) Tryd.func7 (by kernel_rfl)
    (of_decide_eq_true (by kernel_rfl)) (by unfold Func.isWrapper; first | (rw [if_pos (by decide +kernel)]; kernel_rfl) | (rw [if_neg (by decide +kernel)]; exact ⟨rfl, rfl⟩))
    (fun os started H enc _ => lifted os started H enc)

theorem proved : Rows.FrameRowCardSaid :=
  Claim7.holds_tied_plain_at .later [] [.data, .data] true Rows.frameRowCard.stood.harness false
    over (fun _ h => by cases h) (by kernel_rfl) (fun _ h => by cases h) frameRow_row_tie rfl ⟨rfl, rfl⟩ (by kernel_rfl) rfl
    (fun f fn hf hfn => by
      obtain rfl : f = 7 := Option.some.inj ((show Tryd.prog.funcNamed "tallystick/tallysticklaw08.FrameRow" = some 7 by kernel_rfl).symm.trans hf) |>.symm
      obtain rfl : fn = Tryd.f7 := (Option.some.inj (Tryd.func7.symm.trans hfn)).symm
      exact ⟨by kernel_rfl, fun j t ht => by
        rw [Tryd.params7] at ht
        have hm : t ∈ [52, 53, 41] := by simpa using Array.mem_of_getElem? ht
        have hall : ([52, 53, 41].all fun u => !Tryd.prog.wantsStandIn u) = true := by kernel_rfl
        exact (show Tryd.prog.wantsStandIn t = false by simpa using List.all_eq_true.1 hall t hm)⟩)
    (by kernel_rfl)
#print axioms proved
end Go.Proofs.YtanefmjjbilmiaaDoor.frameRow
