/-
  What is proved: for every slice of slices of bytes, every slice of numbers and every slice of whole numbers the law WholeWords returns true, and its arguments read behind the call as they read before it; the two listed tables of package hash are taken to hold what the program's text lays in them, and the card ties them to it.
-/
import Derived.Test.YtanefmjjbilmiaaDoorWhwA
import Derived.Test.YtanefmjjbilmiaaDoorTie
import Derived.Test.YtanefmjjbilmiaaDoorCards
import Derived.Stop.Joined
namespace Go.Proofs.YtanefmjjbilmiaaDoor.wholeWords
open Go.ChangeShapes Go.WideShapes Go.ChangeAt Go.RowKit
set_option linter.unusedVariables false

theorem own : ownKnob Tryd.prog.godebug = none := by kernel_rfl
theorem laidOut : laidOutB Tryd.prog = true := by kernel_rfl
theorem wf_i64 {z : Int} (h : (Lit.int .i64 z).wf = true) : -9223372036854775808 ≤ z ∧ z ≤ 9223372036854775807 := by
  simp [Lit.wf, IntKind.min, IntKind.max, IntKind.signed, IntKind.bits] at h
  omega
set_option maxRecDepth 100000
set_option linter.unusedSimpArgs false
theorem cells_madeF {W : World} {lo : Nat} {v : Value} {s : Option Addr} {n c : Nat} {L : List FrM} (h : MadeM W lo v (.slice s n c) L) (i : Nat) (x : FrM) (hx : L[i]? = some x) : ∃ b, s = some ⟨b, 0, none⟩ ∧ b < W.heap.size ∧ W.cell? ⟨b, i * 2, none⟩ = some (.string (strN x.wd)) ∧ W.cell? ⟨b, i * 2 + 1, none⟩ = some x.dv := by
  rcases h.1 with ⟨_, rfl⟩ | ⟨T, cap, z, e, hc, hc2, hT, K⟩
  · simp at hx
  · injection e with e1 e2 e3
    subst e1
    have h0 := rowr_row frR_ok K i x hx 0 _ rfl
    have h1 := rowr_row frR_ok K i x hx 1 _ rfl
    have e : 0 + i * frR.k = i * 2 := by rw [Nat.zero_add]; rfl
    rw [e] at h0 h1
    exact ⟨T, rfl, K.lt, h0, h1⟩
set_option maxHeartbeats 16000000 in
theorem walk (NS : List Nat) (cs : List Int) (v0 v1 v2 : Value) (w : World) (hL : Laid w)
    (hd : ∃ (s : Option Addr) (cap : Nat) (ps : List (List Nat)), v0 = .slice s ps.length cap ∧ ps.length ≤ cap ∧ cap < 9223372036854775808 ∧ PartsV w s ps)
    (hn : RowV u64R w w.heap.size v1 NS) (hnx : ∀ z ∈ NS, z < 18446744073709551616)
    (hc : RowV intR w w.heap.size v2 cs) (hci : ∀ z ∈ cs, -9223372036854775808 ≤ z ∧ z ≤ 9223372036854775807) :
    Calls Tryd.prog 9 #[v0, v1, v2] w fun e w' => e = .returned (.bool true) ∧ Below w.heap.size w w' := by
  have HL := Lib.hid hL
  obtain ⟨sd, cd, DL, rfl, _, _, hdp⟩ := hd
  obtain ⟨sn, cn, rfl⟩ := hn.slice
  obtain ⟨sc, cc, rfl⟩ := hc.slice
  have HN := Lib.hid hn
  have HNX := Lib.hid hnx
  have HC := Lib.hid hc
  have HCI0 := Lib.hid hci
  have HDP := Lib.hid hdp
  obtain ⟨n0, hn0⟩ : ∃ n, n = DL.length := ⟨_, rfl⟩
  obtain ⟨n1, hn1⟩ : ∃ n, n = NS.length := ⟨_, rfl⟩
  obtain ⟨nc, hnc⟩ : ∃ n, n = cs.length := ⟨_, rfl⟩
  rw [← hn1] at HN
  rw [← hnc] at HC
  rw [← hn0, ← hn1, ← hnc]
  have HN0 := Lib.hid hn0
  have HN1 := Lib.hid hn1
  have HNC := Lib.hid hnc
  have HCK := Lib.hid checkWords
  have HCE := Lib.hid checkNone
  clear hL hn hnx hdp hc hci hn0 hn1 hnc
  go_enter Tryd.func9, Tryd.ntmps9
  go_wp2_with fail
  refine (HCK.out _).mono ?_
  rintro e wa ⟨rfl, hba⟩
  go_wp2_with fail
  refine (HCE.out _).mono ?_
  rintro e w1 ⟨rfl, hb1⟩
  have HW1 : Hid (Below w.heap.size w w1) := below_step hba hba.size hb1
  clear hba hb1 HCK HCE
  by_cases h1 : 10 < n0
  · have q1 : decide ((10 : Int) < (n0 : Int)) = true := decide_eq_true (by omega)
    clear h1
    go_wp2_with fail
    go_ret
    exact ⟨rfl, HW1.out⟩
  have q1 : decide ((10 : Int) < (n0 : Int)) = false := decide_eq_false (by omega)
  by_cases h2 : 20 < n1
  · have q2 : decide ((20 : Int) < (n1 : Int)) = true := decide_eq_true (by omega)
    clear h1 h2
    go_wp2_with fail
    go_ret
    exact ⟨rfl, HW1.out⟩
  have q2 : decide ((20 : Int) < (n1 : Int)) = false := decide_eq_false (by omega)
  by_cases h3 : 40 < nc
  · have q3 : decide ((40 : Int) < (nc : Int)) = true := decide_eq_true (by omega)
    clear h1 h2 h3
    go_wp2_with fail
    go_ret
    exact ⟨rfl, HW1.out⟩
  have q3 : decide ((40 : Int) < (nc : Int)) = false := decide_eq_false (by omega)
  have H10 := Lib.hid (show n0 ≤ 10 ∧ n1 ≤ 20 ∧ nc ≤ 40 by omega)
  clear h1 h2 h3
  go_upto_region 6 with fail
  have hA : Below w1.heap.size w1 (w1.alloc (.cells #[.slice none 0 0] 58)) := (Below.refl _ _).alloc (Nat.le_refl _) _
  refine wp_any (fun W => Below w.heap.size w W ∧ Bk W w1.heap.size 58 #[.slice none 0 0]) ⟨below_step HW1.out HW1.out.size hA, Bk.new _ _ _⟩ ?_
  obtain ⟨g, hg⟩ : ∃ g, g = w1.heap.size := ⟨_, rfl⟩
  have HG : Hid (w.heap.size ≤ g) := by show _ ≤ _; rw [hg]; exact HW1.out.size
  rw [← hg]
  clear hA hg HW1
  rintro W3 ⟨hW3, KG⟩
  have HST : Hid (WrInv w W3 g (txtL (DL.take 0))) := ⟨⟨_, KG, .inl ⟨rfl, rfl⟩⟩, hW3⟩
  clear hW3 KG q1 q2 q3
  go_wp2_with fail
  go_loopw [45] (fun iv wr => ∃ i : Nat, i ≤ n0 ∧ iv = .int .i64 (i : Int) ∧ Hid (WrInv w wr g (txtL (DL.take i)) ∧ ∀ b ∈ DL.take i, b.length ≤ 500 ∧ ∀ x ∈ b, x < 256)) (fun iv _ => n0 - (intOf iv).toNat)
  case atStart => exact ⟨0, Nat.zero_le _, rfl, HST.out, fun b hb => by simp at hb⟩
  case round =>
    obtain ⟨i, hi, rfl, HI⟩ := hrel
    clear HST
    by_cases hlt : i < n0
    · have j1 : decide ((i : Int) < (n0 : Int)) = true := decide_eq_true (by omega)
      have j2 : decide (i < n0) = true := decide_eq_true hlt
      have j3 : (i : Int) < (n0 : Int) := by omega
      have j4 : (0 : Int) ≤ (i : Int) := by omega
      have hiw : IntKind.i64.wrap ((i : Int) + 1) = ((i + 1 : Nat) : Int) := by
        have := H10.out
        simp [IntKind.wrap, IntKind.signed, IntKind.bits]
        omega
      obtain ⟨d, hdd⟩ : ∃ d, DL[i]? = some d := ⟨_, List.getElem?_eq_getElem (by have := HN0.out; omega)⟩
      obtain ⟨pb, po, rfl, hpb, hpc⟩ := HDP.out (by rintro rfl; cases hdd)
      obtain ⟨u, hcu, hbu⟩ := hpc i d hdd
      obtain ⟨su, cu, rfl, hbu2⟩ := hbu
      have hbu : BsV w w.heap.size (.slice su d.length cu) d := ⟨su, cu, rfl, hbu2⟩
      have hbx : ∀ x ∈ d, x < 256 := hbu2.2.2.1
      obtain ⟨v, KV, MV⟩ := HI.out.1.k
      have hbel := HI.out.1.bel
      have hcd : wr.cell? ⟨pb, po + i, none⟩ = some (.slice su d.length cu) := (hbel.cell (p := ⟨pb, po + i, none⟩) hpb).trans hcu
      have hzp : pb < wr.heap.size := Nat.lt_of_lt_of_le hpb hbel.size
      have hml : (txtL (DL.take i)).length ≤ 509 * 10 := by
        have h1 := txtL_len (DL.take i) (fun b hb => (HI.out.2 b hb).1)
        have h2 := H10.out
        have h3 := List.length_take_le i DL
        omega
      have htk := txtL_take DL i d hdd
      have hmt : ∀ b ∈ DL.take (i + 1), d.length ≤ 500 → b.length ≤ 500 ∧ ∀ x ∈ b, x < 256 := fun b hb h5 => by
        rw [take_snoc DL i d hdd] at hb
        rcases List.mem_append.1 hb with h | h
        · exact HI.out.2 b h
        · rw [List.mem_singleton.1 h]
          exact ⟨h5, hbx⟩
      have HJ := Lib.hid (show i + 1 ≤ n0 by omega)
      have HBU : Hid (BsN wr (fun k => k = g ∨ slb v k) (.slice su d.length cu) d) := bsn_old (hbu.keep hbel (Nat.le_refl _)) hbel.size HG.out MV
      obtain ⟨ld, hld⟩ : ∃ ld, ld = d.length := ⟨_, rfl⟩
      have HMT := Lib.hid hmt
      have HTK := Lib.hid htk
      have HBL := Lib.hid hbel
      have HLD := Lib.hid hld
      by_cases h5 : 500 < ld
      · have q5 : decide ((500 : Int) < (ld : Int)) = true := decide_eq_true (by omega)
        rw [← hld] at hcd
        clear h5 hlt hi hld hml htk hmt HBU HMT HTK hbel KV MV hbu hbu2 hbx hcu hpc hdd hpb HI
        go_wp2_with fail
        go_ret
        exact ⟨rfl, HBL.out⟩
      have q5 : decide ((500 : Int) < (ld : Int)) = false := decide_eq_false (by omega)
      have HT := Lib.hid (text_any g w.heap.size _ d (txtL (DL.take i)) v wr KV MV hbel.size (by omega) HBU.out)
      have H5 : Hid (d.length ≤ 500) := by show _ ≤ _; omega
      rw [← hld] at hcd HT
      have HMV := Lib.hid MV
      clear hld h5 hlt hi hml htk hmt HBU hbel KV MV hbu hbu2 hbx hcu hpc hdd hpb HI
      go_wp2_with fail
      refine HT.out.mono ?_
      rintro e w4 h4
      obtain ⟨rfl, hI4⟩ := WrInv.next HG.out HMV.out HBL.out h4
      rw [HLD.out, ← HTK.out] at hI4
      have HI4 := Lib.hid hI4
      clear h4 hI4 HT HTK hcd hzp
      go_wp2_with fail
      go_roundw
      case rel => exact ⟨i + 1, HJ.out, by first | rfl | (push_cast; rfl), HI4.out, fun b hb => HMT.out b hb H5.out⟩
      case measure => have := HJ.out; simp [intOf]; omega
    · have j1 : decide ((i : Int) < (n0 : Int)) = false := decide_eq_false (by omega)
      have j2 : decide (i < n0) = false := decide_eq_false hlt
      have hin : DL.take i = DL := by
        have h := HN0.out
        exact List.take_of_length_le (by omega)
      have hI := HI.out
      rw [hin] at hI
      have HDB := Lib.hid hI.2
      have HST2 : Hid (WrInv w wr g (txtL DL ++ numsL (NS.take 0))) := by
        have h : txtL DL ++ numsL (NS.take 0) = txtL DL := by simp [numsL]
        show WrInv _ _ _ _
        rw [h]
        exact hI.1
      have HTL : Hid ((txtL DL).length ≤ 5090) := by
        have h1 := txtL_len DL (fun b hb => (HDB.out b hb).1)
        have h2 := H10.out
        have h3 := HN0.out
        show _ ≤ _
        omega
      have HTX := Lib.hid (txtL_lt DL (fun b hb => (HDB.out b hb).2))
      clear hlt hi hin hI HI
      go_wp2_with fail
      clear j1 j2
      go_loopw [57] (fun iv wr => ∃ i : Nat, i ≤ n1 ∧ iv = .int .i64 (i : Int) ∧ Hid (WrInv w wr g (txtL DL ++ numsL (NS.take i)))) (fun iv _ => n1 - (intOf iv).toNat)
      case atStart => exact ⟨0, Nat.zero_le _, rfl, HST2.out⟩
      case round =>
        rename_i wr0 _
        obtain ⟨i, hi, rfl, HI⟩ := hrel
        clear HST2
        by_cases hlt : i < n1
        · have j1 : decide ((i : Int) < (n1 : Int)) = true := decide_eq_true (by omega)
          have j2 : decide (i < n1) = true := decide_eq_true hlt
          have j3 : (i : Int) < (n1 : Int) := by omega
          have j4 : (0 : Int) ≤ (i : Int) := by omega
          have hiw : IntKind.i64.wrap ((i : Int) + 1) = ((i + 1 : Nat) : Int) := by
            have := H10.out
            simp [IntKind.wrap, IntKind.signed, IntKind.bits]
            omega
          obtain ⟨n, hx⟩ : ∃ n, NS[i]? = some n := ⟨_, List.getElem?_eq_getElem (by have := HN1.out; omega)⟩
          obtain ⟨bw, ow, rfl, hbw, hnw2, hcw⟩ := HN.out.at_ (by rintro rfl; cases hx)
          obtain ⟨v, KV, MV⟩ := HI.out.k
          have hbel := HI.out.bel
          have hcx : wr.cell? ⟨bw, ow + i, none⟩ = some (.int .u64 (n : Int)) := by
            have h := hcw i n hx 0 _ rfl
            have e : ow + i * u64R.k + 0 = ow + i := by show ow + i * 1 + 0 = _; omega
            rw [e] at h
            exact (hbel.cell (p := ⟨bw, ow + i, none⟩) hbw).trans h
          have hzw : bw < wr.heap.size := Nat.lt_of_lt_of_le hbw hbel.size
          have hml : (txtL DL ++ numsL (NS.take i)).length ≤ 5430 := by
            have h1 := numsL_len (NS.take i)
            have h2 := H10.out
            have h3 := List.length_take_le i NS
            have h4 := HTL.out
            rw [List.length_append]
            omega
          have HTK := Lib.hid (numsL_take NS i n hx)
          have HT := Lib.hid (count_any g w.heap.size n (txtL DL ++ numsL (NS.take i)) v wr KV MV hbel.size (by omega))
          have HJ := Lib.hid (show i + 1 ≤ n1 by omega)
          have HML := Lib.hid hml
          have HMV := Lib.hid MV
          have HBL := Lib.hid hbel
          clear hlt hi hml hbel KV MV hx hbw hnw2 hcw HI
          go_wp2_with fail
          refine HT.out.mono ?_
          rintro e w4 h4
          obtain ⟨rfl, hI4⟩ := WrInv.next HG.out HMV.out HBL.out h4
          obtain ⟨v4, K4, M4⟩ := hI4.k
          have hA : Below w4.heap.size w4 (w4.alloc (.cells #[.int .u64 (n : Int)] 60)) := (Below.refl _ _).alloc (Nat.le_refl _) _
          have HBA := Lib.hid (below_step hI4.bel hI4.bel.size hA)
          have HMA := Lib.hid (M4.keep hA)
          have HP := Lib.hid (put_any g w.heap.size w4.heap.size 8 n (txtL DL ++ numsL (NS.take i) ++ countL n) v4 _ (K4.keep hA) HMA.out HBA.out.size (Bk.new w4 60 #[.int .u64 (n : Int)]) (by
            have h1 := countL_len n
            have h2 := HML.out
            rw [List.length_append]
            omega))
          clear h4 hI4 K4 M4 hA HT hcx hzw HMV HBL
          go_wp2_with fail
          refine HP.out.mono ?_
          rintro e w5 h5
          obtain ⟨rfl, hI5⟩ := WrInv.next HG.out HMA.out HBA.out h5
          have HI5 : Hid (WrInv w w5 g (txtL DL ++ numsL (NS.take (i + 1)))) := by
            show WrInv _ _ _ _
            have e8 : sz8 8 = 8 := by decide
            rw [e8] at hI5
            rw [HTK.out]
            simpa only [List.append_assoc] using hI5
          clear h5 hI5 HP HMA HBA HTK HML
          go_wp2_with fail
          go_roundw
          case rel => exact ⟨i + 1, HJ.out, by first | rfl | (push_cast; rfl), HI5.out⟩
          case measure => have := HJ.out; simp [intOf]; omega
        · have j1 : decide ((i : Int) < (n1 : Int)) = false := decide_eq_false (by omega)
          have j2 : decide (i < n1) = false := decide_eq_false hlt
          have hin : NS.take i = NS := by
            have h := HN1.out
            exact List.take_of_length_le (by omega)
          have hI := HI.out
          rw [hin] at hI
          obtain ⟨D, hD⟩ : ∃ D, D = txtL DL ++ numsL NS := ⟨_, rfl⟩
          rw [← hD] at hI
          have hDx : ∀ x ∈ D, x < 256 := fun x hx => by
            rw [hD] at hx
            rcases List.mem_append.1 hx with h | h
            · exact HTX.out x h
            · exact numsL_lt NS x h
          have hDl : D.length ≤ 5430 := by
            have h1 := numsL_len NS
            have h2 := H10.out
            have h3 := HTL.out
            have h4 := HN1.out
            rw [hD, List.length_append]
            omega
          obtain ⟨v, KV, MV⟩ := hI.k
          have HB := Lib.hid (bytes_any g w.heap.size D v wr KV MV hDx (by omega))
          obtain ⟨sv, cv, rfl⟩ := MV.slice
          have HDD := Lib.hid hD
          have HDX := Lib.hid hDx
          have HDL := Lib.hid hDl
          have HBL := Lib.hid hI.bel
          obtain ⟨nD, hnD⟩ : ∃ n, n = D.length := ⟨_, rfl⟩
          rw [← hnD] at KV
          have HKV := Lib.hid KV
          have HND := Lib.hid hnD
          clear hlt hi hin hI HI hD hDx hDl KV MV hnD
          go_wp2_with fail
          clear j1 j2
          refine HB.out.mono ?_
          rintro e w4 ⟨v4, rfl, hM4, hb4⟩
          obtain ⟨s4, c4, rfl⟩ := hM4.slice
          have HBL4 := Lib.hid (below_step HBL.out HBL.out.size hb4)
          have HKV4 := Lib.hid (HKV.out.keep hb4)
          have HE := Lib.hid (encWords D s4 _ c4 w4 (HL.out.below HBL4.out HL.out.size) (hM4.bs HDX.out) (by have := HDL.out; omega))
          rw [← HND.out] at HE ⊢
          clear hM4 hb4 HB HBL HKV
          go_wp2_with fail
          refine HE.out.mono ?_
          rintro e w5 ⟨v5, rfl, hb5, hM5⟩
          have hEl : (encL wordsL D).length = 24 + D.length := encL_len wordsL D (by decide)
          have hEx := encL_lt wordsL D (by decide) HDX.out
          have hFz : FZ (encL wordsL D) = ⟨[], 0, [(wordsL, D)]⟩ := by
            have h := feed_enc wordsL D [] [] words_ok (by have := HDL.out; omega) HDX.out (by simp)
            rw [List.append_nil] at h
            exact h
          obtain ⟨E, hE⟩ : ∃ E, E = encL wordsL D := ⟨_, rfl⟩
          rw [← hE] at hM5 hEl hEx hFz
          obtain ⟨s5, c5, rfl⟩ := hM5.slice
          obtain ⟨m, hm⟩ : ∃ m, m = E.length := ⟨_, rfl⟩
          rw [← hm] at hM5 hEl ⊢
          rw [← HND.out] at hEl
          have hsum : IntKind.i64.wrap (24 + (nD : Int)) = (m : Int) := by
            have h1 := HDL.out
            have h2 := HND.out
            simp [IntKind.wrap, IntKind.signed, IntKind.bits]
            omega
          have q4 : ((m : Int) != (m : Int)) = false := by simp
          have HLEN := Lib.hid (wlen_any g nD sv cv w5 (HKV4.out.keep hb5))
          have HW5 := Lib.hid (below_step HBL4.out HBL4.out.size hb5)
          have HB5 := Lib.hid (hM5.bs hEx)
          have HX := Lib.hid hEx
          have HFZ := Lib.hid hFz
          have HM := Lib.hid hm
          have HLN : Hid (E.length ≤ 6000) := by
            have h1 := HDL.out
            have h2 := HND.out
            show _ ≤ _
            omega
          clear hb5 hM5 hEl hEx hFz hE hm HE HBL4 HKV4
          go_wp2_with fail
          refine HLEN.out.mono ?_
          rintro e wb ⟨rfl, rfl⟩
          clear HLEN
          have HLB := Lib.hid (HL.out.below HW5.out HL.out.size)
          have HCB : Hid (RowV intR wb wb.heap.size (.slice sc nc cc) cs) := (HC.out.keep HW5.out (Nat.le_refl _)).mono HW5.out.size
          have HMS : Hid (∀ k q, k + q ≤ m → ∃ s2 c2, (∀ W, (Instr.slice 22 (.slice s5 m c5) (some (.int .i64 (k : Int))) (some (.int .i64 ((k : Int) + (q : Int)))) none).run Tryd.prog W = .ok (.slice s2 q c2) W) ∧ BsV wb wb.heap.size (.slice s2 q c2) ((E.drop k).take q)) := fun k q h => mid_slice HB5.out k q (by have := HM.out; omega)
          have HCI : Hid (∀ z ∈ cs ++ [(m : Int)], -9223372036854775808 ≤ z ∧ z ≤ 9223372036854775807) := fun z hz => by
            rcases List.mem_append.1 hz with h | h
            · exact HCI0.out z h
            · rw [List.mem_singleton.1 h]
              have := HLN.out
              have := HM.out
              omega
          go_upto_region 23 with fail
          clear hsum q4
          refine wp_any (fun W => Below wb.heap.size wb W ∧ Bk W wb.heap.size 36 #[.slice none 0 0, .int .i64 0]) ⟨(Below.refl _ _).alloc (Nat.le_refl _) _, Bk.new _ _ _⟩ ?_
          obtain ⟨p, hp⟩ : ∃ p, p = wb.heap.size := ⟨_, rfl⟩
          have HP : Hid (wb.heap.size = p) := hp.symm
          rw [← hp]
          clear hp
          rintro W0 ⟨hW0, KP⟩
          have HW0 : Hid (Below wb.heap.size wb W0) := by rw [HP.out]; exact hW0
          clear hW0
          have HCN : Hid (cs.length ≤ 40) := by
            have h1 := H10.out
            have h2 := HNC.out
            show _ ≤ _
            omega
          have hA1 : Below W0.heap.size W0 (W0.alloc (.cells #[] 3)) := (Below.refl _ _).alloc (Nat.le_refl _) _
          have hm1 : MineR intR (W0.alloc (.cells #[] 3)) wb.heap.size (.slice (some ⟨W0.heap.size, 0, none⟩) 0 0) [] := .inr ⟨W0.heap.size, 0, 0, rfl, rfl, by omega, HW0.out.size, Bk.new W0 3 #[]⟩
          obtain ⟨v1, W1, hr1, hM1, hb1, hB1⟩ := appR intR_ok [] cs (.slice (some ⟨W0.heap.size, 0, none⟩) 0 0) (.slice sc nc cc) wb.heap.size (W0.alloc (.cells #[] 3)) hm1 (Nat.le_trans HW0.out.size hA1.size) ((HCB.out.keep (HW0.out.trans (hA1.mono HW0.out.size)) (Nat.le_refl _)).mono (Nat.le_trans HW0.out.size hA1.size)) (by have := HCN.out; simp; omega)
          rw [List.nil_append] at hM1
          obtain ⟨s1, c1, rfl⟩ := hM1.slice
          have hKP1 : Bk W1 p 36 #[.slice none 0 0, .int .i64 0] := hB1.2 _ _ _ (KP.keep hA1) (fun o n c he => by
            cases he
            have := KP.lt
            omega)
          have HW1 : Hid (Below wb.heap.size wb W1) := (HW0.out.trans (hA1.mono HW0.out.size)).trans hb1
          have hA2 : Below W1.heap.size W1 (W1.alloc (.cells #[.int .i64 (m : Int)] 3)) := (Below.refl _ _).alloc (Nat.le_refl _) _
          have hrow2 : RowV intR (W1.alloc (.cells #[.int .i64 (m : Int)] 3)) (W1.alloc (.cells #[.int .i64 (m : Int)] 3)).heap.size (.slice (some ⟨W1.heap.size, 0, none⟩) 1 1) [(m : Int)] := row_built intR_ok (L := [(m : Int)]) (t := 3) (Bk.new W1 3 #[.int .i64 (m : Int)]) rfl (by omega)
          obtain ⟨v2, W2, hr2, hM2, hb2, hB2⟩ := appR intR_ok cs [(m : Int)] (.slice s1 cs.length c1) (.slice (some ⟨W1.heap.size, 0, none⟩) 1 1) wb.heap.size (W1.alloc (.cells #[.int .i64 (m : Int)] 3)) (hM1.keep hA2) (Nat.le_trans HW1.out.size hA2.size) hrow2 (by have := HCN.out; simp; omega)
          obtain ⟨s2, c2, rfl⟩ := hM2.slice
          have hKP2 : Bk W2 p 36 #[.slice none 0 0, .int .i64 0] := hB2.2 _ _ _ (hKP1.keep hA2) (fun o n c he => by
            cases he
            rcases hM1 with ⟨h1, _⟩ | ⟨T, cap, z, h1, _, _, _, K⟩
            · cases h1
            · cases h1
              exact absurd (hKP1.type_eq K) (by decide))
          have HW2 : Hid (Below wb.heap.size wb W2) := (HW1.out.trans (hA2.mono HW1.out.size)).trans hb2
          have HM2 := Lib.hid hM2
          have hln : cs.length = nc := HNC.out.symm
          have hln2 : (cs ++ [(m : Int)]).length = nc + 1 := by rw [List.length_append, hln]; rfl
          rw [hln2] at hr2 HM2
          rw [hln] at hr1 hr2
          clear hm1 hM1 hb1 hB1 hrow2 hb2 hB2 hKP1 hA1 hA2 hln hln2 hM2
          go_upto_region 26 with (first | (refine wpList_appG (v1 := .slice (some ⟨W0.heap.size, 0, none⟩) 0 0) (v2 := .slice sc nc cc) 41 rfl (.tmp 82) (.tmp 83) rfl rfl rfl rfl hr1 ?_) | (refine wpList_appG (v1 := .slice s1 nc c1) (v2 := .slice (some ⟨W1.heap.size, 0, none⟩) 1 1) 41 rfl (.tmp 84) (.tmp 87) rfl rfl rfl rfl hr2 ?_))
          have HSTART : Hid (FedInv wb W2 p E 0 (.slice none 0 0) (.slice s2 (nc + 1) c2) [] (cs ++ [(m : Int)])) := ⟨⟨_, new_feed hKP2 _, .inl ⟨rfl, rfl⟩, by simp⟩, rfl, HW2.out, HM2.out, Nat.zero_le _⟩
          clear hr1 hr2 hKP2 KP HW0 HW1 HW2 HM2
          go_loopw [15, 16, 90] (fun ov av iv wr => ∃ (j k : Nat) (so : Option Addr) (lo co : Nat) (L : List FrM), j ≤ nc + 1 ∧ k ≤ m ∧ iv = .int .i64 (j : Int) ∧ av = .int .i64 (k : Int) ∧ ov = .slice so lo co ∧ (j = nc + 1 → k = m) ∧ Hid (FedInv wb wr p E k (.slice so lo co) (.slice s2 (nc + 1) c2) L (cs ++ [(m : Int)]))) (fun _ _ iv _ => nc + 1 - (intOf iv).toNat)
          case atStart => exact ⟨0, 0, none, 0, 0, [], Nat.zero_le _, Nat.zero_le _, rfl, rfl, rfl, fun h => absurd h (by omega), HSTART.out⟩
          case round =>
            obtain ⟨j, k, so, lo, co, L, hj, hk, rfl, rfl, rfl, hjk, HI⟩ := hrel
            clear HSTART
            by_cases hlt : j < nc + 1
            · have j1 : decide ((j : Int) < ((nc + 1 : Nat) : Int)) = true := decide_eq_true (by omega)
              have j2 : decide (j < nc + 1) = true := decide_eq_true (by omega)
              have j3 : decide ((j : Int) < (nc : Int) + 1) = true := decide_eq_true (by omega)
              have j4 : decide (j ≤ nc) = true := decide_eq_true (by omega)
              have j5 : (j : Int) < (nc : Int) + 1 := by omega
              have j6 : (0 : Int) ≤ (j : Int) := by omega
              have j7 : IntKind.i64.wrap ((j : Int) + 1) = ((j + 1 : Nat) : Int) := by
                have := HCN.out
                have := HNC.out
                simp [IntKind.wrap, IntKind.signed, IntKind.bits]
                omega
              obtain ⟨z, hz⟩ : ∃ z, (cs ++ [(m : Int)])[j]? = some z := by
                have : j < (cs ++ [(m : Int)]).length := by rw [List.length_append, ← HNC.out]; exact hlt
                exact ⟨_, List.getElem?_eq_getElem this⟩
              obtain ⟨T, rfl, hTb, hcz⟩ : ∃ T, s2 = some ⟨T, 0, none⟩ ∧ T < wr.heap.size ∧ wr.cell? ⟨T, j, none⟩ = some (.int .i64 z) := by
                rcases HI.out.row with ⟨h1, _⟩ | ⟨T, cap, zz, h1, _, _, _, K⟩
                · cases h1
                · injection h1 with e1 e2 e3
                  subst e1
                  exact ⟨T, rfl, K.lt, slice_int K j z hz⟩
              have hzr := HCI.out z (List.mem_of_getElem? hz)
              have hlast : j = nc → z = (m : Int) := fun h => by
                rw [h, HNC.out, List.getElem?_append_right (Nat.le_refl _)] at hz
                simpa using hz.symm
              have HLAST := Lib.hid hlast
              have HJ := Lib.hid (show j + 1 ≤ nc + 1 by omega)
              -- how many bytes come
              obtain ⟨q, hq⟩ : ∃ q : Nat, q = (max 0 (min z ((m - k : Nat) : Int))).toNat := ⟨_, rfl⟩
              have hqm : k + q ≤ m := by omega
              have hsub : IntKind.i64.wrap ((m : Int) - (k : Int)) = ((m - k : Nat) : Int) := by
                have := HM.out
                have := HLN.out
                simp [IntKind.wrap, IntKind.signed, IntKind.bits]
                omega
              have hadd : IntKind.i64.wrap ((k : Int) + (q : Int)) = (k : Int) + (q : Int) := by
                have := HM.out
                have := HLN.out
                simp [IntKind.wrap, IntKind.signed, IntKind.bits]
                omega
              obtain ⟨r, hr⟩ : ∃ r, r = m - k := ⟨_, rfl⟩
              rw [← hr] at hq hsub
              obtain ⟨mn, hmn⟩ : ∃ mn : Int, mn = min z (r : Int) := ⟨_, rfl⟩
              rw [← hmn] at hq
              have hmin : (if ((r : Nat) : Int) < z then ((r : Nat) : Int) else z) = mn := by rw [hmn]; split <;> omega
              have hmax : (if 0 < mn then mn else 0) = (q : Int) := by rw [hq]; split <;> omega
              have HQL : Hid (j = nc → k + q = m) := fun h => by have := HLAST.out h; omega
              obtain ⟨s3, c3, hsl, hbs⟩ := HMS.out k q hqm
              have HQM := Lib.hid hqm
              have HBS := Lib.hid hbs
              clear hlast hz hmn hq hr hqm hbs hlt hjk hzr
              obtain ⟨v1, hF, hMd⟩ := HI.out.feed
              have hsz := HI.out.bel.size
              have hown : ∀ t, slb v1 t → wb.heap.size ≤ t := fun t ht => (hF.2.slb_lo ht).1
              have HAD := Lib.hid (fadd_on p wb.heap.size q c3 s3 v1 (E.take k) ((E.drop k).take q) wr (HLB.out.below HI.out.bel HLB.out.size) HLB.out.size (by rw [HP.out]; exact Nat.le_refl _) hsz hF (fun x h => HX.out x (List.mem_of_mem_take h)) (bsn_old (HBS.out.keep HI.out.bel (Nat.le_refl _)) hsz (by rw [HP.out]; exact Nat.le_refl _) hF.2) (by rw [List.length_take, List.length_drop]; have := HLN.out; omega))
              have HFD := Lib.hid hF
              have HMD := Lib.hid hMd
              have HOW := Lib.hid hown
              clear hF hMd hsz hown
              go_wp2_with fail
              refine HAD.out.mono ?_
              rintro r' w5 ⟨rv, v5, L5, rfl, hF5, hM5, ho5, hb5, hs5, hl5⟩
              rw [take_two] at hF5 ho5
              have hMk : MadeM w5 wb.heap.size v5 (.slice so lo co) L := HMD.out.butF HFD.out hb5 hs5
              have hRow : MineR intR w5 wb.heap.size (.slice (some ⟨T, 0, none⟩) (nc + 1) c2) (cs ++ [(m : Int)]) := HI.out.row.butI HFD.out hb5
              have HB5 : Hid (Below wb.heap.size wb w5) := HI.out.bel.trans hl5
              obtain ⟨sr5, cr5, rfl⟩ := hM5.1.slice
              obtain ⟨slo, clo, hse⟩ := hMk.1.slice
              injection hse with e1 e2 e3
              subst e1
              clear e2
              subst e3
              have hfew : L.length + L5.length ≤ 1000000 := by
                have h1 := congrArg List.length ho5
                have h2 := congrArg List.length HI.out.out
                rw [List.length_append, List.length_map] at h1
                rw [List.length_map] at h2
                have h3 := out_few (E.take (k + q))
                rw [List.length_take] at h3
                have := HLN.out
                omega
              obtain ⟨v6, W6, hr6, hM6, hb6, hB6⟩ := appR frR_ok L L5 (.slice so lo co) (.slice sr5 L5.length cr5) wb.heap.size w5 hMk.1 HB5.out.size (hM5.1.rows frR_ok) (by omega)
              obtain ⟨s6, c6, rfl⟩ := hM6.slice
              have HINV : Hid (FedInv wb W6 p E (k + q) (.slice s6 (L ++ L5).length c6) (.slice (some ⟨T, 0, none⟩) (nc + 1) c2) (L ++ L5) (cs ++ [(m : Int)])) := by
                refine ⟨⟨v5, hF5.butR hMk.1 hB6, hM6, fun x hx => ?_⟩, ?_, HB5.out.trans hb6, MineR.but (by decide) hRow hMk.1 hB6, ?_⟩
                · rcases List.mem_append.1 hx with h | h
                  · exact ⟨(hMk.2 x h).1.butR hMk.1 hB6, (hMk.2 x h).2⟩
                  · exact ⟨((hM5.2 x h).1.butR hMk.1 hB6).mono HI.out.bel.size, (hM5.2 x h).2⟩
                · rw [List.map_append, HI.out.out]
                  exact ho5
                · have h1 := congrArg List.length ho5
                  have h2 := congrArg List.length HI.out.out
                  rw [List.length_append, List.length_map] at h1
                  rw [List.length_map] at h2
                  have h3 := out_few (E.take (k + q))
                  rw [List.length_take] at h3
                  rw [List.length_append]
                  omega
              have HF6 : Hid (FeedM W6 p wb.heap.size v5 (FZ (E.take (k + q))).h (FZ (E.take (k + q))).e) := hF5.butR hMk.1 hB6
              obtain ⟨n6, hn6⟩ : ∃ n6, n6 = (L ++ L5).length := ⟨_, rfl⟩
              rw [← hn6] at hr6 HINV
              obtain ⟨n5, hn5⟩ : ∃ n5, n5 = L5.length := ⟨_, rfl⟩
              rw [← hn5] at hr6 ⊢
              clear hn5 hF5 hM5 ho5 hb5 hs5 hl5 hMk hRow hfew hM6 hb6 hB6 HAD HFD HMD HOW hn6 hcz hTb
              go_upto_region 30 with (refine wpList_appG (v1 := .slice so lo co) (v2 := .slice sr5 n5 cr5) 37 rfl (.tmp 101) (.tmp 108) rfl rfl rfl rfl hr6 ?_)
              clear hr6
              clear HF6
              go_wp2_with fail
              go_roundw
              case rel => exact ⟨j + 1, k + q, s6, n6, c6, L ++ L5, HJ.out, HQM.out, by first | rfl | (push_cast; rfl), by first | rfl | (push_cast; rfl), rfl, fun h => HQL.out (by omega), HINV.out⟩
              case measure => have := HJ.out; simp [intOf]; omega
            · have hjn : j = nc + 1 := by omega
              have j1 : decide ((j : Int) < ((nc + 1 : Nat) : Int)) = false := decide_eq_false (by omega)
              have j2 : decide (j < nc + 1) = false := decide_eq_false (by omega)
              have j3 : decide ((j : Int) < (nc : Int) + 1) = false := decide_eq_false (by omega)
              have j4 : decide (j ≤ nc) = false := decide_eq_false (by omega)
              have hkm := hjk hjn
              subst hkm
              obtain ⟨v1, hF, hMd⟩ := HI.out.feed
              have htk : E.take k = E := by rw [HM.out, List.take_length]
              have ho := HI.out.out
              rw [htk, HFZ.out] at ho
              obtain ⟨x, rfl⟩ : ∃ x, L = [x] := by
                cases L with
                | nil => simp at ho
                | cons x t =>
                  cases t with
                  | nil => exact ⟨x, rfl⟩
                  | cons y t => simp at ho
              have hx1 : x.wd = wordsL ∧ x.da = D := by simpa [FrM.pr] using ho
              obtain ⟨so', co', hse⟩ := hMd.1.slice
              injection hse with e1 e2 e3
              clear e1 e3
              obtain rfl : lo = 1 := e2
              obtain ⟨bl, rfl, hbl, hl0, hl1⟩ := cells_madeF hMd 0 x rfl
              rw [hx1.1, words_str] at hl0
              have hdat := (hMd.2 x List.mem_cons_self).1.bs (by rw [hx1.2]; exact HDX.out)
              have hdv : x.dv = .slice x.ds nD x.dc := by
                unfold FrM.dv
                rw [hx1.2, HND.out]
              rw [hdv, hx1.2] at hdat
              rw [hdv] at hl1
              have hl0' : wr.cell? ⟨bl, 0, none⟩ = some (.string ⟨#[119, 111, 114, 100, 115]⟩) := hl0
              have hl1' : wr.cell? ⟨bl, 1, none⟩ = some (.slice x.ds nD x.dc) := hl1
              obtain ⟨s8, hs8⟩ : ∃ s, s = x.ds := ⟨_, rfl⟩
              obtain ⟨c8, hc8⟩ : ∃ c, c = x.dc := ⟨_, rfl⟩
              rw [← hs8, ← hc8] at hl1' hdat
              have HR := Lib.hid (read_any D (.slice s8 nD c8) wr hdat (by have := HDL.out; omega) HDX.out)
              have HBW := Lib.hid (HW5.out.trans (HI.out.bel.mono HW5.out.size))
              have qw : (⟨#[119, 111, 114, 100, 115]⟩ : ByteArray).toList == (⟨#[119, 111, 114, 100, 115]⟩ : ByteArray).toList := by simp
              have qv : ((⟨#[119, 111, 114, 100, 115]⟩ : ByteArray).toList == (⟨#[119, 111, 114, 100, 115]⟩ : ByteArray).toList) = true := by simp
              clear hF hMd htk ho hlt hjk hjn HI hl0 hl1 hdat hdv hx1 hs8 hc8 hj hk
              go_wp2_with fail
              refine HR.out.mono ?_
              rintro e w7 ⟨pr, v7, rfl, hR7, hb7, hp7, _⟩
              have HPR : Hid (w.heap.size ≤ pr) := Nat.le_trans HBW.out.size hp7
              have HST4 : Hid (RdInv w w7 pr (txtL (DL.drop 0) ++ numsL NS)) := by
                refine ⟨⟨v7, ?_⟩, below_step HBW.out HBW.out.size hb7⟩
                rw [List.drop_zero, ← HDD.out]
                exact hR7
              clear hR7 hb7 hp7 HR HBW hl0' hl1' hbl qw qv j1 j2 j3 j4
              go_wp2_with fail
              go_loopw [131] (fun iv wr => ∃ i : Nat, i ≤ n0 ∧ iv = .int .i64 (i : Int) ∧ Hid (RdInv w wr pr (txtL (DL.drop i) ++ numsL NS))) (fun iv _ => n0 - (intOf iv).toNat)
              case atStart => exact ⟨0, Nat.zero_le _, rfl, HST4.out⟩
              case round =>
                obtain ⟨i, hi, rfl, HI⟩ := hrel
                clear HST4
                by_cases hlt : i < n0
                · have j1 : decide ((i : Int) < (n0 : Int)) = true := decide_eq_true (by omega)
                  have j2 : decide (i < n0) = true := decide_eq_true hlt
                  have j3 : (i : Int) < (n0 : Int) := by omega
                  have j4 : (0 : Int) ≤ (i : Int) := by omega
                  have hiw : IntKind.i64.wrap ((i : Int) + 1) = ((i + 1 : Nat) : Int) := by
                    have := H10.out
                    simp [IntKind.wrap, IntKind.signed, IntKind.bits]
                    omega
                  obtain ⟨d, hdd⟩ : ∃ d, DL[i]? = some d := ⟨_, List.getElem?_eq_getElem (by have := HN0.out; omega)⟩
                  obtain ⟨pb, po, rfl, hpb, hpc⟩ := HDP.out (by rintro rfl; cases hdd)
                  obtain ⟨u, hcu, hbu⟩ := hpc i d hdd
                  obtain ⟨su, cu, rfl, hbu2⟩ := hbu
                  have hbu : BsV w w.heap.size (.slice su d.length cu) d := ⟨su, cu, rfl, hbu2⟩
                  have hbx : ∀ x ∈ d, x < 256 := hbu2.2.2.1
                  have hbel := HI.out.bel
                  have hcd : wr.cell? ⟨pb, po + i, none⟩ = some (.slice su d.length cu) := (hbel.cell (p := ⟨pb, po + i, none⟩) hpb).trans hcu
                  have hzp : pb < wr.heap.size := Nat.lt_of_lt_of_le hpb hbel.size
                  have h5 : d.length ≤ 500 := (HDB.out d (List.mem_of_getElem? hdd)).1
                  have hrt : rdText (txtL (DL.drop i) ++ numsL NS, 0) 500 = (d, (txtL (DL.drop (i + 1)) ++ numsL NS, 0)) := by
                    rw [txtL_drop DL i d hdd, List.append_assoc]
                    exact rdText_app d _ h5
                  have hok : StOk (txtL (DL.drop i) ++ numsL NS, 0) := by
                    refine ⟨?_, (by decide : (0 : Nat) < 1000)⟩
                    have h1 := txtL_len (DL.drop i) (fun b hb => (HDB.out b (List.mem_of_mem_drop hb)).1)
                    have h2 := numsL_len NS
                    have h3 := HN0.out
                    have h4 := HN1.out
                    have h6 := H10.out
                    rw [List.length_drop] at h1
                    show (txtL (DL.drop i) ++ numsL NS).length ≤ _
                    rw [List.length_append]
                    omega
                  obtain ⟨v, hR⟩ := HI.out.k
                  have HTW : Hid (∀ W, RdS W pr v (txtL (DL.drop i) ++ numsL NS, 0) → Below w.heap.size w W → Calls Tryd.prog 32 #[.pointer (some ⟨pr, 0, none⟩), .int .i64 500] W fun r w' => ∃ s n c, r = .returned (.slice s n c) ∧ (∀ w2, Below w'.heap.size w' w2 → (convert 22 9 (.slice s n c)).run Tryd.prog w2 = .ok (.string (strN d)) w2) ∧ RdInv w w' pr (txtL (DL.drop (i + 1)) ++ numsL NS)) := fun W hW hWb => by
                    refine (rtext_any pr 500 v (txtL (DL.drop i) ++ numsL NS, 0) W hW hok (by decide)).mono ?_
                    rintro r w' ⟨u, rfl, hM, v', hT⟩
                    rw [hrt] at hM hT
                    obtain ⟨s, c, rfl⟩ := hM.slice
                    exact ⟨s, _, c, rfl, fun w2 h2 => conv_bs ((hM.bs hbx).keep h2 (Nat.le_refl _)), RdInv.next HPR.out hWb hT⟩
                  have hcv : ∀ w', Below w.heap.size w w' → (convert 22 9 (.slice su d.length cu)).run Tryd.prog w' = .ok (.string (strN d)) w' := fun w' h => conv_bs (hbu.keep h (Nat.le_refl _))
                  obtain ⟨ud, hud⟩ : ∃ u, u = strN d := ⟨_, rfl⟩
                  obtain ⟨ld, hld⟩ : ∃ l, l = d.length := ⟨_, rfl⟩
                  rw [← hud] at HTW hcv
                  rw [← hld] at hcv hcd
                  have heq : (ud.toList == ud.toList) = true := by simp
                  have HRW := Lib.hid hR
                  have HBL := Lib.hid hbel
                  have HJ := Lib.hid (show i + 1 ≤ n0 by omega)
                  clear hlt hi hbu hbu2 hbx hcu hpc hdd hpb h5 hrt hok hR hbel hud hld HI
                  go_upto_region 38 with fail
                  clear hcd hzp
                  have hBL := HBL.out
                  go_region_held (fun w' => Below w.heap.size w w')
                    (first | with_reducible assumption | exact HBL.out | exact HBL.out.drew)
                    (first
                      | (go_at_call 32
                         refine (HTW.out _ (by exact HRW.out) (by first | with_reducible assumption | exact HBL.out | exact HBL.out.drew)).mono ?_
                         rintro e w9 ⟨s9, m9, c9, rfl, hc9, hI9⟩
                         have hE9 : Below w.heap.size w w9 := hI9.bel
                         have HI9 := Lib.hid hI9
                         have hc9s := hc9 w9 (Below.refl _ _)
                         have hc9d := hc9 w9.drew (Below.refl _ _).drew)
                      | fail)
                  all_goals
                    go_wp2_with fail
                    go_roundw
                    case rel => exact ⟨i + 1, HJ.out, by first | rfl | (push_cast; rfl), HI9.out⟩
                    case measure => have := HJ.out; simp [intOf]; omega
                · have j1 : decide ((i : Int) < (n0 : Int)) = false := decide_eq_false (by omega)
                  have j2 : decide (i < n0) = false := decide_eq_false hlt
                  have hdn : txtL (DL.drop i) = [] := by
                    have h := HN0.out
                    rw [List.drop_of_length_le (by omega)]
                    rfl
                  have HST5 : Hid (RdInv w wr pr (numsL (NS.drop 0))) := by
                    have h := HI.out
                    rw [hdn] at h
                    exact h
                  clear hlt hi hdn HI
                  go_wp2_with fail
                  clear j1 j2
                  go_loopw [144] (fun iv wr => ∃ i : Nat, i ≤ n1 ∧ iv = .int .i64 (i : Int) ∧ Hid (RdInv w wr pr (numsL (NS.drop i)))) (fun iv _ => n1 - (intOf iv).toNat)
                  case atStart => exact ⟨0, Nat.zero_le _, rfl, HST5.out⟩
                  case round =>
                    obtain ⟨i, hi, rfl, HI⟩ := hrel
                    clear HST5
                    have hok : ∀ j, StOk (numsL (NS.drop j), 0) := fun j => by
                      refine ⟨?_, (by decide : (0 : Nat) < 1000)⟩
                      have h1 := numsL_len (NS.drop j)
                      have h2 := HN1.out
                      have h3 := H10.out
                      rw [List.length_drop] at h1
                      show (numsL (NS.drop j)).length ≤ _
                      omega
                    obtain ⟨v, hR⟩ := HI.out.k
                    have HBL := Lib.hid HI.out.bel
                    by_cases hlt : i < n1
                    · have j1 : decide ((i : Int) < (n1 : Int)) = true := decide_eq_true (by omega)
                      have j2 : decide (i < n1) = true := decide_eq_true hlt
                      have j3 : (i : Int) < (n1 : Int) := by omega
                      have j4 : (0 : Int) ≤ (i : Int) := by omega
                      have hiw : IntKind.i64.wrap ((i : Int) + 1) = ((i + 1 : Nat) : Int) := by
                        have := H10.out
                        simp [IntKind.wrap, IntKind.signed, IntKind.bits]
                        omega
                      obtain ⟨n, hx⟩ : ∃ n, NS[i]? = some n := ⟨_, List.getElem?_eq_getElem (by have := HN1.out; omega)⟩
                      obtain ⟨bw, ow, rfl, hbw, hnw2, hcw⟩ := HN.out.at_ (by rintro rfl; cases hx)
                      have hcx : wr.cell? ⟨bw, ow + i, none⟩ = some (.int .u64 (n : Int)) := by
                        have h := hcw i n hx 0 _ rfl
                        have e : ow + i * u64R.k + 0 = ow + i := by show ow + i * 1 + 0 = _; omega
                        rw [e] at h
                        exact (HBL.out.cell (p := ⟨bw, ow + i, none⟩) hbw).trans h
                      have hzw : bw < wr.heap.size := Nat.lt_of_lt_of_le hbw HBL.out.size
                      have h64 := HNX.out n (List.mem_of_getElem? hx)
                      have hds := numsL_drop NS i n hx
                      have hrc : rdCount (numsL (NS.drop i), 0) n = (n, (toL n 8 ++ numsL (NS.drop (i + 1)), 0)) := by
                        rw [hds, List.append_assoc]
                        exact rdCount_fits n n _ h64 (Nat.le_refl _)
                      have hrn : rdNum (toL n 8 ++ numsL (NS.drop (i + 1)), 0) 8 = (n, (numsL (NS.drop (i + 1)), 0)) := rdNum_toL 8 n _ 0 8 rfl (by decide) (by
                        have : (256 : Nat) ^ 8 = 18446744073709551616 := by decide
                        omega)
                      have hok2 : StOk (toL n 8 ++ numsL (NS.drop (i + 1)), 0) := by
                        have h := (hok (i + 1)).1
                        have h1 := numsL_len (NS.drop (i + 1))
                        have h2 := HN1.out
                        have h3 := H10.out
                        rw [List.length_drop] at h1
                        refine ⟨?_, (by decide : (0 : Nat) < 1000)⟩
                        show (toL n 8 ++ numsL (NS.drop (i + 1))).length ≤ _
                        rw [List.length_append, toL_length]
                        omega
                      have HCT := rcount_any pr n v (numsL (NS.drop i), 0) wr hR (hok i)
                      rw [hrc] at HCT
                      have HCT := Lib.hid HCT
                      have HRN := Lib.hid hrn
                      have HOK := Lib.hid hok2
                      have HJ := Lib.hid (show i + 1 ≤ n1 by omega)
                      have q5 : ((n : Int) != (n : Int)) = false := by simp
                      clear hlt hi hx hbw hnw2 hcw hds hrc hrn hok2 hok hR HI
                      go_wp2_with fail
                      refine HCT.out.mono ?_
                      rintro e w9 ⟨rfl, v9, hT9⟩
                      have hI9 := RdInv.next HPR.out HBL.out hT9
                      have HNM := num_any pr 8 v9 (toL n 8 ++ numsL (NS.drop (i + 1)), 0) w9 hT9.1 HOK.out
                      rw [HRN.out] at HNM
                      have HNM := Lib.hid HNM
                      have HB9 := Lib.hid hI9.bel
                      clear hT9 hI9 hcx hzw HCT HBL HOK HRN
                      go_wp2_with fail
                      refine HNM.out.mono ?_
                      rintro e w10 ⟨rfl, v10, hT10⟩
                      have HI10 := Lib.hid (RdInv.next HPR.out HB9.out hT10)
                      clear hT10 HNM HB9
                      go_wp2_with fail
                      go_roundw
                      case rel => exact ⟨i + 1, HJ.out, by first | rfl | (push_cast; rfl), HI10.out⟩
                      case measure => have := HJ.out; simp [intOf]; omega
                    · have j1 : decide ((i : Int) < (n1 : Int)) = false := decide_eq_false (by omega)
                      have j2 : decide (i < n1) = false := decide_eq_false hlt
                      have hdn : numsL (NS.drop i) = [] := by
                        have h := HN1.out
                        rw [List.drop_of_length_le (by omega)]
                        rfl
                      rw [hdn] at hR
                      have HEN := Lib.hid (rend_any pr v ([], 0) wr hR)
                      clear hlt hi hdn hR hok HI
                      go_wp2_with fail
                      refine HEN.out.mono ?_
                      rintro e w9 ⟨rfl, rfl⟩
                      go_wp2_with fail
                      go_ret
                      exact ⟨rfl, HBL.out⟩

/-- The door's own heap meets the condition. -/
theorem door_met (os : Os) (args : Array Value) : laidMetH Tryd.prog laidL ((World.doorLaid Tryd.prog 19 os).forCall (fun _ _ => 0) ⟨#[], args, []⟩).memory :=
  laidMetH_of_parts3 (fuel := 8) (laidMet_of_run' 8 (by kernel_rfl) (by kernel_rfl)) (by kernel_rfl) (by kernel_rfl)

set_option maxRecDepth 100000 in
theorem lifted (os : Os) (started : os.Started) (H : Type) (enc : TypeId × Value → H) :
    ReturnsInHanded {} Tryd.checked os 9 .any (fun w args => (Rows.wholeWordsSpec.pre enc Tryd.prog Tryd.f9 [] false w args ∧ laidMetH Tryd.prog laidL w) ∧ sizedMet enc Tryd.prog Tryd.f9 (OpenSpec.ofChange Rows.wholeWordsSpec) false w args)
      (Rows.wholeWordsSpec.post enc Tryd.prog Tryd.f9 false true false false) := by
  refine returnsInHanded_of_change_and (C := Tryd.checked) (X := fun w _ => laidMetH Tryd.prog laidL w) (fun _ _ _ hh h => h.of_heap hh) own started (by kernel_rfl) Tryd.func9
    (ChangeSpec.witness_shaped (enc := enc) (C := Tryd.checked) (os := os) (X := fun w _ => laidMetH Tryd.prog laidL w) false (World.doorLaid Tryd.prog 19 os) #[.slice none 0 0, .slice none 0 0, .slice none 0 0] 8 rfl (World.shaped_of_RefB (by kernel_rfl) (by kernel_rfl)) (by kernel_rfl) (by kernel_rfl) (by kernel_rfl) (door_met os _)) ?_
  intro W base args ds gs before hval0 hW _ _ hL _
  have hval : ∀ (j : Nat) t v, Tryd.f9.params[j]? = some t → args[j]? = some v → Value.okWide Tryd.prog W .any base t v := hval0
  have hW' := hW
  obtain ⟨p, q, hA0, hV, rfl, hfz, hnd⟩ := hW
  have hA : DataW.TrodAll enc Tryd.prog W 0 (fun _ => true) true Tryd.f9.params.toList args.toList ds p := hA0
  rw [Tryd.params9] at hA hval
  obtain ⟨v0, vs0, d0, ds0, p0, q0, hargs, rfl, rfl, h0, r0⟩ := trodAll_cons hA
  obtain ⟨v1, vs1, d1, ds1, p1, q1, rfl, rfl, rfl, h1, r1⟩ := trodAll_cons r0
  obtain ⟨v2, vs2, d2, ds2, p2, q2, rfl, rfl, rfl, h2, r2⟩ := trodAll_cons r1
  obtain ⟨rfl, rfl, rfl⟩ := trodAll_nil r2
  obtain rfl : args = #[v0, v1, v2] := by cases args; simp_all
  obtain ⟨rfl, rfl⟩ := trodVars_none hV
  have lt0 : ∀ x ∈ p0, x.block < W.heap.size := by obtain ⟨m, hm⟩ := h0; exact DataW.trod_lt m _ _ _ hm
  have lt1 : ∀ x ∈ p1, x.block < W.heap.size := by obtain ⟨m, hm⟩ := h1; exact DataW.trod_lt m _ _ _ hm
  have lt2 : ∀ x ∈ p2, x.block < W.heap.size := by obtain ⟨m, hm⟩ := h2; exact DataW.trod_lt m _ _ _ hm
  have hb0 := parts_arg (hval 0 53 v0 rfl rfl) h0
  obtain ⟨x1, hb1⟩ := u64s_arg (hval 1 56 v1 rfl rfl) h1
  obtain ⟨x2, hb2⟩ := ints_arg (hval 2 41 v2 rfl rfl) h2
  have hwalk := walk x1 x2 v0 v1 v2 W (of_laid hL) hb0 hb1.1 hb1.2 hb2.1 hb2.2
  clear hA0 hval0
  refine hwalk.mono fun e W' ⟨he, bel⟩ => ?_
  subst he
  exact ⟨_, rfl, _, _, _, [], _, [], hW', trodAll_mk1 (shut_bool Tryd.underlying4 _), (trodAll_cons_mk (Below.trod laidOut (by kernel_rfl) (of_decide_eq_true (by kernel_rfl)) h0 bel lt0) (trodAll_cons_mk (Below.trod laidOut (by kernel_rfl) (of_decide_eq_true (by kernel_rfl)) h1 bel lt1) (trodAll_cons_mk (Below.trod laidOut (by kernel_rfl) (of_decide_eq_true (by kernel_rfl)) h2 bel lt2) trodAll_mk0))), rfl, bel.frame _, fun h => by cases h⟩

theorem over : Rows.WholeWordsSaid :=
  OpenClaim.holds_of_wide 9 Tryd.f9 rfl rfl rfl rfl rfl rfl rfl ⟨rfl, rfl, rfl, rfl, rfl⟩ rfl rfl rfl rfl rfl (by kernel_rfl) Tryd.func9 (by kernel_rfl)
    (of_decide_eq_true (by kernel_rfl)) (by unfold Func.isWrapper; first | (rw [if_pos (by decide +kernel)]; kernel_rfl) | (rw [if_neg (by decide +kernel)]; exact ⟨rfl, rfl⟩))
    (fun os started H enc _ => lifted os started H enc)

theorem proved : Rows.WholeWordsCardSaid :=
  Claim7.holds_tied_plain_at .later [] [.data, .data] true Rows.wholeWordsCard.stood.harness false
    over (fun _ h => by cases h) (by kernel_rfl) (fun _ h => by cases h) wholeWords_row_tie rfl ⟨rfl, rfl⟩ (by kernel_rfl) rfl
    (fun f fn hf hfn => by
      obtain rfl : f = 9 := Option.some.inj ((show Tryd.prog.funcNamed "tallystick/tallysticktop.WholeWords" = some 9 by kernel_rfl).symm.trans hf) |>.symm
      obtain rfl : fn = Tryd.f9 := (Option.some.inj (Tryd.func9.symm.trans hfn)).symm
      exact ⟨by kernel_rfl, fun j t ht => by
        rw [Tryd.params9] at ht
        have hm : t ∈ [53, 56, 41] := by simpa using Array.mem_of_getElem? ht
        have hall : ([53, 56, 41].all fun u => !Tryd.prog.wantsStandIn u) = true := by kernel_rfl
        exact (show Tryd.prog.wantsStandIn t = false by simpa using List.all_eq_true.1 hall t hm)⟩)
    (by kernel_rfl)
#print axioms proved
end Go.Proofs.YtanefmjjbilmiaaDoor.wholeWords
