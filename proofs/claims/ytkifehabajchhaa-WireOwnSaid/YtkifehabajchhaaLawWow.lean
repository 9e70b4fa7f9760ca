/-
  What is proved: for every slice of bytes the law WireOwn returns true, and its argument reads behind the call as it read before it. No condition.
-/
import Derived.Test.YtkifehabajchhaaWmb
import Derived.Test.YtkifehabajchhaaByA
import Derived.Test.YtkifehabajchhaaOpen
namespace Go.Proofs.Ytkifehabajchhaa.wireOwn
open Go.ChangeShapes Go.WideShapes Go.ChangeAt Go.RowKit
set_option linter.unusedVariables false

theorem own : ownKnob Try.prog.godebug = none := by kernel_rfl
theorem laidOut : laidOutB Try.prog = true := by kernel_rfl

theorem wp_any2 {P : Program} {c : Code} {Q : Exit → Act → World → Prop} {a : Act} {w : World} (S : World → Prop) (hS : S w) (h : ∀ W, S W → c.wp P Q a W) : c.wp P Q a w := h w hS
theorem byte_up (y : Nat) : IntKind.u8.wrap ((y : Int) + 1) = (((y + 1) % 256 : Nat) : Int) := by
  simp [IntKind.wrap, IntKind.signed, IntKind.bits]
theorem idA_put (ys : List Nat) (k y : Nat) : (idA ys).setIfInBounds k (.int .u8 (y : Int)) = idA (ys.set k y) := by
  unfold idA byteV
  simp [List.map_set]
/-- Memory of the call's own, of at least so many bytes. -/
def Own (W : World) (T n : Nat) : Prop := 0 < n → ∃ ys, n ≤ ys.length ∧ (∀ y ∈ ys, y < 256) ∧ Bk W T 5 (idA ys)
theorem Own.but {W W' : World} {T n : Nat} {S : Nat → Prop} (h : Own W T n) (hb : But S W W') (hn : 0 < n → ¬ S T) : Own W' T n := fun hp => by
  obtain ⟨ys, h1, h2, h3⟩ := h hp
  exact ⟨ys, h1, h2, hb.keep h3 (hn hp)⟩
theorem Own.keep {W W' : World} {T n : Nat} (h : Own W T n) (hb : Below W.heap.size W W') : Own W' T n := h.but (S := fun _ => False) (But.of hb) (fun _ h => h)
theorem mine_own {W : World} {lo : Nat} {v : Value} {xs : List Nat} (h : Mine W lo v xs) (hx : ∀ x ∈ xs, x < 256) : ∃ s c T, v = .slice s xs.length c ∧ xs.length ≤ c ∧ (0 < xs.length → s = some ⟨T, 0, none⟩ ∧ lo ≤ T ∧ T < W.heap.size) ∧ Own W T xs.length := by
  rcases h with ⟨rfl, rfl⟩ | ⟨T, cap, z, rfl, hc, hc2, hT, K⟩
  · exact ⟨none, 0, 0, rfl, Nat.le_refl _, fun h => absurd h (by simp), fun h => absurd h (by simp)⟩
  · refine ⟨_, cap, T, rfl, by omega, fun _ => ⟨rfl, hT, K.lt⟩, fun _ => ⟨xs ++ zeros z, by simp, ?_, K⟩⟩
    intro y hy
    rcases List.mem_append.1 hy with h | h
    · exact hx y h
    · exact zeros_lt _ y h
set_option maxRecDepth 100000 in
set_option maxHeartbeats 1000000 in
theorem walk_big (s : Option Addr) (len cap : Nat) (w : World) (h : 1000 < len) :
    Calls Try.prog 9 #[.slice s len cap] w fun e w' => e = .returned (.bool true) ∧ Below w.heap.size w w' := by
  have hz : (1000 : Int) < (len : Int) := by omega
  go_enter Try.func9, Try.ntmps9
  go_wp2_with fail
  refine (writes_any _).mono ?_
  rintro e w1 ⟨rfl, hb1⟩
  go_wp2_with fail
  go_ret
  exact ⟨rfl, hb1⟩
theorem rd_lt {w : World} {p e : Nat} {v : Value} {xs : List Nat} (h : Rd w p v xs e) (hne : xs ≠ []) (j : Nat) (hj : slb v j) : j < w.heap.size := by
  obtain ⟨_, ⟨s, cap, rfl, _, _, _, h4⟩, _⟩ := h
  obtain ⟨b, o, rfl, hb, _⟩ := h4 hne
  rw [slb_some hj]
  exact hb
set_option maxRecDepth 100000 in
set_option maxHeartbeats 6000000 in
theorem walk_inn (xs : List Nat) (s : Option Addr) (cap : Nat) (w : World) (hb : BsV w w.heap.size (.slice s xs.length cap) xs) (hl : xs.length ≤ 1000) :
    Calls Try.prog 9 #[.slice s xs.length cap] w fun e w' => e = .returned (.bool true) ∧ Below w.heap.size w w' := by
  have HX := Lib.hid (show ∀ x ∈ xs, x < 256 by obtain ⟨_, _, _, _, _, h, _⟩ := hb; exact h)
  obtain ⟨m, hmm⟩ : ∃ m, m = xs.length := ⟨_, rfl⟩
  rw [← hmm] at hl hb ⊢
  have HB := Lib.hid hb
  have HMM := Lib.hid hmm
  have hz : decide ((1000 : Int) < (m : Int)) = false := decide_eq_false (by omega)
  clear hb hmm
  go_enter Try.func9, Try.ntmps9
  go_wp2_with fail
  refine (writes_any _).mono ?_
  rintro e w1 ⟨rfl, hW⟩
  have hA : Below w1.heap.size w1 (w1.alloc (.cells #[] 5)) := (Below.refl _ _).alloc (Nat.le_refl _) _
  obtain ⟨v0, W, hrun, M0, B0, O0⟩ := app3 [] xs (.slice (some ⟨w1.heap.size, 0, none⟩) 0 0) (.slice s m cap) w.heap.size (w1.alloc (.cells #[] 5)) (.inr ⟨w1.heap.size, 0, 0, rfl, rfl, by omega, hW.size, Bk.new _ _ _⟩) (Nat.le_trans hW.size hA.size) (((HB.out.keep hW (Nat.le_refl _)).keep hA hW.size).mono (Nat.le_trans hW.size hA.size)) (by have := HMM.out; simp; omega)
  have hW := (hW.trans (hA.mono hW.size)).trans (B0.below (Nat.le_trans hW.size hA.size) (fun k hk => by rw [slb_some hk]; exact hW.size))
  rw [List.nil_append] at M0
  obtain ⟨s0, c0, T0, e0, hc0, h0, O0'⟩ := mine_own M0 HX.out
  have M0 := Lib.hid M0
  rw [← HMM.out] at e0 hc0 h0 O0'
  subst e0
  go_upto_region 6 with (at_builtin; refine wpList_app (v1 := .slice (some ⟨w1.heap.size, 0, none⟩) 0 0) (v2 := .slice s m cap) (v := .slice s0 m c0) rfl (.tmp 14) (.tmp 15) rfl rfl rfl rfl hrun ?_)
  clear hrun hA B0 O0
  go_upto_region 7 with fail
  refine wp_any2 (fun Z => Below w.heap.size w Z ∧ Bk Z W.heap.size 54 #[.slice none 0 0] ∧ Mine Z w.heap.size (.slice s0 m c0) xs ∧ Own Z T0 m) ⟨hW.alloc hW.size _, Bk.new _ _ _, M0.out.keep ((Below.refl _ _).alloc (Nat.le_refl _) _), O0'.keep ((Below.refl _ _).alloc (Nat.le_refl _) _)⟩ ?_
  have hgw := hW.size
  have NG0 : 0 < m → T0 ≠ W.heap.size := fun h => by have := (h0 h).2.2; omega
  have HT0 : Hid (0 < m → s0 = some ⟨T0, 0, none⟩ ∧ w.heap.size ≤ T0 ∧ T0 < W.heap.size) := h0
  clear hW M0 O0' h0
  generalize W.heap.size = g at *
  rintro Z ⟨hW, G, M0, O⟩
  have M0 := Lib.hid M0
  have O := Lib.hid O
  go_wp2_with fail
  have hA : Below Z.heap.size Z (Z.alloc (.cells #[.slice s0 m c0] 52)) := (Below.refl _ _).alloc (Nat.le_refl _) _
  have hgl := G.lt
  have hn0 : ¬ slb (.slice s0 m c0) g := M0.out.apart G wt_ne
  have hU : BsN Z (fun k => k = g ∨ slb (.slice none 0 0) k) (.slice s0 m c0) xs := by
    obtain ⟨s', cap', e, h1, h2, h3, h4⟩ := M0.out.bs HX.out
    refine ⟨s', cap', e, h1, h2, h3, fun hne => ?_⟩
    obtain ⟨b, o, e2, hlt, hc⟩ := h4 hne
    refine ⟨b, o, e2, hlt, ?_, hc⟩
    rintro (h | h)
    · apply hn0
      rw [e, e2, ← h]
      exact ⟨_, _, _, rfl, rfl⟩
    · exact slb_none _ _ _ h
  have MN : Mine (Z.alloc (.cells #[.slice s0 m c0] 52)) w.heap.size (.slice none 0 0) [] := .inl ⟨rfl, rfl⟩
  refine (raw_any g w.heap.size (some ⟨Z.heap.size, 0, none⟩) 1 [xs] [] (.slice none 0 0) _ (G.alloc _) MN (Nat.le_trans hW.size hA.size) (by have := HMM.out; simp; omega) (by simp) (partsN_one (hU.keep hA) (Bk.new _ _ _) (by
    rintro (h | h)
    · omega
    · exact slb_none _ _ _ h))).mono ?_
  rintro e w2 h
  have hW := (hW.alloc hW.size (.cells #[.slice s0 m c0] 52)).trans (h.below MN (B := w.heap.size) (Nat.le_refl _) hgw (Nat.le_trans hW.size hA.size))
  have h := h.before hA
  simp only [List.flatten_cons, List.flatten_nil, List.append_nil, List.nil_append] at h
  obtain ⟨rfl, v1, G2, M1, B2, O2⟩ := h
  have M2 := Lib.hid (M0.out.but B2 (fun k hk => by
    rintro (h | h)
    · rw [h] at hk
      exact hn0 hk
    · exact slb_none _ _ _ h))
  have OO := Lib.hid (O.out.but B2 (fun hp => by
    rintro (h | h)
    · exact NG0 hp h
    · exact slb_none _ _ _ h))
  have M1 := Lib.hid M1
  have hT0Z : 0 < m → T0 < Z.heap.size := fun hp => Nat.lt_trans (HT0.out hp).2.2 hgl
  have NM0 : Hid (0 < m → ∀ j, slb v1 j → j = T0 → False) := fun hp j hj e => by
    rcases O2 j hj with h | h
    · exact slb_none _ _ _ h
    · have := hT0Z hp
      omega
  have hT02 : Hid (0 < m → T0 < w2.heap.size) := fun hp => Nat.lt_of_lt_of_le (hT0Z hp) B2.size
  clear B2 O2 hU MN hA G hgl hn0 M0 O hT0Z
  go_wp2_with fail
  refine (read_any xs _ w2 (M2.out.bs HX.out) (by have := HMM.out; omega) HX.out).mono ?_
  rintro e w5 ⟨p, v5, rfl, R5, B5, hp, hv5⟩
  have R : Hid (RdS w5 p v5 (xs, 0)) := R5
  have HGP : Hid (w.heap.size ≤ p) := Nat.le_trans hW.size hp
  have hpl := R5.1.lt
  have NP0 : 0 < m → T0 ≠ p := fun h => by have := hT02.out h; omega
  have NR0 : Hid (0 < m → ∀ j, slb v5 j → j = T0 → False) := fun h j hj e => by have := hT02.out h; have := hv5 j hj; omega
  have G := G2.keep B5
  have M1 := Lib.hid (M1.out.keep B5)
  have O := Lib.hid (OO.out.keep B5)
  have hW := hW.trans (B5.mono hW.size)
  clear B5 G2 M2 OO hp hv5 R5 hT02
  go_wp2_with fail
  go_loopw [24] (fun i wr => ∃ k : Nat, k ≤ m ∧ i = .int .i64 k ∧ Hid (Below w.heap.size w wr) ∧ Bk wr g 54 #[v1] ∧ Hid (Mine wr w.heap.size v1 xs) ∧ Hid (RdS wr p v5 (xs, 0)) ∧ Hid (Own wr T0 m)) (fun i _ => m - (intOf i).toNat)
  case atStart => exact ⟨0, Nat.zero_le _, rfl, hW, G, M1.out, R.out, O.out⟩
  case round =>
    obtain ⟨k, hk, rfl, hWr, Gr, Mr, Rr, Or⟩ := hrel
    clear G M1 R O
    by_cases hlt : k < m
    · have hpos : 0 < m := by omega
      obtain ⟨rfl, hTlo, hTlt⟩ := HT0.out hpos
      obtain ⟨ys, hy1, hy2, KT⟩ := Or.out hpos
      have hcell := (KT.cell k).trans (idA_get ys k (by omega))
      have hfz := KT.frozen k
      have hzz := KT.lt
      generalize hy : ys.getD k 0 = y at hcell
      have HW8 := Lib.hid (byte_up y)
      have j1 : (k : Int) < (m : Int) := by omega
      have HY2 := Lib.hid hy2
      clear hy2 hy
      go_wp2_with fail
      go_roundw
      case rel =>
        have hS : ∀ u, But (fun j => j = T0) wr (wr.setCell ⟨T0, k, none⟩ u) := fun u => But.set_ (S := fun j => j = T0) (But.refl _ wr) (.inl rfl) k none _
        refine ⟨k + 1, by omega, by go_num, hWr.out.setCell hTlo _, (hS _).keep Gr (fun e => NG0 hpos e.symm), ?_, ?_, ?_⟩
        · exact Mr.out.but (hS _) (fun j hj e => NM0.out hpos j hj e)
        · exact Rd.but Rr.out (hS _) (fun e => NP0 hpos e.symm) (fun j hj e => NR0.out hpos j hj e)
        · intro _
          refine ⟨ys.set k ((y + 1) % 256), by rw [List.length_set]; exact hy1, ?_, ?_⟩
          · intro x hx
            rcases List.mem_or_eq_of_mem_set hx with h | h
            · exact HY2.out x h
            · omega
          · have e := KT.set_ k (.int .u8 (((y + 1) % 256 : Nat) : Int))
            rw [idA_put] at e
            first | exact e | (rw [← HW8.out] at e; exact e)
      case measure => simp [intOf]; omega
    · have hkm : k = m := by omega
      have hdk : decide (k < m) = false := decide_eq_false (by omega)
      clear hlt hkm
      go_wp2_with fail
      refine (bytes_any g w.heap.size xs v1 _ Gr Mr.out HX.out (by have := HMM.out; omega)).mono ?_
      rintro e w6 ⟨v6, rfl, M6, B6⟩
      obtain ⟨s6, c6, T2, e6, hc6, h6, O6⟩ := mine_own M6 HX.out
      rw [← HMM.out] at e6 hc6 h6 O6
      subst e6
      have hgr := Gr.lt
      have hpr := Rr.out.1.lt
      have NG2 : 0 < m → T2 ≠ g := fun h => by have := (h6 h).2.1; omega
      have NP2 : 0 < m → T2 ≠ p := fun h => by have := (h6 h).2.1; omega
      have NM2 : Hid (0 < m → ∀ j, slb v1 j → j = T2 → False) := fun h j hj e => by have := (h6 h).2.1; have := (Mr.out.slb_lo hj).2.1; omega
      have NR2 : Hid (0 < m → ∀ j, slb v5 j → j = T2 → False) := fun h j hj e => by
        have := (h6 h).2.1
        have h5 := Rr.out
        have := rd_lt (xs := xs) (e := 0) h5 (by intro e; have := HMM.out; rw [e] at this; simp at this; omega) j hj
        omega
      have hlo2 : w.heap.size ≤ wr.heap.size := hWr.out.size
      have HT2 : Hid (0 < m → s6 = some ⟨T2, 0, none⟩ ∧ w.heap.size ≤ T2 ∧ T2 < w6.heap.size) := fun h => ⟨(h6 h).1, Nat.le_trans hlo2 (h6 h).2.1, (h6 h).2.2⟩
      have hW := hWr.out.trans (B6.mono hlo2)
      have G := Gr.keep B6
      have M1 := Lib.hid (Mr.out.keep B6)
      have R := Lib.hid (Rd.keep Rr.out B6)
      have O := Lib.hid O6
      clear h6 O6 M6 B6 Gr Mr Rr Or hWr hlo2
      go_wp2_with fail
      go_loopw [37] (fun i wr => ∃ k : Nat, k ≤ m ∧ i = .int .i64 k ∧ Hid (Below w.heap.size w wr) ∧ Bk wr g 54 #[v1] ∧ Hid (Mine wr w.heap.size v1 xs) ∧ Hid (RdS wr p v5 (xs, 0)) ∧ Hid (Own wr T2 m)) (fun i _ => m - (intOf i).toNat)
      case atStart => exact ⟨0, Nat.zero_le _, rfl, hW, G, M1.out, R.out, O.out⟩
      case round =>
        obtain ⟨k, hk, rfl, hWr, Gr, Mr, Rr, Or⟩ := hrel
        clear G M1 R O
        by_cases hlt : k < m
        · have hpos : 0 < m := by omega
          obtain ⟨rfl, hTlo, hTlt⟩ := HT2.out hpos
          obtain ⟨ys, hy1, hy2, KT⟩ := Or.out hpos
          have hcell := (KT.cell k).trans (idA_get ys k (by omega))
          have hfz := KT.frozen k
          have hzz := KT.lt
          generalize hy : ys.getD k 0 = y at hcell
          have HW8 := Lib.hid (byte_up y)
          have j1 : (k : Int) < (m : Int) := by omega
          have HY2 := Lib.hid hy2
          clear hy2 hy
          go_wp2_with fail
          go_roundw
          case rel =>
            have hS : ∀ u, But (fun j => j = T2) wr (wr.setCell ⟨T2, k, none⟩ u) := fun u => But.set_ (S := fun j => j = T2) (But.refl _ wr) (.inl rfl) k none _
            refine ⟨k + 1, by omega, by go_num, hWr.out.setCell hTlo _, (hS _).keep Gr (fun e => NG2 hpos e.symm), ?_, ?_, ?_⟩
            · exact Mr.out.but (hS _) (fun j hj e => NM2.out hpos j hj e)
            · exact Rd.but Rr.out (hS _) (fun e => NP2 hpos e.symm) (fun j hj e => NR2.out hpos j hj e)
            · intro _
              refine ⟨ys.set k ((y + 1) % 256), by rw [List.length_set]; exact hy1, ?_, ?_⟩
              · intro x hx
                rcases List.mem_or_eq_of_mem_set hx with h | h
                · exact HY2.out x h
                · omega
              · have e := KT.set_ k (.int .u8 (((y + 1) % 256 : Nat) : Int))
                rw [idA_put] at e
                first | exact e | (rw [← HW8.out] at e; exact e)
          case measure => simp [intOf]; omega
        · have hkm : k = m := by omega
          have hdk : decide (k < m) = false := decide_eq_false (by omega)
          clear hlt hkm
          go_wp2_with fail
          have HW := Lib.hid hWr.out.drew
          have G9 := Gr.drew
          have M9 := Lib.hid (Mr.out.keep ((Below.refl _ _).drew))
          have R9 : Hid (RdS wr.drew p v5 (xs, 0)) := Rd.keep Rr.out ((Below.refl _ _).drew)
          have HBY : Hid (∀ W, Bk W g 54 #[v1] → Mine W w.heap.size v1 xs → Calls Try.prog 37 #[.pointer (some ⟨g, 0, none⟩)] W fun e w' => ∃ v', e = .returned v' ∧ Mine w' W.heap.size v' xs ∧ Below W.heap.size W w') := fun W h1 h2 => bytes_any g w.heap.size xs v1 W h1 h2 HX.out (by have := HMM.out; omega)
          have HRA : Hid (∀ W, RdS W p v5 (xs, 0) → Calls Try.prog 39 #[.pointer (some ⟨p, 0, none⟩), .int .i64 (m : Int)] W fun r w' => ∃ u, r = .returned u ∧ Mine w' W.heap.size u xs ∧ But (fun j => j = p) W w') := fun W h => by
            have H := rraw_any p (m : Int) v5 (xs, 0) W h ⟨show xs.length ≤ 1000000 by have := HMM.out; omega, (show (0 : Nat) < 1000 by omega)⟩
            have e := rdTake_app xs [] 0 (m : Int) (by rw [HMM.out])
            rw [List.append_nil] at e
            rw [e] at H
            refine H.mono ?_
            rintro r w' ⟨u, rfl, h1, v', h2⟩
            exact ⟨u, rfl, h1, h2.2.1⟩
          have hcb := conv_bs (HB.out.keep HW.out (Nat.le_refl _))
          have HCB : Hid (∀ W', Below w.heap.size wr.drew W' → (convert 52 9 (.slice s m cap)).run Try.prog W' = .ok (.string (strN xs)) W') := fun W' h => conv_bs (HB.out.keep (HW.out.trans h) (Nat.le_refl _))
          generalize hstr : strN xs = str at *
          have HSTR := Lib.hid hstr
          have hst : (str.toList == str.toList) = true := by simp
          clear Gr Mr Rr Or hstr NM2 NR2 NG2 NP2 HT2 NM0 NR0 NG0 NP0 HT0
          go_upto_region 20 with fail
          go_region_law (first
            | (go_simp; go_at_call 37; refine (HBY.out _ G9 M9.out).mono ?_; rintro e w10 ⟨v10, rfl, M10, B10⟩; have hcv := conv_bs (M10.bs HX.out); rw [HSTR.out] at hcv; have hb10 : Below w.heap.size wr.drew w10 := B10.mono HW.out.size; have hcb10 := HCB.out w10 hb10; have R10 : Hid (RdS w10 p v5 (xs, 0)) := Rd.keep R9.out B10; obtain ⟨s10, c10, e10⟩ := M10.slice; rw [← HMM.out] at e10; subst e10)
            | (go_simp; go_at_call 39; refine (HRA.out _ R10.out).mono ?_; rintro e w11 ⟨v11, rfl, M11, B11⟩; have hcv11 := conv_bs (M11.bs HX.out); rw [HSTR.out] at hcv11; have hb11 : Below w.heap.size wr.drew w11 := hb10.trans (B11.below (Nat.le_trans HW.out.size (Nat.le_trans B10.size (Nat.le_refl _))) (fun j hj => by have e : j = p := hj; rw [e]; exact HGP.out)); have hcb11 := HCB.out w11 hb11; obtain ⟨s11, c11, e11⟩ := M11.slice; rw [← HMM.out] at e11; subst e11))
          all_goals
            go_wp2_with fail
            go_ret
            exact ⟨rfl, HW.out.trans hb11⟩
theorem walk (xs : List Nat) (v : Value) (w : World) (hb : BsV w w.heap.size v xs) :
    Calls Try.prog 9 #[v] w fun e w' => e = .returned (.bool true) ∧ Below w.heap.size w w' := by
  have hb0 := hb
  obtain ⟨s, cap, rfl, _⟩ := hb
  rcases Nat.lt_or_ge 1000 xs.length with h | h
  · exact walk_big _ _ _ w h
  · exact walk_inn xs s cap w hb0 h

set_option maxRecDepth 100000 in
set_option maxHeartbeats 2000000 in
theorem lifted (os : Os) (started : os.Started) (H : Type) (enc : TypeId × Value → H) :
    ReturnsInHanded {} Try.checked os 9 .any (Rows.wireOwnSpec.pre6 enc Try.prog Try.f9 Rows.wireOwnRow.domain false) (Rows.wireOwnSpec.post enc Try.prog Try.f9 false true false false) := by
  refine returnsInHanded_of_change (C := Try.checked) own started (by kernel_rfl) Try.func9
    (ChangeSpec.witness6 (enc := enc) (C := Try.checked) false ⟨#[], #[.slice none 0 0], []⟩ 8 (by kernel_rfl) (by kernel_rfl) (by kernel_rfl) (by kernel_rfl)) ?_
  intro W base args ds gs before hval0 hW hcnd _
  have hval : ∀ (j : Nat) t v, Try.f9.params[j]? = some t → args[j]? = some v → Value.okWide Try.prog W .any base t v := hval0
  have hW' := hW
  obtain ⟨p, q, hA0, hV, rfl, hfz, hnd⟩ := hW
  have hA : DataW.TrodAll enc Try.prog W 0 (fun _ => true) true Try.f9.params.toList args.toList ds p := hA0
  rw [Try.params9] at hA hval
  obtain ⟨v0, vs0, d0, ds0, p0, q0, hargs, rfl, rfl, h0, r0⟩ := trodAll_cons hA
  obtain ⟨rfl, rfl, rfl⟩ := trodAll_nil r0
  obtain rfl : args = #[v0] := by cases args; simp_all
  obtain ⟨rfl, rfl⟩ := trodVars_none hV
  have lt0 : ∀ x ∈ p0, x.block < W.heap.size := by obtain ⟨m, hm⟩ := h0; exact DataW.trod_lt m _ _ _ hm
  obtain ⟨x0, hb0⟩ := bytes_arg (hval 0 52 v0 rfl rfl) h0
  clear hA0 hval0
  have hwalk := walk x0 _ W hb0
  refine hwalk.mono fun e W' ⟨he, bel⟩ => ?_
  subst he
  exact ⟨_, rfl, _, _, _, [], _, [], hW', trodAll_mk1 (shut_bool Try.underlying4 _), (trodAll_cons_mk (Below.trod laidOut (by kernel_rfl) (of_decide_eq_true (by kernel_rfl)) h0 bel lt0) trodAll_mk0), rfl, bel.frame _, fun h => by cases h⟩

theorem over : Rows.wireOwnRow.holds Try.pinned (OpenSpec.ofChange Rows.wireOwnSpec) :=
  OpenClaim.holds_of_wide 9 Try.f9 rfl rfl rfl rfl rfl rfl rfl ⟨rfl, rfl, rfl, rfl, rfl⟩ rfl rfl rfl rfl rfl (by kernel_rfl) Try.func9 (by kernel_rfl)
    (of_decide_eq_true (by kernel_rfl)) (by unfold Func.isWrapper; first | (rw [if_pos (by decide +kernel)]; kernel_rfl) | (rw [if_neg (by decide +kernel)]; exact ⟨rfl, rfl⟩))
    (fun os started H enc _ => lifted os started H enc)

theorem proved : Rows.WireOwnSaid := over
#print axioms proved
end Go.Proofs.Ytkifehabajchhaa.wireOwn
