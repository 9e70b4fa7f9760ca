/-
  What is proved: for every slice of bytes and every slice of whole numbers the law FrameReads returns true, and its arguments read behind the call as they read before it; the two listed tables of package hash are taken to hold what the program's text lays in them, and the card ties them to it.
-/
import Derived.Test.YtanefmjjbilmiaaDoorFrdR
import Derived.Test.YtanefmjjbilmiaaDoorTie
import Derived.Test.YtanefmjjbilmiaaDoorCards
import Derived.Stop.Joined
namespace Go.Proofs.YtanefmjjbilmiaaDoor.frameReads
open Go.ChangeShapes Go.WideShapes Go.ChangeAt Go.RowKit
set_option linter.unusedVariables false

theorem own : ownKnob Tryd.prog.godebug = none := by kernel_rfl
theorem laidOut : laidOutB Tryd.prog = true := by kernel_rfl
theorem wf_i64 {z : Int} (h : (Lit.int .i64 z).wf = true) : -9223372036854775808 ≤ z ∧ z ≤ 9223372036854775807 := by
  simp [Lit.wf, IntKind.min, IntKind.max, IntKind.signed, IntKind.bits] at h
  omega
set_option maxRecDepth 100000
set_option linter.unusedSimpArgs false
theorem cells_made {W : World} {lo : Nat} {v : Value} {s : Option Addr} {n c : Nat} {L : List FrM} (h : MadeM W lo v (.slice s n c) L) (i : Nat) (x : FrM) (hx : L[i]? = some x) : ∃ b, s = some ⟨b, 0, none⟩ ∧ b < W.heap.size ∧ W.cell? ⟨b, i * 2, none⟩ = some (.string (strN x.wd)) ∧ W.cell? ⟨b, i * 2 + 1, none⟩ = some x.dv := by
  rcases h.1 with ⟨_, rfl⟩ | ⟨T, cap, z, e, hc, hc2, hT, K⟩
  · simp at hx
  · injection e with e1 e2 e3
    subst e1
    have h0 := rowr_row frR_ok K i x hx 0 _ rfl
    have h1 := rowr_row frR_ok K i x hx 1 _ rfl
    have e : 0 + i * frR.k = i * 2 := by rw [Nat.zero_add]; rfl
    rw [e] at h0 h1
    exact ⟨T, rfl, K.lt, h0, h1⟩
theorem cells_wd {W : World} {lo : Nat} {s : Option Addr} {n c : Nat} {L : List WdM} (h : MineR wdR W lo (.slice s n c) L) (i : Nat) (x : WdM) (hx : L[i]? = some x) : ∃ b, s = some ⟨b, 0, none⟩ ∧ b < W.heap.size ∧ W.cell? ⟨b, i * 2, none⟩ = some (.string (strN x.1)) ∧ W.cell? ⟨b, i * 2 + 1, none⟩ = some (.string (strN x.2)) := by
  rcases h with ⟨_, rfl⟩ | ⟨T, cap, z, e, hc, hc2, hT, K⟩
  · simp at hx
  · injection e with e1 e2 e3
    subst e1
    have h0 := rowr_row wdR_ok K i x hx 0 _ rfl
    have h1 := rowr_row wdR_ok K i x hx 1 _ rfl
    have e : 0 + i * wdR.k = i * 2 := by rw [Nat.zero_add]; rfl
    rw [e] at h0 h1
    exact ⟨T, rfl, K.lt, h0, h1⟩
theorem out_lt (B : List Nat) (h : ∀ x ∈ B, x < 256) : ∀ p ∈ (FZ B).out, ∀ x ∈ p.2, x < 256 := by
  have key : ∀ (b : List Nat) (s : FS), (∀ x ∈ s.h, x < 256) → (∀ p ∈ s.out, ∀ x ∈ p.2, x < 256) → (∀ x ∈ b, x < 256) → ∀ p ∈ (feedL s b).out, ∀ x ∈ p.2, x < 256 := by
    intro b
    induction b with
    | nil => intro s _ h2 _; exact h2
    | cons y b ih =>
      intro s h1 h2 h3
      have hh : ∀ x ∈ s.h ++ [y], x < 256 := fun x hx => by
        rcases List.mem_append.1 hx with h | h
        · exact h1 x h
        · rw [List.mem_singleton.1 h]; exact h3 y List.mem_cons_self
      refine ih (feed1 s y) ?_ ?_ (fun x hx => h3 x (List.mem_cons_of_mem _ hx))
      · unfold feed1
        split
        · exact h1
        · exact tell_sub _ _ hh
      · unfold feed1
        split
        · exact h2
        · unfold tell
          split
          · exact h2
          · split
            · intro p hp
              rcases List.mem_append.1 hp with h | h
              · exact h2 p h
              · rw [List.mem_singleton.1 h]
                exact fun x hx => hh x (List.mem_of_mem_drop hx)
            · exact h2
  exact key B ⟨[], 0, []⟩ (by simp) (by simp) h
set_option maxHeartbeats 8000000 in
theorem walk (b : List Nat) (cs : List Int) (v cv : Value) (w : World) (hL : Laid w) (hb : BsV w w.heap.size v b) (hc : RowV intR w w.heap.size cv cs) (hci : ∀ z ∈ cs, -9223372036854775808 ≤ z ∧ z ≤ 9223372036854775807) :
    Calls Tryd.prog 4 #[v, cv] w fun e w' => e = .returned (.bool true) ∧ Below w.heap.size w w' := by
  have hbx : ∀ x ∈ b, x < 256 := by
    obtain ⟨s, cap, e, h1, h2, h3, h4⟩ := hb
    exact h3
  have HOL := Lib.hid (out_lt b hbx)
  have HFR := Lib.hid (frames_any w hL)
  have HB := Lib.hid hb
  have HFED : Hid (b.length ≤ 1000 → cs.length ≤ 100 → ∀ W, Below w.heap.size w W → Calls Tryd.prog 23 #[v, cv] W fun r w' => FedPost W w' b r) := fun h1 h2 W hW => fed_any b cs v cv W (hL.below hW hL.size) ((hb.keep hW (Nat.le_refl _)).mono hW.size) ((hc.keep hW (Nat.le_refl _)).mono hW.size) hci (by omega) (by omega)
  have HDEC : Hid (b.length ≤ 1000 → ∀ W, Calls Tryd.prog 24 #[.string (strN b)] W fun r w' => DecPost W w' b r) := fun h W => r8decode_any b W hbx (by omega)
  have HVD : Hid (∀ W, Below w.heap.size w W → (convert 22 9 v).run Tryd.prog W = .ok (.string (strN b)) W) := fun W h => conv_bs (HB.out.keep h (Nat.le_refl _))
  obtain ⟨sb, cb, rfl, hbr⟩ := hb
  obtain ⟨sc, cc, rfl⟩ := hc.slice
  obtain ⟨nb, hnb⟩ : ∃ n, n = b.length := ⟨_, rfl⟩
  obtain ⟨nc, hnc⟩ : ∃ n, n = cs.length := ⟨_, rfl⟩
  rw [← hnb, ← hnc] at HFED
  rw [← hnb] at HDEC HVD
  rw [← hnb, ← hnc]
  obtain ⟨ub, hub⟩ : ∃ u, u = strN b := ⟨_, rfl⟩
  rw [← hub] at HDEC HVD
  have HNBB := Lib.hid hnb
  clear hbx hnb hnc hL hc hci hub hbr HB
  go_enter Tryd.func4, Tryd.ntmps4
  go_wp2_with fail
  refine HFR.out.mono ?_
  rintro e w1 ⟨rfl, hb1⟩
  have HW1 := Lib.hid hb1
  clear hb1 HFR
  by_cases h1 : 1000 < nb
  · have q1 : decide ((1000 : Int) < (nb : Int)) = true := decide_eq_true (by omega)
    clear h1
    go_wp2_with fail
    go_ret
    exact ⟨rfl, HW1.out⟩
  have q1 : decide ((1000 : Int) < (nb : Int)) = false := decide_eq_false (by omega)
  by_cases h2 : 100 < nc
  · have q2 : decide ((100 : Int) < (nc : Int)) = true := decide_eq_true (by omega)
    clear h1 h2
    go_wp2_with fail
    go_ret
    exact ⟨rfl, HW1.out⟩
  have q2 : decide ((100 : Int) < (nc : Int)) = false := decide_eq_false (by omega)
  have H1000 := Lib.hid (show nb ≤ 1000 by omega)
  have HF := Lib.hid (HFED.out (by omega) (by omega) w1 HW1.out)
  have HDC := Lib.hid (HDEC.out (by omega))
  clear h1 h2 HFED HDEC
  go_wp2_with fail
  refine HF.out.mono ?_
  rintro r w2 ⟨rv, p, v2, L, rfl, hp, hF2, hM2, ho2, hb2⟩
  obtain ⟨sl, cl, rfl⟩ := hM2.1.slice
  obtain ⟨s2, c2, rfl⟩ := hF2.2.slice
  have HW2 := Lib.hid (below_step HW1.out HW1.out.size hb2)
  have HF2 := Lib.hid hF2
  have HM2 := Lib.hid hM2
  have HO := Lib.hid ho2
  have hcv := HVD.out w2 HW2.out
  clear hF2 hM2 ho2 hb2 HF hp HVD
  go_wp2_with fail
  refine (HDC.out w2).mono ?_
  rintro r w3 ⟨ov, rfl, hM3, hb3⟩
  obtain ⟨so, co, rfl⟩ := hM3.slice
  have HW3 := Lib.hid (below_step HW2.out HW2.out.size hb3)
  have HF3 := Lib.hid (HF2.out.keep hb3)
  have HM3 := Lib.hid (HM2.out.keep hb3)
  have HR3 := Lib.hid hM3
  have hlen : (FZ b).out.length = L.length := by rw [← HO.out, List.length_map]
  rw [hlen] at HR3
  rw [hlen]
  obtain ⟨nl, hnl⟩ : ∃ nl, nl = L.length := ⟨_, rfl⟩
  rw [← hnl] at HM3 HR3 ⊢
  have HNL := Lib.hid hnl
  have HER := Lib.hid (ferr_any p _ _ _ _ w3 HF3.out)
  have HHE := Lib.hid (fheld_any p _ _ _ _ _ _ w3 HF3.out)
  have hzl := strN_size (FZ b).h
  obtain ⟨e, he⟩ : ∃ e, e = (FZ b).e := ⟨_, rfl⟩
  rw [← he] at HER ⊢
  obtain ⟨nh, hnh⟩ : ∃ nh, nh = (FZ b).h.length := ⟨_, rfl⟩
  rw [← hnh] at HHE hzl
  obtain ⟨uh, huh⟩ : ∃ u, u = strN (FZ b).h := ⟨_, rfl⟩
  rw [← huh] at hzl ⊢
  have q3 : ((nl : Int) != (nl : Int)) = false := by simp
  have q4 : ((e : Int) != (e : Int)) = false := by simp
  have q5 : ((nh : Int) != (nh : Int)) = false := by simp
  clear hM3 hb3 hlen hnl he hnh huh HW2 HF2 HM2 hcv HDC HF3 HW1
  go_wp2_with fail
  refine HER.out.mono ?_
  rintro r w4 ⟨rfl, rfl⟩
  clear HER
  go_wp2_with fail
  refine HHE.out.mono ?_
  rintro r w5 ⟨rfl, rfl⟩
  clear HHE
  have HNB : Hid (nl ≤ 1000000) := by
    show _ ≤ _
    have h1 := out_few b
    have h2 := congrArg List.length HO.out
    rw [List.length_map] at h2
    have := HNL.out
    have := H1000.out
    have := HNBB.out
    omega
  go_wp2_with fail
  go_loopw [58] (fun iv wr => ∃ i : Nat, i ≤ nl ∧ iv = .int .i64 (i : Int) ∧ Hid (Below w5.heap.size w5 wr)) (fun iv _ => nl - (intOf iv).toNat)
  case atStart => exact ⟨0, Nat.zero_le _, rfl, Below.refl _ _⟩
  case round =>
    obtain ⟨i, hi, rfl, HWr⟩ := hrel
    by_cases hlt : i < nl
    · have j1 : decide ((i : Int) < (nl : Int)) = true := decide_eq_true (by omega)
      have j2 : decide (i < nl) = true := decide_eq_true hlt
      have hi1 : IntKind.i64.wrap ((i : Int) + 1) = ((i + 1 : Nat) : Int) := by
        have := HNB.out
        simp [IntKind.wrap, IntKind.signed, IntKind.bits]
        omega
      have hx : L[i]? = some (L[i]'(by rw [← HNL.out]; exact hlt)) := List.getElem?_eq_getElem _
      obtain ⟨x, hxe⟩ : ∃ x, L[i]? = some x := ⟨_, hx⟩
      have hxo : (FZ b).out[i]? = some x.pr := by rw [← HO.out, List.getElem?_map, hxe]; rfl
      have hMr := HM3.out.keep HWr.out
      obtain ⟨bl, rfl, hbl, hl0, hl1⟩ := cells_made hMr i x hxe
      obtain ⟨bo, rfl, hbo, ho0, ho1⟩ := cells_wd (HR3.out.keep HWr.out) i x.pr hxo
      have hxd := HOL.out x.pr (List.mem_of_getElem? hxo)
      have hdat := ((hMr.2 x (List.mem_of_getElem? hxe)).1).bs hxd
      obtain ⟨s8, c8, hdv⟩ : ∃ s c, x.dv = .slice s x.da.length c := ⟨_, _, rfl⟩
      rw [hdv] at hl1 hdat
      have HJ := Lib.hid (show i + 1 ≤ nl by omega)
      have HI := Lib.hid hlt
      have hcd : Hid (∀ W, Below wr.heap.size wr W → (convert 22 9 (.slice s8 x.da.length c8)).run Tryd.prog W = .ok (.string (strN x.da)) W) := fun W h => conv_bs (hdat.keep h (Nat.le_refl _))
      clear hx hxo hMr hxd hdat hdv hlt
      go_upto_region 14 with fail
      refine frR14 bl bo nl cl co i x.da.length c8 s8 (strN x.wd) (strN x.da) wr _ _ _ _ _ _ _ _ _ _ _ _ _ _ _ _ _ _ _ _ _ _ _ _ _ _ _ _ _ _ _ _ _ _ _ _ _ _ _ _ _ _ _ _ _ _ _ _ _ _ _ _ _ _ _ _ _ _ _ _ _ _ _ _ _ _ _ _ _ _ _ _ _ _ _ _ _ _ _ _ _ _ _ _ _ (by have := HI.out; omega) (by omega) HI.out hbl hbo hl0 hl1 ho0 ho1 (by simp) (by simp) hcd (Lib.hid (fun _ _ _ _ _ _ _ _ _ _ _ _ _ _ _ _ _ _ _ _ _ _ _ _ w6 hb6 => ?_))
      have HW6 := Lib.hid (below_step HWr.out HWr.out.size hb6)
      clear hb6 hl0 hl1 ho0 ho1 hcd hxe HWr
      go_wp2_with fail
      go_roundw
      case rel => exact ⟨i + 1, HJ.out, by first | rfl | (push_cast; rfl), HW6.out⟩
      case measure => have := HJ.out; simp [intOf]; omega
    · have j1 : decide ((i : Int) < (nl : Int)) = false := decide_eq_false (by omega)
      have j2 : decide (i < nl) = false := decide_eq_false hlt
      have HE := Lib.hid (HW3.out.trans (HWr.out.mono HW3.out.size))
      clear hlt hi
      go_wp2_with fail
      go_ret
      exact ⟨rfl, HE.out⟩

/-- The door's own heap meets the condition. -/
theorem door_met (os : Os) (args : Array Value) : laidMetH Tryd.prog laidL ((World.doorLaid Tryd.prog 19 os).forCall (fun _ _ => 0) ⟨#[], args, []⟩).memory :=
  laidMetH_of_parts3 (fuel := 8) (laidMet_of_run' 8 (by kernel_rfl) (by kernel_rfl)) (by kernel_rfl) (by kernel_rfl)

set_option maxRecDepth 100000 in
theorem lifted (os : Os) (started : os.Started) (H : Type) (enc : TypeId × Value → H) :
    ReturnsInHanded {} Tryd.checked os 4 .any (fun w args => (Rows.frameReadsSpec.pre enc Tryd.prog Tryd.f4 [] false w args ∧ laidMetH Tryd.prog laidL w) ∧ sizedMet enc Tryd.prog Tryd.f4 (OpenSpec.ofChange Rows.frameReadsSpec) false w args)
      (Rows.frameReadsSpec.post enc Tryd.prog Tryd.f4 false true false false) := by
  refine returnsInHanded_of_change_and (C := Tryd.checked) (X := fun w _ => laidMetH Tryd.prog laidL w) (fun _ _ _ hh h => h.of_heap hh) own started (by kernel_rfl) Tryd.func4
    (ChangeSpec.witness_shaped (enc := enc) (C := Tryd.checked) (os := os) (X := fun w _ => laidMetH Tryd.prog laidL w) false (World.doorLaid Tryd.prog 19 os) #[.slice none 0 0, .slice none 0 0] 8 rfl (World.shaped_of_RefB (by kernel_rfl) (by kernel_rfl)) (by kernel_rfl) (by kernel_rfl) (by kernel_rfl) (door_met os _)) ?_
  intro W base args ds gs before hval0 hW _ _ hL _
  have hval : ∀ (j : Nat) t v, Tryd.f4.params[j]? = some t → args[j]? = some v → Value.okWide Tryd.prog W .any base t v := hval0
  have hW' := hW
  obtain ⟨p, q, hA0, hV, rfl, hfz, hnd⟩ := hW
  have hA : DataW.TrodAll enc Tryd.prog W 0 (fun _ => true) true Tryd.f4.params.toList args.toList ds p := hA0
  rw [Tryd.params4] at hA hval
  obtain ⟨v0, vs0, d0, ds0, p0, q0, hargs, rfl, rfl, h0, r0⟩ := trodAll_cons hA
  obtain ⟨v1, vs1, d1, ds1, p1, q1, rfl, rfl, rfl, h1, r1⟩ := trodAll_cons r0
  obtain ⟨rfl, rfl, rfl⟩ := trodAll_nil r1
  obtain rfl : args = #[v0, v1] := by cases args; simp_all
  obtain ⟨rfl, rfl⟩ := trodVars_none hV
  have lt0 : ∀ x ∈ p0, x.block < W.heap.size := by obtain ⟨m, hm⟩ := h0; exact DataW.trod_lt m _ _ _ hm
  have lt1 : ∀ x ∈ p1, x.block < W.heap.size := by obtain ⟨m, hm⟩ := h1; exact DataW.trod_lt m _ _ _ hm
  obtain ⟨x0, hb0⟩ := bytes_arg (hval 0 22 v0 rfl rfl) h0
  obtain ⟨x1, hb1⟩ := ints_arg (hval 1 41 v1 rfl rfl) h1
  have hwalk := walk x0 x1 v0 v1 W (of_laid hL) hb0 hb1.1 hb1.2
  clear hA0 hval0
  refine hwalk.mono fun e W' ⟨he, bel⟩ => ?_
  subst he
  exact ⟨_, rfl, _, _, _, [], _, [], hW', trodAll_mk1 (shut_bool Tryd.underlying4 _), (trodAll_cons_mk (Below.trod laidOut (by kernel_rfl) (of_decide_eq_true (by kernel_rfl)) h0 bel lt0) (trodAll_cons_mk (Below.trod laidOut (by kernel_rfl) (of_decide_eq_true (by kernel_rfl)) h1 bel lt1) trodAll_mk0)), rfl, bel.frame _, fun h => by cases h⟩

theorem over : Rows.FrameReadsSaid :=
  OpenClaim.holds_of_wide 4 Tryd.f4 rfl rfl rfl rfl rfl rfl rfl ⟨rfl, rfl, rfl, rfl, rfl⟩ rfl rfl rfl rfl rfl (by kernel_rfl) Tryd.func4 (by kernel_rfl)
    (of_decide_eq_true (by kernel_rfl)) (by unfold Func.isWrapper; first | (rw [if_pos (by decide +kernel)]; kernel_rfl) | (rw [if_neg (by decide +kernel)]; exact ⟨rfl, rfl⟩))
    (fun os started H enc _ => lifted os started H enc)

theorem proved : Rows.FrameReadsCardSaid :=
  Claim7.holds_tied_plain_at .later [] [.data, .data] true Rows.frameReadsCard.stood.harness false
    over (fun _ h => by cases h) (by kernel_rfl) (fun _ h => by cases h) frameReads_row_tie rfl ⟨rfl, rfl⟩ (by kernel_rfl) rfl
    (fun f fn hf hfn => by
      obtain rfl : f = 4 := Option.some.inj ((show Tryd.prog.funcNamed "tallystick/tallysticklaw08.FrameReads" = some 4 by kernel_rfl).symm.trans hf) |>.symm
      obtain rfl : fn = Tryd.f4 := (Option.some.inj (Tryd.func4.symm.trans hfn)).symm
      exact ⟨by kernel_rfl, fun j t ht => by
        rw [Tryd.params4] at ht
        have hm : t ∈ [22, 41] := by simpa using Array.mem_of_getElem? ht
        have hall : ([22, 41].all fun u => !Tryd.prog.wantsStandIn u) = true := by kernel_rfl
        exact (show Tryd.prog.wantsStandIn t = false by simpa using List.all_eq_true.1 hall t hm)⟩)
    (by kernel_rfl)
#print axioms proved
end Go.Proofs.YtanefmjjbilmiaaDoor.frameReads
