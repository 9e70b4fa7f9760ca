/-
  What is proved: for every slice of bytes and every whole number the law FrameOwn returns true, and its arguments read behind the call as they read before it; the two listed tables of package hash are taken to hold what the program's text lays in them, and the card ties them to it.
-/
import Derived.Test.YtanefmjjbilmiaaDoorFowR
import Derived.Test.YtanefmjjbilmiaaDoorTie
import Derived.Test.YtanefmjjbilmiaaDoorCards
import Derived.Stop.Joined
namespace Go.Proofs.YtanefmjjbilmiaaDoor.frameOwn
open Go.ChangeShapes Go.WideShapes Go.ChangeAt Go.RowKit
set_option linter.unusedVariables false

theorem own : ownKnob Tryd.prog.godebug = none := by kernel_rfl
theorem laidOut : laidOutB Tryd.prog = true := by kernel_rfl
theorem wf_i64 {z : Int} (h : (Lit.int .i64 z).wf = true) : -9223372036854775808 ≤ z ∧ z ≤ 9223372036854775807 := by
  simp [Lit.wf, IntKind.min, IntKind.max, IntKind.signed, IntKind.bits] at h
  omega
set_option maxRecDepth 100000
set_option linter.unusedSimpArgs false
def xL : List Nat := [120]
theorem x_ok : WordOk xL := wordOk_dec _ (by decide) (by decide) (by decide)
theorem mineBsn {W : World} {lo : Nat} {S : Nat → Prop} {v : Value} {xs : List Nat} (h : Mine W lo v xs) (hS : ∀ k, slb v k → ¬ S k) (hx : ∀ x ∈ xs, x < 256) : BsN W S v xs := by
  rcases h with ⟨rfl, rfl⟩ | ⟨T, cap, z, rfl, hc, hc2, hT, K⟩
  · exact ⟨none, 0, rfl, Nat.le_refl _, by omega, by simp, fun h => absurd rfl h⟩
  · have h1 := bsn_row (S := S) (n := cap) (cap := cap) K (hS T ⟨_, _, _, rfl, rfl⟩) (by rw [List.length_append, zeros_length]; exact hc) (Nat.le_refl _) hc2 (fun y hy => by
      rcases List.mem_append.1 hy with h | h
      · exact hx y h
      · exact zeros_lt _ y h)
    have h2 := bsn_front xs.length h1 (by rw [List.length_append]; omega)
    rw [List.take_left' rfl] at h2
    exact h2
theorem byte_inc (y : Nat) (hy : y < 256) : IntKind.u8.wrap ((y : Int) + 1) = (((y + 1) % 256 : Nat) : Int) := by
  simp [IntKind.wrap, IntKind.signed, IntKind.bits]
/-- Feeds and frames stay while a block changes that is none of theirs. -/
theorem madeOnly {w W : World} {lo T : Nat} {v rv : Value} {L : List FrM} (h : MadeM w lo v rv L) (hb : But (fun k => k = T) w W) (hT : T < lo) : MadeM W lo v rv L := by
  refine ⟨?_, fun x hx => ⟨(h.2 x hx).1.but hb (fun k hk hs => ?_), (h.2 x hx).2⟩⟩
  · rcases h.1 with h1 | ⟨T', cap, z, e1, h1, h2, h3, K⟩
    · exact .inl h1
    · exact .inr ⟨T', cap, z, e1, h1, h2, h3, hb.keep K (fun hc => by omega)⟩
  · have := ((h.2 x hx).1.slb_lo hk).1
    omega
theorem feedOnly {w W : World} {p lo T e : Nat} {v : Value} {h : List Nat} (hF : FeedM w p lo v h e) (hb : But (fun k => k = T) w W) (hp : p ≠ T) (hv : ∀ k, slb v k → k ≠ T) : FeedM W p lo v h e := ⟨hb.keep hF.1 hp, hF.2.but hb (fun k hk hs => hv k hk hs)⟩
theorem wpList_appI {ops : Array Oper} {rest : List Oper} {o : Oper} {a : Act} {w W : World} {Q : Exit → Act → World → Prop} {v1 v2 v : Value} (t : TypeId) (hg : o.guard = none) (s x : Operand)
    (hop : o.op = Op.call { callee := Callee.builtin Builtin.append, args := #[s, x], argTypes := #[t, t] }) (hty : o.type = t) (hs : a.eval s = v1) (hx : a.eval x = v2)
    (hrun : (Builtin.append_ #[t, t] t #[v1, v2]).run Tryd.prog w = .ok v W) (hK : wpList Tryd.prog ops Q rest (a.put o.dst v) W) : wpList Tryd.prog ops Q (o :: rest) a w := wpList_appG t hg s x hop hty hs hx hrun hK
/-- A copy of a slice of bytes, by append onto an empty one. -/
theorem copy_app (ys : List Nat) (u : Value) (lo : Nat) (w : World) (hlo : lo ≤ w.heap.size) (hu : BsV w w.heap.size u ys) (hl : ys.length ≤ 1000000) :
    ∃ v W, (Builtin.append_ #[22, 22] 22 #[.slice (some ⟨w.heap.size, 0, none⟩) 0 0, u]).run Tryd.prog (w.alloc (.cells #[] 5)) = .ok v W ∧ Mine W w.heap.size v ys ∧ Below w.heap.size w W := by
  have hA1 : Below w.heap.size w (w.alloc (.cells #[] 5)) := (Below.refl _ _).alloc (Nat.le_refl _) _
  have hm1 : Mine (w.alloc (.cells #[] 5)) w.heap.size (.slice (some ⟨w.heap.size, 0, none⟩) 0 0) [] := .inr ⟨w.heap.size, 0, 0, rfl, rfl, by omega, Nat.le_refl _, Bk.new w 5 #[]⟩
  obtain ⟨v5, W5, hr1, hM5, hB5, hs5⟩ := app3 [] ys (.slice (some ⟨w.heap.size, 0, none⟩) 0 0) u w.heap.size (w.alloc (.cells #[] 5)) hm1 hA1.size ((hu.keep hA1 (Nat.le_refl _)).mono hA1.size) (by simp; omega)
  rw [List.nil_append] at hM5
  exact ⟨v5, W5, hr1, hM5, hA1.trans (hB5.below hA1.size (fun k hk => by rw [slb_some hk]; exact Nat.le_refl _))⟩
set_option maxHeartbeats 16000000 in
theorem walk (b : List Nat) (v : Value) (cut : Int) (w : World) (hL : Laid w) (hb : BsV w w.heap.size v b) (hcu : -9223372036854775808 ≤ cut ∧ cut ≤ 9223372036854775807) :
    Calls Tryd.prog 6 #[v, .int .i64 cut] w fun e w' => e = .returned (.bool true) ∧ Below w.heap.size w w' := by
  have hbx : ∀ x ∈ b, x < 256 := by
    obtain ⟨s, cap, e, h1, h2, h3, h4⟩ := hb
    exact h3
  have HBX := Lib.hid hbx
  have HFR := Lib.hid (frames_any w hL)
  have HL := Lib.hid hL
  have HB := Lib.hid hb
  have HVD : Hid (∀ W, Below w.heap.size w W → (convert 22 9 v).run Tryd.prog W = .ok (.string (strN b)) W) := fun W h => conv_bs (HB.out.keep h (Nat.le_refl _))
  have hu : strN xL = ⟨#[120]⟩ := by decide +kernel
  obtain ⟨sd, cd, rfl, hbr⟩ := hb
  obtain ⟨nd, hnd⟩ : ∃ n, n = b.length := ⟨_, rfl⟩
  rw [← hnd] at HB HVD ⊢
  have HND := Lib.hid hnd
  have HEN : Hid (nd ≤ 300 → ∀ W, Below w.heap.size w W → Calls Tryd.prog 17 #[.agg #[.string ⟨#[120]⟩, .slice sd nd cd]] W fun r w' => ∃ s c, r = .returned (.tuple #[.slice s (24 + nd) c, .int .i64 0]) ∧ Below W.heap.size W w' ∧ Mine w' W.heap.size (.slice s (24 + nd) c) (encL xL b)) := fun h W hW => by
    have h1 := fencode_any xL b sd nd cd W (hL.below hW hL.size) (fun x hx => (word_lt x_ok x hx).1) ((HB.out.keep hW (Nat.le_refl _)).mono hW.size) (by omega)
    rw [hu] at h1
    refine h1.mono ?_
    rintro r w' ⟨v', rfl, hbel, hM, _⟩
    have e0 : encE xL b = 0 := encE_of x_ok (by omega)
    have hM := hM e0
    obtain ⟨s, c, rfl⟩ := hM.slice
    have hl : (encL xL b).length = 24 + nd := by rw [encL_len xL b (by decide), hnd]
    rw [hl] at hM ⊢
    rw [e0]
    exact ⟨s, c, rfl, hbel, hM⟩
  have HFZ : Hid (b.length ≤ 300 → FZ (encL xL b) = ⟨[], 0, [(xL, b)]⟩ ∧ FZ (encL xL b ++ encL xL b) = ⟨[], 0, [(xL, b), (xL, b)]⟩) := fun h => by
    have hex := encL_lt xL b (fun x hx => (word_lt x_ok x hx).1) hbx
    refine ⟨feed_one_enc xL b x_ok (by omega) hbx, ?_⟩
    have h1 := feed_enc xL b [] (encL xL b) x_ok (by omega) hbx hex
    have h2 := feed_enc xL b [(xL, b)] [] x_ok (by omega) hbx (by simp)
    rw [List.append_nil] at h2
    show feedL _ _ = _
    rw [h1]
    exact h2
  obtain ⟨ud, hud⟩ : ∃ u, u = strN b := ⟨_, rfl⟩
  rw [← hud] at HVD
  have HUD := Lib.hid hud
  have HEX : Hid (∀ x ∈ encL xL b, x < 256) := encL_lt xL b (fun x hx => (word_lt x_ok x hx).1) hbx
  have HEL : Hid ((encL xL b).length = 24 + nd) := by show _ = _; rw [encL_len xL b (by decide), hnd]
  obtain ⟨E, hE⟩ : ∃ E, E = encL xL b := ⟨_, rfl⟩
  rw [← hE] at HEN HFZ HEX HEL
  clear hbx hL hnd hbr hu hud hE
  go_enter Tryd.func6, Tryd.ntmps6
  go_wp2_with fail
  refine HFR.out.mono ?_
  rintro e w1 ⟨rfl, hb1⟩
  have HW1 := Lib.hid hb1
  clear hb1 HFR
  by_cases h1 : 300 < nd
  · have q1 : decide ((300 : Int) < (nd : Int)) = true := decide_eq_true (by omega)
    clear h1 hcu
    go_wp2_with fail
    go_ret
    exact ⟨rfl, HW1.out⟩
  have q1 : decide ((300 : Int) < (nd : Int)) = false := decide_eq_false (by omega)
  by_cases h2 : cut < 0
  · have q2 : decide (cut < 0) = true := decide_eq_true h2
    clear h1 hcu h2
    go_wp2_with fail
    go_ret
    exact ⟨rfl, HW1.out⟩
  have q2 : decide (cut < 0) = false := decide_eq_false h2
  obtain ⟨k, rfl⟩ : ∃ k : Nat, cut = (k : Int) := ⟨cut.toNat, by omega⟩
  obtain ⟨ne, hne⟩ : ∃ ne, ne = 24 + nd := ⟨_, rfl⟩
  have hw24 : IntKind.i64.wrap (24 + (nd : Int)) = (ne : Int) := by
    simp [IntKind.wrap, IntKind.signed, IntKind.bits]
    omega
  by_cases h3 : ne < k
  · have q3 : decide ((ne : Int) < (k : Int)) = true := decide_eq_true (by omega)
    have q3b : decide (24 + (nd : Int) < (k : Int)) = true := decide_eq_true (by omega)
    have q3c : decide (ne < k) = true := decide_eq_true (by omega)
    clear h1 hcu h2 h3
    go_wp2_with fail
    go_ret
    exact ⟨rfl, HW1.out⟩
  have q3 : decide ((ne : Int) < (k : Int)) = false := decide_eq_false (by omega)
  have q3b : decide (24 + (nd : Int) < (k : Int)) = false := decide_eq_false (by omega)
  have q3c : decide (ne < k) = false := decide_eq_false (by omega)
  have HK : Hid (k ≤ ne ∧ nd ≤ 300 ∧ ne = 24 + nd) := ⟨by omega, by omega, hne⟩
  rw [← hne] at HEN HEL
  have HE1 := Lib.hid (HEN.out (by omega) w1 HW1.out)
  have hfz := HFZ.out (by have := HND.out; omega)
  have HF1 := Lib.hid hfz.1
  have HF2 := Lib.hid hfz.2
  clear h1 h2 h3 hcu hne hfz HEN HFZ
  go_wp2_with fail
  refine HE1.out.mono ?_
  rintro r w2 ⟨sE, cE, rfl, hb2, hM2⟩
  have HW2 := Lib.hid (below_step HW1.out HW1.out.size hb2)
  have hlE : E.length ≤ 1000000 := by have := HEL.out; have := HK.out; omega
  obtain ⟨vm, W3, hr3, hM3, hb3⟩ := copy_app E (.slice sE ne cE) w.heap.size w2 HW2.out.size (hM2.bs HEX.out) hlE
  have HME3 := Lib.hid (hM2.keep hb3)
  have HW3 := Lib.hid (below_step HW2.out HW2.out.size hb3)
  obtain ⟨TM, cM, zM, hvm, hcM, hcM2, hTM, KM⟩ : ∃ T cap z, vm = .slice (some ⟨T, 0, none⟩) E.length cap ∧ cap = E.length + z ∧ cap < 9223372036854775808 ∧ w2.heap.size ≤ T ∧ Bk W3 T 5 (idA (E ++ zeros z)) := by
    rcases hM3 with ⟨_, h⟩ | h
    · have := congrArg List.length h
      rw [HEL.out, List.length_nil] at this
      have := HK.out
      omega
    · exact h
  rw [HEL.out] at hvm hcM
  subst hvm
  have HTM : Hid (w2.heap.size ≤ TM ∧ TM < W3.heap.size) := ⟨hTM, KM.lt⟩
  have HKM := Lib.hid KM
  have HCM : Hid (cM = ne + zM ∧ cM < 9223372036854775808) := ⟨hcM, hcM2⟩
  have hlo2 := hM2.slb_lo (k := 0)
  have HTE : Hid (∀ j, slb (.slice sE ne cE) j → j < w2.heap.size) := fun j hj => (hM2.slb_lo hj).2.1
  clear hb2 hM2 hb3 hM3 hTM KM hcM hcM2 hlE hlo2 HE1 HW1
  go_upto_region 7 with (refine wpList_appI (v1 := .slice (some ⟨w2.heap.size, 0, none⟩) 0 0) (v2 := .slice sE ne cE) 22 rfl (.tmp 34) (.tmp 35) rfl rfl rfl rfl hr3 ?_)
  clear hr3
  go_upto_region 8 with fail
  have hA : Below W3.heap.size W3 (W3.alloc (.cells #[.slice none 0 0, .int .i64 0] 36)) := (Below.refl _ _).alloc (Nat.le_refl _) _
  refine wp_any (fun W => Below w.heap.size w W ∧ Bk W W3.heap.size 36 #[.slice none 0 0, .int .i64 0] ∧ Mine W 0 (.slice sE ne cE) E ∧ Bk W TM 5 (idA (E ++ zeros zM)) ∧ W3.heap.size ≤ W.heap.size) ⟨below_step HW3.out HW3.out.size hA, Bk.new _ _ _, (HME3.out.keep hA).mono (Nat.zero_le _), HKM.out.keep hA, hA.size⟩ ?_
  obtain ⟨p, hp⟩ : ∃ p, p = W3.heap.size := ⟨_, rfl⟩
  have HP : Hid (w.heap.size ≤ p ∧ TM < p ∧ w2.heap.size ≤ p) := ⟨by rw [hp]; exact HW3.out.size, by rw [hp]; exact HTM.out.2, by have := HTM.out; omega⟩
  rw [← hp]
  clear hA hp HW3 HME3 HKM
  rintro W4 ⟨hW4, KP, hM4, KM4, hsz4⟩
  have HW4 := Lib.hid hW4
  have HME4 := Lib.hid hM4
  have HKM4 := Lib.hid KM4
  have HSZ4 : Hid (p < W4.heap.size) := KP.lt
  have HW4S : Hid (w.heap.size ≤ W4.heap.size) := hW4.size
  have hyx : ∀ y ∈ E ++ zeros zM, y < 256 := fun y hy => by
    rcases List.mem_append.1 hy with h | h
    · exact HEX.out y h
    · exact zeros_lt _ y h
  have hbn : BsN W4 (fun k => k = p ∨ slb (.slice none 0 0) k) (.slice (some ⟨TM, 0, none⟩) k cM) (E.take k) := by
    have h := bsn_row (S := fun k => k = p ∨ slb (.slice none 0 0) k) (n := cM) (cap := cM) KM4 (fun h => by
      rcases h with h | h
      · have := HP.out.2.1; omega
      · exact slb_none _ _ _ h) (by rw [List.length_append, zeros_length, HEL.out]; exact HCM.out.1) (Nat.le_refl _) HCM.out.2 hyx
    have h2 := bsn_front k h (by rw [List.length_append, HEL.out]; have := HK.out; omega)
    rw [List.take_append_of_le_length (by rw [HEL.out]; exact HK.out.1)] at h2
    exact h2
  have hsl8 : ∀ W, (Instr.slice 22 (.slice (some ⟨TM, 0, none⟩) ne cM) none (some (.int .i64 (k : Int))) none).run Tryd.prog W = .ok (.slice (some ⟨TM, 0, none⟩) k cM) W := slice_front TM 0 ne cM k (by have := HCM.out; have := HK.out; omega)
  have HAD := Lib.hid (fadd_on p w.heap.size k cM (some ⟨TM, 0, none⟩) (.slice none 0 0) [] (E.take k) W4 (HL.out.below hW4 HL.out.size) HL.out.size HP.out.1 hW4.size (new_feed KP _) (by simp) hbn (by rw [List.length_take, HEL.out]; have := HK.out; omega))
  clear hW4 KP hM4 KM4 hyx hbn hsz4
  go_wp2_with fail
  refine HAD.out.mono ?_
  rintro r w5 ⟨rv5, v5, L5, rfl, hF5, hM5, ho5, hb5, hs5, hl5⟩
  rw [List.nil_append] at hF5
  have ho5 : L5.map FrM.pr = (FZ (E.take k)).out := by rw [List.nil_append] at ho5; exact ho5
  have hS5 : ∀ j, (j = p ∨ slb (.slice none 0 0) j) → p ≤ j := fun j hj => by
    rcases hj with rfl | hj
    · exact Nat.le_refl _
    · exact absurd hj (slb_none _ _ _)
  have HF5 := Lib.hid hF5
  have HM5 := Lib.hid hM5
  have HO5 := Lib.hid ho5
  have HW5 := Lib.hid (HW4.out.trans hl5)
  have HSZW : Hid (W4.heap.size ≤ w5.heap.size) := hb5.size
  have HV5 : Hid (∀ j, slb v5 j → W4.heap.size ≤ j) := fun j hj => (hs5 j hj).elim (fun h => absurd h (slb_none _ _ _)) id
  have HKM5 := Lib.hid (hb5.keep HKM4.out (fun h => by have := hS5 _ h; have := HP.out.2.1; omega))
  have HME5 := Lib.hid (HME4.out.but hb5 (fun j hj hs => by have := hS5 _ hs; have := HTE.out j hj; have := HP.out.2.2; omega))
  obtain ⟨sr5, cr5, rfl⟩ := hM5.1.slice
  obtain ⟨n5, hn5⟩ : ∃ n5, n5 = L5.length := ⟨_, rfl⟩
  rw [← hn5] at HM5 ⊢
  have HN5 := Lib.hid hn5
  clear hF5 hM5 ho5 hb5 hs5 hl5 hS5 HAD hsl8 hn5 HW4 HME4 HKM4
  go_wp2_with fail
  go_loopw [42] (fun iv wr => ∃ (i : Nat) (Y : List Nat), i ≤ k ∧ iv = .int .i64 (i : Int) ∧ Hid (Bk wr TM 5 (idA Y) ∧ Y.length = cM ∧ (∀ y ∈ Y, y < 256) ∧ But (fun j => j = TM) w5 wr)) (fun iv _ => k - (intOf iv).toNat)
  case atStart => exact ⟨0, E ++ zeros zM, Nat.zero_le _, rfl, HKM5.out, by rw [List.length_append, zeros_length, HEL.out]; exact HCM.out.1.symm, fun y hy => by
    rcases List.mem_append.1 hy with h | h
    · exact HEX.out y h
    · exact zeros_lt _ y h, But.refl _ _⟩
  case round =>
    obtain ⟨i, Y, hi, rfl, HI⟩ := hrel
    by_cases hlt : i < k
    · have j1 : decide ((i : Int) < (k : Int)) = true := decide_eq_true (by omega)
      have j2 : decide (i < k) = true := decide_eq_true hlt
      have hiw : IntKind.i64.wrap ((i : Int) + 1) = ((i + 1 : Nat) : Int) := by
        have := HK.out
        simp [IntKind.wrap, IntKind.signed, IntKind.bits]
        omega
      have hcell : wr.cell? ⟨TM, i, none⟩ = some (.int .u8 ((nth Y i : Nat) : Int)) := by
        rw [HI.out.1.cell, idA_opt]
        have : Y[i]? = some (nth Y i) := by unfold nth; rw [List.getD_eq_getElem?_getD, List.getElem?_eq_getElem (by rw [HI.out.2.1]; have := HCM.out; have := HK.out; omega)]; rfl
        rw [this]
        rfl
      have hfr := HI.out.1.frozen i
      have hzT := HI.out.1.lt
      have hyb : nth Y i < 256 := nth_lt Y i 256 (by decide) HI.out.2.2.1
      obtain ⟨y, hy⟩ : ∃ y, y = nth Y i := ⟨_, rfl⟩
      rw [← hy] at hcell hyb
      have hinc := byte_inc y hyb
      have q6 : (i : Int) < (ne : Int) := by have := HK.out; omega
      have q7 : (0 : Int) ≤ (i : Int) := by omega
      have q8 : i < ne := by have := HK.out; omega
      have HJ := Lib.hid (show i + 1 ≤ k by omega)
      obtain ⟨y2, hy2⟩ : ∃ y2, y2 = (y + 1) % 256 := ⟨_, rfl⟩
      rw [← hy2] at hinc
      have HY2 : Hid (y2 < 256) := by show _ < _; rw [hy2]; omega
      clear hlt hi hy hy2 hyb
      go_wp2_with fail
      go_roundw
      case rel =>
        refine ⟨i + 1, Y.set i y2, HJ.out, by first | rfl | (push_cast; rfl), ?_, by rw [List.length_set]; exact HI.out.2.1, fun x hx => ?_, ?_⟩
        · have h := HI.out.1.set_ i (.int .u8 (y2 : Int))
          rw [idA_set] at h
          exact h
        · rcases List.mem_or_eq_of_mem_set hx with h | h
          · exact HI.out.2.2.1 x h
          · rw [h]; exact HY2.out
        · exact HI.out.2.2.2.set_ (.inl rfl) i none _
      case measure => have := HJ.out; simp [intOf]; omega
    · have j1 : decide ((i : Int) < (k : Int)) = false := decide_eq_false (by omega)
      have j2 : decide (i < k) = false := decide_eq_false hlt
      have HBT := Lib.hid HI.out.2.2.2
      clear hlt hi
      have HF6 := Lib.hid (feedOnly HF5.out HBT.out (by have := HP.out.2.1; omega) (fun j hj => by have := HV5.out j hj; have := HSZ4.out; have := HP.out.2.1; omega))
      have HM6 := Lib.hid (madeOnly HM5.out HBT.out (by have := HSZ4.out; have := HP.out.2.1; omega))
      have HME6 := Lib.hid (HME5.out.but HBT.out (fun j hj hs => by have := HTE.out j hj; have := HTM.out.1; omega))
      have HW6 : Hid (Below w.heap.size w wr) := HW5.out.trans (HBT.out.below HW5.out.size (fun j hj => by rw [hj]; have := HTM.out.1; have := HW2.out.size; omega))
      have HS6 : Hid (W4.heap.size ≤ wr.heap.size) := Nat.le_trans HSZW.out HBT.out.size
      clear HF5 HM5 HME5 HKM5 HBT HI HW5
      -- the rest of the bytes, copied
      obtain ⟨TE, hse⟩ : ∃ TE, sE = some ⟨TE, 0, none⟩ := by
        rcases HME6.out with ⟨h, _⟩ | ⟨T, cap, z, h, _⟩
        · cases h
          have := HK.out
          omega
        · cases h
          exact ⟨_, rfl⟩
      subst hse
      have hcE : ne ≤ cE ∧ cE < 9223372036854775808 := by
        obtain ⟨s', cap', e', g1, g2, _⟩ := HME6.out.bs HEX.out
        rw [HEL.out] at e' g1
        cases e'
        exact ⟨g1, g2⟩
      have hsl14 := slice_rest TE 0 ne cE k HK.out.1 hcE.1 hcE.2
      have hbs14 := bsv_rest k (HME6.out.bs HEX.out) (by rw [HEL.out]; exact HK.out.1)
      obtain ⟨sx, hsx⟩ : ∃ sx, sx = dropA ⟨TE, 0, none⟩ cE k := ⟨_, rfl⟩
      rw [← hsx] at hsl14 hbs14
      have hld : (E.drop k).length ≤ 1000000 := by rw [List.length_drop, HEL.out]; have := HK.out; omega
      obtain ⟨vf, W7, hr7, hM7, hb7⟩ := copy_app (E.drop k) (.slice sx (ne - k) (cE - k)) w.heap.size wr HW6.out.size hbs14 hld
      obtain ⟨sf, cf, hvf⟩ := hM7.slice
      subst hvf
      have hF7 := HF6.out.keep hb7
      have hM7m := HM6.out.keep hb7
      have hW7 := below_step HW6.out HW6.out.size hb7
      have hbn7 : BsN W7 (fun j => j = p ∨ slb v5 j) (.slice sf (E.drop k).length cf) (E.drop k) := mineBsn hM7 (fun j hj hs => by
        have h1 := (hM7.slb_lo hj).1
        rcases hs with rfl | hs
        · have := HF6.out.1.lt; omega
        · have := (HF6.out.2.slb_lo hs).2.1; omega) (fun x hx => HEX.out x (List.mem_of_mem_drop hx))
      have HAD := Lib.hid (fadd_on p w.heap.size (E.drop k).length cf sf v5 (E.take k) (E.drop k) W7 (HL.out.below hW7 HL.out.size) HL.out.size HP.out.1 hW7.size hF7 (fun x hx => HEX.out x (List.mem_of_mem_take hx)) hbn7 hld)
      rw [List.take_append_drop, HF1.out] at HAD
      have HF7 := Lib.hid hF7
      have HM7m := Lib.hid hM7m
      have HW7 := Lib.hid hW7
      have HME7 := Lib.hid (HME6.out.keep hb7)
      have HS7 : Hid (W4.heap.size ≤ W7.heap.size) := Nat.le_trans HS6.out hb7.size
      have hldk : (E.drop k).length = ne - k := by rw [List.length_drop, HEL.out]
      rw [hldk] at hr7 HAD
      have hsl14' : ∀ W, (Instr.slice 22 (.slice (some ⟨TE, 0, none⟩) ne cE) (some (.int .i64 (k : Int))) none none).run Tryd.prog W = .ok (.slice sx (ne - k) (cE - k)) W := hsl14
      clear hcE hsl14 hbs14 hsx hld hM7 hb7 hF7 hM7m hW7 hbn7 hldk HF6 HM6 HW6 HME6 HS6
      go_wp2_with (refine wpList_appI (v1 := .slice (some ⟨wr.heap.size, 0, none⟩) 0 0) (v2 := .slice sx (ne - k) (cE - k)) 22 rfl (.tmp 53) (.tmp 56) rfl rfl rfl rfl hr7 ?_)
      refine HAD.out.mono ?_
      rintro r w8 ⟨rv8, v8, L8, rfl, hF8, hM8, ho8, hb8, hs8, hl8⟩
      have hM8o : MadeM w8 W4.heap.size v8 (.slice sr5 n5 cr5) L5 := HM7m.out.butF HF7.out hb8 hs8
      obtain ⟨sr8, cr8, rfl⟩ := hM8.1.slice
      obtain ⟨v9, W9, hr9, hM9, hb9, hB9⟩ := appR frR_ok L5 L8 (.slice sr5 n5 cr5) (.slice sr8 L8.length cr8) w.heap.size w8 (hM8o.1.mono HW4S.out) (HW7.out.trans hl8).size (hM8.1.rows frR_ok) (by
        have h := congrArg List.length ho8
        rw [List.length_append, List.length_map, ← HO5.out, List.length_map] at h
        simp at h
        omega)
      have hmap : (L5 ++ L8).map FrM.pr = [(xL, b)] := by rw [List.map_append, HO5.out]; exact ho8
      obtain ⟨s9, c9, hLL⟩ := map_one hmap
      have hM99 : MadeM W9 w.heap.size v8 v9 (L5 ++ L8) := ⟨hM9, fun x hx => by
        rcases List.mem_append.1 hx with h | h
        · exact ⟨(((hM8o.2 x h).1).butR hM8o.1 hB9).mono HW4S.out, (hM8o.2 x h).2⟩
        · exact ⟨((hM8.2 x h).1.butR hM8o.1 hB9).mono HW7.out.size, (hM8.2 x h).2⟩⟩
      -- where the frame's bytes lie
      have hDLO : ∀ x ∈ L5 ++ L8, ∀ j, slb x.dv j → W4.heap.size ≤ j := fun x hx j hj => by
        rcases List.mem_append.1 hx with h | h
        · exact ((hM8o.2 x h).1.slb_lo hj).1
        · exact Nat.le_trans HS7.out ((hM8.2 x h).1.slb_lo hj).1
      rw [hLL] at hM99 hDLO
      have HF9 := Lib.hid (hF8.butR hM8o.1 hB9)
      have HW9 := Lib.hid ((HW7.out.trans hl8).trans hb9)
      have hME8 : Mine w8 0 (.slice (some ⟨TE, 0, none⟩) ne cE) E := HME7.out.but hb8 (fun j hj hs => by
        have h1 := HTE.out j hj
        rcases hs with rfl | hs
        · have := HP.out.2.2; omega
        · have := HV5.out j hs; have := HSZ4.out; have := HP.out.2.2; omega)
      have HME9 := Lib.hid (hME8.butR hM8o.1 hB9)
      have HV8 : Hid (∀ j, slb v8 j → W4.heap.size ≤ j) := fun j hj => (hs8 j hj).elim (HV5.out j) (fun h => Nat.le_trans HS7.out h)
      obtain ⟨n8, hn8⟩ : ∃ n8, n8 = L8.length := ⟨_, rfl⟩
      rw [← hn8] at hr9 ⊢
      have hDL := hDLO _ List.mem_cons_self
      have HDL := Lib.hid hDL
      have HM9 := Lib.hid hM99
      obtain ⟨br, cr, rfl, hbr, _, hq1, hcr⟩ := made_one hM99
      have hdat := (hM99.2 _ List.mem_cons_self).1
      clear hF8 hM8 ho8 hb8 hs8 hl8 hM8o hM9 hb9 hB9 hmap hLL hM99 hDLO hME8 hn8 hDL HAD HM7m HF7 HW7 HME7 hr7
      go_upto_region 15 with (refine wpList_appI (v1 := .slice sr5 n5 cr5) (v2 := .slice sr8 n8 cr8) 37 rfl (.tmp 52) (.tmp 58) rfl rfl rfl rfl hr9 ?_)
      clear hr9
      have hc1 : W9.cell? ⟨br, 1, none⟩ = some (.slice s9 nd c9) := by rw [HND.out]; exact hq1
      have hdb := (show Mine W9 w.heap.size (.slice s9 b.length c9) b from hdat).bs HBX.out
      have HDT : Hid (Mine W9 w.heap.size (.slice s9 nd c9) b) := by rw [HND.out]; exact hdat
      refine foR15 br cr nd cd c9 sd s9 ud W9 _ _ _ _ _ _ _ _ _ _ _ _ _ _ _ _ _ _ _ _ _ _ _ _ _ _ _ _ _ _ _ _ _ _ _ _ _ _ _ _ _ _ _ _ _ _ _ _ _ _ _ _ _ _ _ _ _ _ _ _ _ _ _ _ _ _ _ _ _ _ _ _ _ _ _ _ _ _ _ _ _ _ _ _ _ _ _ _ _ _ _ _ _ _ _ _ _ _ _ _ _ _ _ _ _ hbr hcr hc1 (by simp) (Lib.hid (fun W hW => by
        have h1 := conv_bs (hdb.keep hW (Nat.le_refl _))
        rw [← HND.out, ← HUD.out] at h1
        exact h1)) (Lib.hid (fun W hW => HVD.out W (below_step HW9.out HW9.out.size hW))) (Lib.hid (fun _ _ _ _ _ _ _ _ _ _ _ _ w10 hb10 => ?_))
      have HF10 := Lib.hid (HF9.out.keep hb10)
      have HW10 := Lib.hid (below_step HW9.out HW9.out.size hb10)
      have HME10 := Lib.hid (HME9.out.keep hb10)
      have HDT10 := Lib.hid (HDT.out.keep hb10)
      have hc10 : w10.cell? ⟨br, 1, none⟩ = some (.slice s9 nd c9) := (hb10.cell (p := ⟨br, 1, none⟩) hbr).trans hc1
      have hbr10 : br < w10.heap.size := Nat.lt_of_lt_of_le hbr hb10.size
      have HBR : Hid (br < w10.heap.size ∧ 1 ≤ cr) := ⟨hbr10, hcr⟩
      have HC10 := Lib.hid hc10
      have hbrT : ∀ j, slb (.slice s9 nd c9) j → j ≠ br := fun j hj hc => by
        rcases HM9.out.1 with ⟨h, _⟩ | ⟨T, cap, z, h, _, _, _, K⟩
        · cases h
        · cases h
          subst hc
          exact HDT.out.apart K (by decide) hj
      have HBRT := Lib.hid hbrT
      have HM9b : Hid (∀ j, slb (.slice s9 nd c9) j → ¬ slb v8 j) := fun j hj => (HM9.out.2 _ List.mem_cons_self).2 j (by
        show slb (.slice s9 b.length c9) j
        rw [← HND.out]; exact hj)
      clear hb10 hdat hdb hq1 hc1 hbr hbrT HF9 HW9 HME9 HDT HM9
      have hcr1 := HBR.out.2
      have hbz := HBR.out.1
      have hDB : ∀ j, slb (.slice s9 nd c9) j → W4.heap.size ≤ j := fun j hj => HDL.out j (by
        show slb (.slice s9 b.length c9) j
        rw [← HND.out]; exact hj)
      have HDB := Lib.hid hDB
      clear hDB
      go_wp2_with fail
      go_loopw [78] (fun iv wq => ∃ (i : Nat) (Y : List Nat), i ≤ nd ∧ iv = .int .i64 (i : Int) ∧ Hid (Mine wq w.heap.size (.slice s9 nd c9) Y ∧ Y.length = nd ∧ (∀ y ∈ Y, y < 256) ∧ But (slb (.slice s9 nd c9)) w10 wq)) (fun iv _ => nd - (intOf iv).toNat)
      case atStart => exact ⟨0, b, Nat.zero_le _, rfl, HDT10.out, HND.out.symm, HBX.out, But.refl _ _⟩
      case round =>
        obtain ⟨i, Y, hi, rfl, HI⟩ := hrel
        have hcc : wr.cell? ⟨br, 1, none⟩ = some (.slice s9 nd c9) := (HI.out.2.2.2.cell (p := ⟨br, 1, none⟩) HBR.out.1 (fun h => HBRT.out _ h rfl)).trans HC10.out
        have hbz : br < wr.heap.size := Nat.lt_of_lt_of_le HBR.out.1 HI.out.2.2.2.size
        by_cases hlt : i < nd
        · have j1 : decide ((i : Int) < (nd : Int)) = true := decide_eq_true (by omega)
          have j2 : decide (i < nd) = true := decide_eq_true hlt
          have hiw : IntKind.i64.wrap ((i : Int) + 1) = ((i + 1 : Nat) : Int) := by
            have := HK.out
            simp [IntKind.wrap, IntKind.signed, IntKind.bits]
            omega
          obtain ⟨TD, cD, zD, hsD, hcD, hcD2, hTD, KD⟩ : ∃ T cap z, (Value.slice s9 nd c9) = .slice (some ⟨T, 0, none⟩) Y.length cap ∧ cap = Y.length + z ∧ cap < 9223372036854775808 ∧ w.heap.size ≤ T ∧ Bk wr T 5 (idA (Y ++ zeros z)) := by
            rcases HI.out.1 with ⟨h, h2⟩ | h
            · have := HI.out.2.1
              rw [h2] at this
              simp at this
              omega
            · exact h
          injection hsD with e1 e2 e3
          subst e1
          have hcell : wr.cell? ⟨TD, i, none⟩ = some (.int .u8 ((nth Y i : Nat) : Int)) := by
            rw [KD.cell, idA_opt, List.getElem?_append_left (by omega)]
            have : Y[i]? = some (nth Y i) := by unfold nth; rw [List.getD_eq_getElem?_getD, List.getElem?_eq_getElem (by omega)]; rfl
            rw [this]
            rfl
          have hfr := KD.frozen i
          have hzT := KD.lt
          have HKD := Lib.hid KD
          have HCD : Hid (c9 = Y.length + zD ∧ nd = Y.length ∧ c9 = cD) := ⟨by omega, e2, e3⟩
          have hyb : nth Y i < 256 := nth_lt Y i 256 (by decide) HI.out.2.2.1
          obtain ⟨y, hy⟩ : ∃ y, y = nth Y i := ⟨_, rfl⟩
          rw [← hy] at hcell hyb
          have hinc := byte_inc y hyb
          have q6 : (i : Int) < (nd : Int) := by omega
          have q7 : (0 : Int) ≤ (i : Int) := by omega
          have HJ := Lib.hid (show i + 1 ≤ nd by omega)
          have HLT := Lib.hid hlt
          obtain ⟨y2, hy2⟩ : ∃ y2, y2 = (y + 1) % 256 := ⟨_, rfl⟩
          rw [← hy2] at hinc
          have HY2 : Hid (y2 < 256) := by show _ < _; rw [hy2]; omega
          have HTD := Lib.hid hTD
          have HC2 := Lib.hid hcD2
          clear hi hy hy2 hyb KD e2 e3 hcD hcD2 hTD
          go_wp2_with fail
          go_roundw
          case rel =>
            refine ⟨i + 1, Y.set i y2, HJ.out, by first | rfl | (push_cast; rfl), ?_, by rw [List.length_set]; exact HI.out.2.1, fun x hx => ?_, ?_⟩
            · refine .inr ⟨TD, c9, zD, by rw [List.length_set, ← HCD.out.2.1], by rw [List.length_set]; exact HCD.out.1, by rw [HCD.out.2.2]; exact HC2.out, HTD.out, ?_⟩
              have h := HKD.out.set_ i (.int .u8 (y2 : Int))
              rw [idA_set, List.set_append_left _ _ (by have := HCD.out; have := HLT.out; omega)] at h
              exact h
            · rcases List.mem_or_eq_of_mem_set hx with h | h
              · exact HI.out.2.2.1 x h
              · rw [h]; exact HY2.out
            · exact HI.out.2.2.2.set_ (.inl ⟨_, _, _, rfl, rfl⟩) i none _
          case measure => have := HJ.out; simp [intOf]; omega
        · have j1 : decide ((i : Int) < (nd : Int)) = false := decide_eq_false (by omega)
          have j2 : decide (i < nd) = false := decide_eq_false hlt
          have hbt := HI.out.2.2.2
          have hFq : FeedM wr p w.heap.size v8 (FZ E).h (FZ E).e := by
            rw [HF1.out]
            exact ⟨hbt.keep HF10.out.1 (fun h => HDT10.out.apart HF10.out.1 (by decide) h), HF10.out.2.but hbt (fun j hj hs => HM9b.out j hs hj)⟩
          have hMq : Mine wr 0 (.slice (some ⟨TE, 0, none⟩) ne cE) E := HME10.out.but hbt (fun j hj hs => by
            have h1 := HTE.out j hj
            have h2 := HDB.out j hs
            have := HSZ4.out
            have := HP.out.2.2
            omega)
          have hWq : Below w.heap.size w wr := HW10.out.trans (hbt.below HW10.out.size (fun j hj => Nat.le_trans HW4S.out (HDB.out j hj)))
          have hbnq : BsN wr (fun j => j = p ∨ slb v8 j) (.slice (some ⟨TE, 0, none⟩) ne cE) E := by
            have h := mineBsn (S := fun j => j = p ∨ slb v8 j) hMq (fun j hj hs => by
              have h1 := HTE.out j hj
              rcases hs with rfl | hs
              · have := HP.out.2.2; omega
              · have := HV8.out j hs; have := HSZ4.out; have := HP.out.2.2; omega) HEX.out
            exact h
          have HAD := Lib.hid (fadd_on p w.heap.size ne cE (some ⟨TE, 0, none⟩) v8 E E wr (HL.out.below hWq HL.out.size) HL.out.size HP.out.1 hWq.size hFq HEX.out hbnq (by rw [HEL.out]; have := HK.out; omega))
          rw [HF1.out, HF2.out] at HAD
          have HWq := Lib.hid hWq
          clear hlt hi hbt hFq hMq hWq hbnq HI hcc
          go_wp2_with fail
          refine HAD.out.mono ?_
          rintro r w12 ⟨rv, v12, L12, rfl, hF12, hM12, ho12, hb12, hs12, hl12⟩
          have ho : L12.map FrM.pr = [(xL, b)] := by simpa using ho12
          obtain ⟨sx2, cx2, rfl⟩ := map_one ho
          obtain ⟨br2, cr2, rfl, hbr2, _, hq2, hcr2⟩ := made_one hM12
          have hdb2 := ((hM12.2 _ List.mem_cons_self).1).bs HBX.out
          have HW12 := Lib.hid (HWq.out.trans hl12)
          have hc12 : w12.cell? ⟨br2, 1, none⟩ = some (.slice sx2 nd cx2) := by rw [HND.out]; exact hq2
          clear hF12 hM12 ho12 hb12 hs12 hl12 ho hq2 HAD
          go_upto_region 23 with fail
          refine foR23 br2 cr2 nd cd cx2 sd sx2 ud w12 _ _ _ _ _ _ _ _ _ _ _ _ _ _ _ _ _ _ _ _ _ _ _ _ _ _ _ _ _ _ _ _ _ _ _ _ _ _ _ _ _ _ _ _ _ _ _ _ _ _ _ _ _ _ _ _ _ _ _ _ _ _ _ _ _ _ _ _ _ _ _ _ _ _ _ _ _ _ _ _ _ _ _ _ _ _ _ _ _ _ _ _ _ _ _ _ _ _ _ _ _ _ _ _ _ hbr2 hcr2 hc12 (by simp) (Lib.hid (fun W hW => by
            have h1 := conv_bs (hdb2.keep hW (Nat.le_refl _))
            change (convert 22 9 (.slice sx2 b.length cx2)).run Tryd.prog W = _ at h1
            rw [← HND.out, ← HUD.out] at h1
            exact h1)) (Lib.hid (fun W hW => HVD.out W (below_step HW12.out HW12.out.size hW))) (Lib.hid (fun _ _ _ _ _ _ _ _ _ _ _ _ _ w13 hb13 => ?_))
          have HW13 := Lib.hid (below_step HW12.out HW12.out.size hb13)
          clear hb13 hdb2 hc12
          go_wp2_with fail
          go_ret
          exact ⟨rfl, HW13.out⟩

/-- The door's own heap meets the condition. -/
theorem door_met (os : Os) (args : Array Value) : laidMetH Tryd.prog laidL ((World.doorLaid Tryd.prog 19 os).forCall (fun _ _ => 0) ⟨#[], args, []⟩).memory :=
  laidMetH_of_parts3 (fuel := 8) (laidMet_of_run' 8 (by kernel_rfl) (by kernel_rfl)) (by kernel_rfl) (by kernel_rfl)

set_option maxRecDepth 100000 in
theorem lifted (os : Os) (started : os.Started) (H : Type) (enc : TypeId × Value → H) :
    ReturnsInHanded {} Tryd.checked os 6 .any (fun w args => (Rows.frameOwnSpec.pre enc Tryd.prog Tryd.f6 [] false w args ∧ laidMetH Tryd.prog laidL w) ∧ sizedMet enc Tryd.prog Tryd.f6 (OpenSpec.ofChange Rows.frameOwnSpec) false w args)
      (Rows.frameOwnSpec.post enc Tryd.prog Tryd.f6 false true false false) := by
  refine returnsInHanded_of_change_and (C := Tryd.checked) (X := fun w _ => laidMetH Tryd.prog laidL w) (fun _ _ _ hh h => h.of_heap hh) own started (by kernel_rfl) Tryd.func6
    (ChangeSpec.witness_shaped (enc := enc) (C := Tryd.checked) (os := os) (X := fun w _ => laidMetH Tryd.prog laidL w) false (World.doorLaid Tryd.prog 19 os) #[.slice none 0 0, .int .i64 0] 8 rfl (World.shaped_of_RefB (by kernel_rfl) (by kernel_rfl)) (by kernel_rfl) (by kernel_rfl) (by kernel_rfl) (door_met os _)) ?_
  intro W base args ds gs before hval0 hW _ _ hL _
  have hval : ∀ (j : Nat) t v, Tryd.f6.params[j]? = some t → args[j]? = some v → Value.okWide Tryd.prog W .any base t v := hval0
  have hW' := hW
  obtain ⟨p, q, hA0, hV, rfl, hfz, hnd⟩ := hW
  have hA : DataW.TrodAll enc Tryd.prog W 0 (fun _ => true) true Tryd.f6.params.toList args.toList ds p := hA0
  rw [Tryd.params6] at hA hval
  obtain ⟨v0, vs0, d0, ds0, p0, q0, hargs, rfl, rfl, h0, r0⟩ := trodAll_cons hA
  obtain ⟨v1, vs1, d1, ds1, p1, q1, rfl, rfl, rfl, h1, r1⟩ := trodAll_cons r0
  obtain ⟨rfl, rfl, rfl⟩ := trodAll_nil r1
  obtain rfl : args = #[v0, v1] := by cases args; simp_all
  obtain ⟨rfl, rfl⟩ := trodVars_none hV
  have lt0 : ∀ x ∈ p0, x.block < W.heap.size := by obtain ⟨m, hm⟩ := h0; exact DataW.trod_lt m _ _ _ hm
  have lt1 : ∀ x ∈ p1, x.block < W.heap.size := by obtain ⟨m, hm⟩ := h1; exact DataW.trod_lt m _ _ _ hm
  obtain ⟨x0, hb0⟩ := bytes_arg (hval 0 22 v0 rfl rfl) h0
  obtain ⟨y1, rfl, _, _, hwf1⟩ := open_int (k := .i64) Tryd.underlying3 (hval 1 3 v1 rfl rfl) h1
  have hy1 := wf_i64 hwf1
  have hwalk := walk x0 v0 y1 W (of_laid hL) hb0 hy1
  clear hA0 hval0
  refine hwalk.mono fun e W' ⟨he, bel⟩ => ?_
  subst he
  exact ⟨_, rfl, _, _, _, [], _, [], hW', trodAll_mk1 (shut_bool Tryd.underlying4 _), (trodAll_cons_mk (Below.trod laidOut (by kernel_rfl) (of_decide_eq_true (by kernel_rfl)) h0 bel lt0) (trodAll_cons_mk (Below.trod laidOut (by kernel_rfl) (of_decide_eq_true (by kernel_rfl)) h1 bel lt1) trodAll_mk0)), rfl, bel.frame _, fun h => by cases h⟩

theorem over : Rows.FrameOwnSaid :=
  OpenClaim.holds_of_wide 6 Tryd.f6 rfl rfl rfl rfl rfl rfl rfl ⟨rfl, rfl, rfl, rfl, rfl⟩ rfl rfl rfl rfl rfl (by kernel_rfl) Tryd.func6 (by kernel_rfl)
    (of_decide_eq_true (by kernel_rfl)) (by unfold Func.isWrapper; first | (rw [if_pos (by decide +kernel)]; kernel_rfl) | (rw [if_neg (by decide +kernel)]; exact ⟨rfl, rfl⟩))
    (fun os started H enc _ => lifted os started H enc)

theorem proved : Rows.FrameOwnCardSaid :=
  Claim7.holds_tied_plain_at .later [] [.data, .data] true Rows.frameOwnCard.stood.harness false
    over (fun _ h => by cases h) (by kernel_rfl) (fun _ h => by cases h) frameOwn_row_tie rfl ⟨rfl, rfl⟩ (by kernel_rfl) rfl
    (fun f fn hf hfn => by
      obtain rfl : f = 6 := Option.some.inj ((show Tryd.prog.funcNamed "tallystick/tallysticklaw08.FrameOwn" = some 6 by kernel_rfl).symm.trans hf) |>.symm
      obtain rfl : fn = Tryd.f6 := (Option.some.inj (Tryd.func6.symm.trans hfn)).symm
      exact ⟨by kernel_rfl, fun j t ht => by
        rw [Tryd.params6] at ht
        have hm : t ∈ [22, 3] := by simpa using Array.mem_of_getElem? ht
        have hall : ([22, 3].all fun u => !Tryd.prog.wantsStandIn u) = true := by kernel_rfl
        exact (show Tryd.prog.wantsStandIn t = false by simpa using List.all_eq_true.1 hall t hm)⟩)
    (by kernel_rfl)
#print axioms proved
end Go.Proofs.YtanefmjjbilmiaaDoor.frameOwn
