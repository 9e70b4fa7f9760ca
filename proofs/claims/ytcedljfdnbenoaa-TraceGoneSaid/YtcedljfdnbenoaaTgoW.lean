/-
  What is proved: TraceGone holds for every input. No condition.
-/
import Derived.Test.YtcedljfdnbenoaaTrK
namespace Go.Proofs.Ytcedljfdnbenoaa.traceGone
open Go.ChangeShapes Go.WideShapes Go.ChangeAt Go.RowKit
set_option linter.unusedVariables false

theorem own : ownKnob Try.prog.godebug = none := by kernel_rfl
theorem laidOut : laidOutB Try.prog = true := by kernel_rfl
set_option linter.unusedSimpArgs false

def T2 : Int → Option TkM := updT (updT (fun _ => none) 1 (some ⟨true, true, true, true⟩)) 2 (some ⟨true, true, true, true⟩)
def q1 : BkM := cameM bk0 1
def q2 : BkM := saidM q1 1 1 []
def q3 : BkM := heardM q2 1 1 i0 []
def q4 : BkM := heardM q3 1 2 i0 []
def q5 : BkM := saidM q4 1 2 []
def q6 : BkM := cameM q5 2
def q7 : BkM := saidM q6 2 1 []
def q8 : BkM := heardM q7 2 1 i0 []
def q9 : BkM := heardM q8 2 2 i0 []
def q10 : BkM := saidM q9 2 2 []
/-- Names asked of one. -/
def aM (T : Int → Option TkM) (n : Nat) (id : Int) (L : List I32) : BkM := ⟨T, n, fun x => if x ∈ L then some id else none, fun j => if j = id then L else []⟩
def nM (T : Int → Option TkM) (n : Nat) : BkM := ⟨T, n, fun _ => none, fun _ => []⟩
theorem q10_eq : ∃ T, q10 = nM T 2 ∧ T 1 = some ⟨true, true, true, true⟩ ∧ T 2 = some ⟨true, true, true, true⟩ := ⟨q10.T, rfl, rfl, rfl⟩
theorem tw_new (A : I32 → Option Int) (hA : ∀ x, A x = none) : ∀ (L seen : List I32), (∀ x ∈ L, x ∉ seen) → L.Nodup → twB A seen L = false
  | [], seen, _, _ => rfl
  | x :: r, seen, h, hn => by
    obtain ⟨n1, n2⟩ := List.nodup_cons.1 hn
    unfold twB
    rw [hA x, decide_eq_false (h x List.mem_cons_self)]
    exact tw_new A hA r _ (fun z hz => by
      rw [List.mem_append, List.mem_singleton]
      rintro (h' | h')
      · exact h z (List.mem_cons_of_mem _ hz) h'
      · exact n1 (h' ▸ hz)) n2
theorem ask_new {T : Int → Option TkM} {n : Nat} (id : Int) {L : List I32} (h0 : L.length ≠ 0) (hn : L.Nodup) (h16 : L.length ≤ 16) : askE (nM T n) id L = 0 ∧ askM (nM T n) id L = aM T n id L := by
  have ht : twB (nM T n).A [] L = false := tw_new _ (fun _ => rfl) L [] (fun x _ => by simp) hn
  have hE : askE (nM T n) id L = 0 := by
    unfold askE
    rw [if_neg h0, ht, if_neg (by decide), if_neg (by show ¬ 16 < ([] : List I32).length + L.length; simp; omega)]
  refine ⟨hE, ?_⟩
  unfold askM
  rw [if_pos hE]
  rfl
theorem ask_old {T : Int → Option TkM} {n : Nat} (id id' : Int) {L : List I32} (h0 : L.length ≠ 0) : askE (aM T n id L) id' L = 5 ∧ askM (aM T n id L) id' L = aM T n id L := by
  have hE : askE (aM T n id L) id' L = 5 := by
    unfold askE
    rw [if_neg h0]
    have ht : twB (aM T n id L).A [] L = true := by
      cases L with
      | nil => exact absurd rfl h0
      | cons x r =>
        unfold twB
        have : (aM T n id (x :: r)).A x = some id := by simp [aM]
        rw [this]
        simp
    rw [ht, if_pos rfl]
  refine ⟨hE, ?_⟩
  unfold askM
  rw [hE, if_neg (by decide)]
theorem gone_ask {T : Int → Option TkM} {n : Nat} {id : Int} {L : List I32} {k : TkM} (hT : T id = some k) : goneM (aM T n id L) id = nM (updT T id none) (n - 1) := by
  have h1 : (fun x => if (aM T n id L).A x = some id then none else (aM T n id L).A x) = fun _ => none := by
    funext x
    unfold aM
    by_cases e : x ∈ L <;> simp [e]
  have h2 : (fun j => if j = id then [] else (aM T n id L).L j) = fun _ => [] := by
    funext j
    unfold aM
    by_cases e : j = id <;> simp [e]
  unfold goneM nM
  rw [h1, h2]
  have h3 : ((aM T n id L).T id).isSome = true := by show (T id).isSome = true; rw [hT]; rfl
  rw [if_pos h3]
  rfl
theorem ask_nil {M : BkM} {id : Int} : askE M id [] = 6 ∧ askM M id [] = M := by
  have hE : askE M id [] = 6 := by unfold askE; exact if_pos rfl
  refine ⟨hE, ?_⟩
  unfold askM
  rw [hE, if_neg (by decide)]
theorem row_nil (w : World) (B : Nat) : RowV idR w B (.slice none 0 0) [] := ⟨none, 0, rfl, Nat.le_refl _, by decide, fun h => absurd rfl h⟩
def f4 : TkM := ⟨true, true, true, true⟩
theorem saidE6 {M : BkM} {id : Int} (hT : M.T id = some f4) (L : List I32) : saidE M id 6 L = askE M id L := by unfold saidE; rw [hT]; rfl
theorem saidM6 {M : BkM} {id : Int} (hT : M.T id = some f4) (L : List I32) : saidM M id 6 L = askM M id L := by unfold saidM; rw [hT]; rfl
set_option maxRecDepth 100000 in
set_option maxHeartbeats 16000000 in
theorem walk (xs : List Nat) (v : Value) (w : World) (h : BsV w w.heap.size v xs) :
    Calls Try.prog 4 #[v] w fun e w' => e = .returned (.bool true) ∧ Below w.heap.size w w' := by
  have hx256 : ∀ x ∈ xs, x < 256 := by obtain ⟨_, _, _, _, _, h, _⟩ := h; exact h
  have hR := byR_of h
  have h63 : xs.length < 9223372036854775808 := by obtain ⟨_, _, _, h1, h2, _⟩ := hR; omega
  obtain ⟨s0, c, rfl⟩ : ∃ s c, v = .slice s xs.length c := hR.slice
  have hrow := byR_cell hR
  have HRV := Lib.hid hR
  obtain ⟨n, hn⟩ : ∃ n, n = xs.length := ⟨_, rfl⟩
  have HN := Lib.hid hn
  rw [← hn] at hrow h63 HRV ⊢
  have HL := Lib.hid hrow
  have HX := Lib.hid hx256
  clear hrow hn h hR hx256
  have hlk := looks_any w
  have hz := msz_zero
  have hne := msz_ne
  have hzi := idz_zero
  have hnei := idz_ne
  by_cases h16 : 16 < n
  · have d0 : decide ((16 : Int) < (n : Int)) = true := decide_eq_true (by omega)
    go_enter Try.func4, Try.ntmps4
    go_wp2_with fail
    refine hlk.mono ?_
    rintro e w1 ⟨rfl, hb1⟩
    go_wp2_with fail
    go_ret
    exact ⟨rfl, hb1⟩
  have d0 : decide ((16 : Int) < (n : Int)) = false := decide_eq_false (by omega)
  go_enter Try.func4, Try.ntmps4
  go_wp2_with fail
  refine hlk.mono ?_
  rintro e w1 ⟨rfl, hb1⟩
  have HB1 := Lib.hid hb1
  clear hlk hb1
  go_wp2_with fail
  go_loopw [3, 15] (fun v i wr => ∃ (k : Nat) (vi : Value), k ≤ n ∧ v = vi ∧ i = .int .i64 k ∧ Hid (MineR idR wr w.heap.size vi ((xs.take k).map idN)) ∧ Hid ((xs.take k).Nodup) ∧ Hid (Below w.heap.size w wr)) (fun _ i _ => n - (intOf i).toNat)
  case atStart => exact ⟨0, _, Nat.zero_le _, rfl, rfl, .inl ⟨rfl, rfl⟩, List.Pairwise.nil, HB1⟩
  case round =>
    obtain ⟨k, v3, hk, rfl, rfl, HM, HND, HB⟩ := hrel
    clear HB1
    by_cases hlt : k < n
    · obtain ⟨x, b, o, hkx, rfl, hbw, hcx⟩ := HL.out k hlt
      have j1 : decide ((k : Int) < (n : Int)) = true := decide_eq_true (by omega)
      have hcx : wr.cell? ⟨b, o + k, none⟩ = some (.int .u8 (x : Int)) := (HB.out.cell (p := ⟨b, o + k, none⟩) hbw).trans hcx
      have hbr : b < wr.heap.size := Nat.lt_of_lt_of_le hbw HB.out.size
      obtain ⟨hsl, hrt⟩ := rowV_take (HRV.out.keep HB.out (Nat.le_refl _)) (i := k) hk
      have hhas := has_any (xs.take k) x _ wr (hrt.mono HB.out.size)
      have hxl : x < 256 := HX.out x (List.mem_of_getElem? hkx)
      have hTK : xs.take (k + 1) = xs.take k ++ [x] := by
        rw [List.take_add_one, hkx]
        rfl
      by_cases hin : x ∈ xs.take k
      · rw [decide_eq_true hin] at hhas
        clear HM HND hrt hTK hkx hin
        go_wp2_with fail
        refine hhas.mono ?_
        rintro e w5 ⟨rfl, rfl⟩
        clear hhas
        go_wp2_with fail
        go_ret
        exact ⟨rfl, HB.out⟩
      · rw [decide_eq_false hin] at hhas
        have HND' : Hid ((xs.take (k + 1)).Nodup) := by
          show List.Nodup _
          rw [hTK]
          exact List.nodup_append.2 ⟨HND.out, by simp, fun a ha b' hb' e => by
            obtain rfl : b' = x := by simpa using hb'
            exact hin (e ▸ ha)⟩
        have hev : Value.agg (idz.setIfInBounds 0 (.int .u8 (x : Int))) = .agg (idR.c (idN x)).toArray := by
          rw [idN_lt hxl]
          exact congrArg Value.agg (idB_set x hxl)
        obtain ⟨v', W', hrun, hM', hb', _⟩ := appR idR_ok ((xs.take k).map idN) [idN x] u3 (.slice (some ⟨wr.heap.size, 0, none⟩) 1 1) w.heap.size (wr.alloc (.cells (idR.c (idN x)).toArray idR.e)) (HM.out.keep ((Below.refl _ _).alloc (Nat.le_refl _) _)) (Nat.le_trans HB.out.size (by simp)) (one_rowR idR_ok (Bk.new _ _ _)) (by simp; omega)
        rw [show (xs.take k).map idN ++ [idN x] = (xs.take (k + 1)).map idN by rw [hTK]; simp] at hM'
        have HM' := Lib.hid hM'
        have HB' : Hid (Below w.heap.size w W') := (HB.out.alloc HB.out.size _).trans (hb'.below (Nat.le_trans HB.out.size (by simp)) (fun q hq => (HM.out.slb_lo hq).1))
        clear HM HND hrt hTK hkx hin hM' hb' HB
        go_wp2_with fail
        refine hhas.mono ?_
        rintro e w5 ⟨rfl, rfl⟩
        clear hhas
        go_wp2_with (first | (refine wpList_bsR1 idR_ok (by decide) rfl (.tmp 27) rfl (idN x) rfl ?_) | (at_builtin; refine wpList_ap 34 rfl (.tmp 25) (.tmp 28) rfl rfl rfl rfl hrun ?_))
        go_roundw
        case rel => exact ⟨k + 1, v', by omega, rfl, by go_num, HM', HND', HB'⟩
        case measure => simp [intOf]; omega
    · obtain rfl : k = n := by omega
      have j1 : decide ((k : Int) < (k : Int)) = false := decide_eq_false (by omega)
      clear hlt
      obtain ⟨L, hL⟩ : ∃ L, L = xs.map idN := ⟨_, rfl⟩
      have htk : xs.take k = xs := by rw [HN.out, List.take_length]
      have hm := HM.out
      have hnd := HND.out
      rw [htk] at hm hnd
      rw [← hL] at hm
      have hLl : L.length = k := by rw [hL, List.length_map]; exact HN.out.symm
      have hLn : L.Nodup := by
        rw [hL]
        refine (List.pairwise_map).2 (hnd.imp_of_mem (fun {a b} ha hb hne e => hne (idN_inj (HX.out a ha) (HX.out b hb) e)))
      have h0 := ((HasF.new wr 0).before (F' := slb u3) (fun q hq => (hm.slb_lo hq).2.1)).rebase HB.out
      have hr0 := (hm.rows idR_ok).keep (C := wr.heap.size) ((Below.refl wr.heap.size wr).alloc (Nat.le_refl _) (.cells #[.map none, .map none] 27)) (Nat.le_refl _)
      obtain ⟨s3, c3, hu3⟩ : ∃ s c, u3 = .slice s k c := by rw [← hLl]; exact hm.slice
      have HU := Lib.hid hu3
      obtain ⟨g, hg⟩ : ∃ g, g = wr.heap.size := ⟨_, rfl⟩
      rw [← hg] at h0 hr0
      have HLl := Lib.hid hLl
      have HLn := Lib.hid hLn
      clear HM HND HB hm hnd htk hL hLl hLn HN HX HL HRV
      go_upto_region 14 with fail
      rw [← hg]
      refine wp_any (fun W => HasF w W (slb u3) g 0 bk0 ∧ RowV idR W g u3 L) ⟨h0, hr0⟩ ?_
      clear h0 hr0 hg
      clear wr
      rintro V0 ⟨h0, hr0⟩
      have HR0 := Lib.hid hr0
      have HS0 : Hid (SameF (slb u3) V0 V0) := fun _ _ => rfl
      clear hr0 hu3
      go_wp2_with fail
      refine wp_loop_rounds 3 ?_
      rw [rounds_succ]
      have hc := HasF.came (M := bk0) h0 1 (by unfold InI; omega) (by decide)
      unfold bkP at hc
      clear h0
      go_wp2_with fail
      refine hc.mono ?_
      rintro e V1 ⟨rfl, h1, hs⟩
      have HS1 : Hid (SameF (slb u3) V0 V1) := fun q hq => (hs q hq).trans (HS0.out q hq)
      clear hc hs HS0
      have hc := HasF.said (M := q1) h1 1 (by unfold InI; omega) (ms1 1) 1 _ [] (ms1_0 1) (ms1_3 1) (fun e => absurd e (by decide)) (by decide) (by decide)
      unfold ms1 bkP at hc
      clear h1
      go_wp2_with fail
      refine hc.mono ?_
      rintro e V2 ⟨rfl, h2, hs⟩
      have HS2 : Hid (SameF (slb u3) V0 V2) := fun q hq => (hs q hq).trans (HS1.out q hq)
      clear hc hs HS1
      have hc := HasF.heard (M := q2) h2 1 (by unfold InI; omega) (ms1 1) 1 _ i0 [] (ms1_0 1) (ms1_3 1) (fun e => absurd e (by decide))
      rw [idV_i0] at hc
      unfold ms1 bkP at hc
      clear h2
      go_wp2_with fail
      refine hc.mono ?_
      rintro e V3 ⟨rfl, h3, hs⟩
      have HS3 : Hid (SameF (slb u3) V0 V3) := fun q hq => (hs q hq).trans (HS2.out q hq)
      clear hc hs HS2
      have hc := HasF.heard (M := q3) h3 1 (by unfold InI; omega) (ms1 2) 2 _ i0 [] (ms1_0 2) (ms1_3 2) (fun e => absurd e (by decide))
      rw [idV_i0] at hc
      unfold ms1 bkP at hc
      clear h3
      go_wp2_with fail
      refine hc.mono ?_
      rintro e V4 ⟨rfl, h4, hs⟩
      have HS4 : Hid (SameF (slb u3) V0 V4) := fun q hq => (hs q hq).trans (HS3.out q hq)
      clear hc hs HS3
      have hc := HasF.said (M := q4) h4 1 (by unfold InI; omega) (ms1 2) 2 _ [] (ms1_0 2) (ms1_3 2) (fun e => absurd e (by decide)) (by decide) (by decide)
      unfold ms1 bkP at hc
      clear h4
      go_wp2_with fail
      refine hc.mono ?_
      rintro e V5 ⟨rfl, h5, hs⟩
      have HS5 : Hid (SameF (slb u3) V0 V5) := fun q hq => (hs q hq).trans (HS4.out q hq)
      clear hc hs HS4
      go_wp2_with fail
      rw [rounds_succ]
      have hc := HasF.came (M := q5) h5 2 (by unfold InI; omega) (by decide)
      unfold bkP at hc
      clear h5
      go_wp2_with fail
      refine hc.mono ?_
      rintro e V6 ⟨rfl, h6, hs⟩
      have HS6 : Hid (SameF (slb u3) V0 V6) := fun q hq => (hs q hq).trans (HS5.out q hq)
      clear hc hs HS5
      have hc := HasF.said (M := q6) h6 2 (by unfold InI; omega) (ms1 1) 1 _ [] (ms1_0 1) (ms1_3 1) (fun e => absurd e (by decide)) (by decide) (by decide)
      unfold ms1 bkP at hc
      clear h6
      go_wp2_with fail
      refine hc.mono ?_
      rintro e V7 ⟨rfl, h7, hs⟩
      have HS7 : Hid (SameF (slb u3) V0 V7) := fun q hq => (hs q hq).trans (HS6.out q hq)
      clear hc hs HS6
      have hc := HasF.heard (M := q7) h7 2 (by unfold InI; omega) (ms1 1) 1 _ i0 [] (ms1_0 1) (ms1_3 1) (fun e => absurd e (by decide))
      rw [idV_i0] at hc
      unfold ms1 bkP at hc
      clear h7
      go_wp2_with fail
      refine hc.mono ?_
      rintro e V8 ⟨rfl, h8, hs⟩
      have HS8 : Hid (SameF (slb u3) V0 V8) := fun q hq => (hs q hq).trans (HS7.out q hq)
      clear hc hs HS7
      have hc := HasF.heard (M := q8) h8 2 (by unfold InI; omega) (ms1 2) 2 _ i0 [] (ms1_0 2) (ms1_3 2) (fun e => absurd e (by decide))
      rw [idV_i0] at hc
      unfold ms1 bkP at hc
      clear h8
      go_wp2_with fail
      refine hc.mono ?_
      rintro e V9 ⟨rfl, h9, hs⟩
      have HS9 : Hid (SameF (slb u3) V0 V9) := fun q hq => (hs q hq).trans (HS8.out q hq)
      clear hc hs HS8
      have hc := HasF.said (M := q9) h9 2 (by unfold InI; omega) (ms1 2) 2 _ [] (ms1_0 2) (ms1_3 2) (fun e => absurd e (by decide)) (by decide) (by decide)
      unfold ms1 bkP at hc
      clear h9
      go_wp2_with fail
      refine hc.mono ?_
      rintro e V10 ⟨rfl, h10, hs⟩
      have HS10 : Hid (SameF (slb u3) V0 V10) := fun q hq => (hs q hq).trans (HS9.out q hq)
      clear hc hs HS9
      go_wp2_with fail
      rw [rounds_succ]
      have hu3 := HU.out
      clear HU
      subst hu3
      obtain ⟨T, hq, hT1, hT2⟩ := q10_eq
      have h10' : HasF w V10 (slb (.slice s3 k c3)) g 64 q10 := h10
      rw [hq] at h10'
      clear h10
      have h10 := h10'
      clear h10'
      have hr10 := (HR0.out.same HS10.out (fun _ h => h)).mono (Nat.le_of_lt h10.glt)
      have HT1 := Lib.hid hT1
      have HT2 := Lib.hid hT2
      clear hq hT1 hT2 HR0 HS10
      by_cases hk0 : k = 0
      · have d1 : ((k : Int) == 0) = true := by simp [hk0]
        have hc := HasF.said h10 1 (by unfold InI; omega) (ms1 6) 6 (.slice none 0 0) [] (ms1_0 6) (ms1_3 6) (fun _ => ⟨row_nil _ _, by decide⟩) (by decide) (by show ([] : List I32).length ≤ _; decide)
        rw [saidE6 (M := nM T 2) HT1.out, saidM6 (M := nM T 2) HT1.out, ask_nil.1, ask_nil.2] at hc
        unfold ms1 bkP at hc
        clear h10 hr10 hk0
        go_wp2_with fail
        refine hc.mono ?_
        rintro e V11 ⟨rfl, h11, hs⟩
        have HB := Lib.hid h11.below
        clear hc h11 hs
        go_wp2_with fail
        go_ret
        exact ⟨rfl, HB.out⟩
      have d1 : ((k : Int) == 0) = false := by simp [hk0]
      have hLl := HLl.out
      have hL0 : L.length ≠ 0 := by omega
      obtain ⟨a1, a2⟩ := ask_new (T := T) (n := 2) 1 hL0 HLn.out (by omega)
      obtain ⟨b1, b2⟩ := ask_old (T := T) (n := 2) 1 2 hL0
      obtain ⟨c1, c2⟩ := ask_new (T := updT T 1 none) (n := 1) 2 hL0 HLn.out (by omega)
      have hTT : updT T 1 none 2 = some f4 := HT2.out
      have hc := HasF.said h10 1 (by unfold InI; omega) (ms2 6 (.slice s3 k c3)) 6 _ L (ms2_0 6 _) (ms2_3 6 _) (fun _ => ⟨hr10, by omega⟩) (by decide) (by show ([] : List I32).length ≤ _; decide)
      rw [saidE6 (M := nM T 2) HT1.out, saidM6 (M := nM T 2) HT1.out, a1, a2] at hc
      unfold ms2 ms1 bkP at hc
      have HR10 := Lib.hid hr10
      have HA := Lib.hid (show _ ∧ _ ∧ _ ∧ _ ∧ _ ∧ _ ∧ _ from ⟨b1, b2, c1, c2, hL0, hTT, hLl⟩)
      clear h10 hr10 a1 a2 b1 b2 c1 c2 hL0 hTT hLl hk0
      go_wp2_with fail
      refine hc.mono ?_
      rintro e V11 ⟨rfl, h11, hs⟩
      have HR11 := Lib.hid (HR10.out.same hs (fun _ h => h))
      obtain ⟨b1, b2, c1, c2, hL0, hTT, hLl⟩ := HA.out
      clear hc hs HR10
      have hc := HasF.said (M := aM T 2 1 L) h11 2 (by unfold InI; omega) (ms2 6 (.slice s3 k c3)) 6 _ L (ms2_0 6 _) (ms2_3 6 _) (fun _ => ⟨HR11.out.bound h11, by omega⟩) (by decide) (by show ([] : List I32).length ≤ _; decide)
      rw [saidE6 (M := aM T 2 1 L) HT2.out, saidM6 (M := aM T 2 1 L) HT2.out, b1, b2] at hc
      unfold ms2 ms1 bkP at hc
      clear h11 b1 b2 c1 c2 hL0 hTT hLl
      go_wp2_with fail
      refine hc.mono ?_
      rintro e V12 ⟨rfl, h12, hs⟩
      have HR12 := Lib.hid (HR11.out.same hs (fun _ h => h))
      clear hc hs HR11
      have hc := HasF.gone (M := aM T 2 1 L) h12 1 (by unfold InI; omega)
      rw [gone_ask HT1.out] at hc
      unfold bkP at hc
      clear h12
      go_wp2_with fail
      refine hc.mono ?_
      rintro e V13 ⟨rfl, h13, hs⟩
      have HR13 := Lib.hid (HR12.out.same hs (fun _ h => h))
      obtain ⟨b1, b2, c1, c2, hL0, hTT, hLl⟩ := HA.out
      clear hc hs HR12
      have hc := HasF.said (M := nM (updT T 1 none) 1) h13 2 (by unfold InI; omega) (ms2 6 (.slice s3 k c3)) 6 _ L (ms2_0 6 _) (ms2_3 6 _) (fun _ => ⟨HR13.out.bound h13, by omega⟩) (by decide) (by show ([] : List I32).length ≤ _; decide)
      rw [saidE6 (M := nM (updT T 1 none) 1) (id := 2) hTT, saidM6 (M := nM (updT T 1 none) 1) (id := 2) hTT, c1, c2] at hc
      unfold ms2 ms1 bkP at hc
      clear h13 b1 b2 c1 c2 hL0 hTT hLl
      go_wp2_with fail
      refine hc.mono ?_
      rintro e V14 ⟨rfl, h14, hs⟩
      clear hc hs HR13
      obtain ⟨b1, b2, c1, c2, hL0, hTT, hLl⟩ := HA.out
      have hc := HasF.asked (M := aM (updT T 1 none) 1 2 L) h14 2 (by show L.length < _; omega)
      rw [show ((aM (updT T 1 none) 1 2 L).L 2).length = k from hLl] at hc
      unfold bkP at hc
      clear h14 b1 b2 c1 c2 hL0 hTT hLl
      go_wp2_with fail
      refine hc.mono ?_
      rintro e V15 ⟨rfl, h15, hs⟩
      clear hc hs
      have hc := HasF.asked (M := aM (updT T 1 none) 1 2 L) h15 1 (by show ([] : List I32).length < _; decide)
      rw [show ((aM (updT T 1 none) 1 2 L).L 1).length = 0 from rfl] at hc
      unfold bkP at hc
      clear h15
      have q0 : ((k : Int) != (k : Int)) = false := by simp
      go_wp2_with fail
      refine hc.mono ?_
      rintro e V16 ⟨rfl, h16', hs⟩
      clear hc hs
      have hc := HasF.came (M := aM (updT T 1 none) 1 2 L) h16' 1 (by unfold InI; omega) (by show (1 : Nat) < _; decide)
      have hT0 : (aM (updT T 1 none) 1 2 L).T 1 = none := rfl
      rw [show cameE (aM (updT T 1 none) 1 2 L) 1 = 0 by unfold cameE; rw [hT0]; rfl] at hc
      obtain ⟨MC, hMC⟩ : ∃ MC, MC = cameM (aM (updT T 1 none) 1 2 L) 1 := ⟨_, rfl⟩
      have hMT : MC.T 1 = some tk0 ∧ MC.L 1 = [] := by
        rw [hMC]
        unfold cameM
        rw [hT0]
        exact ⟨rfl, rfl⟩
      rw [← hMC] at hc
      unfold bkP at hc
      clear h16' hMC hT0
      go_wp2_with fail
      refine hc.mono ?_
      rintro e V17 ⟨rfl, h17, hs⟩
      clear hc hs
      have hc := HasF.said (M := MC) h17 1 (by unfold InI; omega) (ms1 9) 9 _ [] (ms1_0 9) (ms1_3 9) (fun e => absurd e (by decide)) (by decide) (by rw [hMT.2]; decide)
      rw [show saidE MC 1 9 [] = 7 by unfold saidE; rw [hMT.1]; rfl, show saidM MC 1 9 [] = MC by unfold saidM; rw [hMT.1]; rfl] at hc
      unfold ms1 bkP at hc
      clear h17
      go_wp2_with fail
      refine hc.mono ?_
      rintro e V18 ⟨rfl, h18, hs⟩
      clear hc hs
      have hc := HasF.said (M := MC) h18 1 (by unfold InI; omega) (ms1 1) 1 _ [] (ms1_0 1) (ms1_3 1) (fun e => absurd e (by decide)) (by decide) (by rw [hMT.2]; decide)
      rw [show saidE MC 1 1 [] = 0 by unfold saidE; rw [hMT.1]; rfl] at hc
      unfold ms1 bkP at hc
      clear h18
      go_wp2_with fail
      refine hc.mono ?_
      rintro e V19 ⟨rfl, h19, hs⟩
      have HB := Lib.hid h19.below
      clear hc hs h19 hMT
      go_wp2_with fail
      go_ret
      exact ⟨rfl, HB.out⟩
end Go.Proofs.Ytcedljfdnbenoaa.traceGone
