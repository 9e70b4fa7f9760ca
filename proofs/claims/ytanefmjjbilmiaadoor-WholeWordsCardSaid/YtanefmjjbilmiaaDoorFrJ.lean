/-
  The contracts of a Feed's Held and Err, and of the law's word frames.
-/
import Derived.Test.YtanefmjjbilmiaaDoorFrB
import Derived.Test.YtanefmjjbilmiaaDoorFrI
import Derived.Lib.SlBytesConst
namespace Go.Proofs.YtanefmjjbilmiaaDoor
open Go.RowKit
set_option linter.unusedVariables false
set_option linter.unusedSimpArgs false
set_option maxRecDepth 100000
theorem fheld_any (p lo n c e : Nat) (s : Option Addr) (h : List Nat) (w : World) (hF : FeedM w p lo (.slice s n c) h e) :
    Calls Tryd.prog 22 #[.pointer (some ⟨p, 0, none⟩)] w fun r w' => r = .returned (.int .i64 (n : Int)) ∧ w' = w := by
  have c0 := hF.1.cell 0
  have z0 := hF.1.lt
  clear hF
  go_enter Tryd.func22, Tryd.ntmps22
  go_wp2_with fail
  go_ret
  exact ⟨rfl, rfl⟩
theorem ferr_any (p lo e : Nat) (v : Value) (h : List Nat) (w : World) (hF : FeedM w p lo v h e) :
    Calls Tryd.prog 25 #[.pointer (some ⟨p, 0, none⟩)] w fun r w' => r = .returned (.int .i64 (e : Int)) ∧ w' = w := by
  have c1 := hF.1.cell 1
  have z0 := hF.1.lt
  clear hF
  go_enter Tryd.func25, Tryd.ntmps25
  go_wp2_with fail
  go_ret
  exact ⟨rfl, rfl⟩
theorem str_eqb (x y : List Nat) (hx : ∀ b ∈ x, b < 256) (hy : ∀ b ∈ y, b < 256) : ((strN x).toList == (strN y).toList) = decide (x = y) := by
  rw [strN_toList, strN_toList]
  by_cases h : x = y
  · subst h
    simp
  · rw [decide_eq_false h, beq_eq_false_iff_ne]
    intro e
    apply h
    have hl : x.length = y.length := by have := congrArg List.length e; simpa using this
    apply List.ext_getElem hl
    intro i h1 h2
    have e1 : (x.map UInt8.ofNat)[i]? = (y.map UInt8.ofNat)[i]? := by rw [e]
    rw [List.getElem?_map, List.getElem?_map, List.getElem?_eq_getElem h1, List.getElem?_eq_getElem h2] at e1
    have e2 : UInt8.ofNat x[i] = UInt8.ofNat y[i] := by simpa using e1
    have e3 := congrArg UInt8.toNat e2
    rw [UInt8.toNat_ofNat', UInt8.toNat_ofNat'] at e3
    have a1 := hx _ (List.getElem_mem h1)
    have a2 := hy _ (List.getElem_mem h2)
    omega
theorem wordOk_dec (l : List Nat) (h1 : 1 ≤ l.length) (h2 : l.length ≤ 12) (h : ∀ x ∈ l, 97 ≤ x ∧ x ≤ 122) : WordOk l := ⟨h1, h2, fun i hi => h _ (by
  unfold nth
  rw [List.getD_eq_getElem?_getD, List.getElem?_eq_getElem hi]
  exact List.getElem_mem hi)⟩
def pingL : List Nat := [112, 105, 110, 103]
def hiL : List Nat := [104, 105]
theorem ping_ok : WordOk pingL := wordOk_dec _ (by decide) (by decide) (by decide)
/-- A frame's bytes make that frame. -/
theorem feed_one_enc (wd da : List Nat) (h : WordOk wd) (hd : da.length ≤ 16384) (hx : ∀ x ∈ da, x < 256) : feedL ⟨[], 0, []⟩ (encL wd da) = ⟨[], 0, [(wd, da)]⟩ := by
  have h1 := feed_enc wd da [] [] h hd hx (by simp)
  rw [List.append_nil] at h1
  exact h1
theorem map_one {L : List FrM} {a b : List Nat} (h : L.map FrM.pr = [(a, b)]) : ∃ s c, L = [⟨a, s, c, b⟩] := by
  match L, h with
  | [x], h =>
    obtain ⟨wd, s, c, da⟩ := x
    simp [FrM.pr] at h
    obtain ⟨rfl, rfl⟩ := h
    exact ⟨s, c, rfl⟩
  | [], h => simp at h
  | _ :: _ :: _, h => simp at h
theorem new_feed {W : World} {B : Nat} (h : Bk W B 36 #[.slice none 0 0, .int .i64 0]) (lo : Nat) : FeedM W B lo (.slice none 0 0) [] 0 := ⟨h, .inl ⟨rfl, rfl⟩⟩
theorem FOk0 : FOk ⟨[], 0, []⟩ := FOk.zero []
/-- A slice of one's own that is not the feed's. -/
theorem bsn_new {w W : World} {B p : Nat} {v : Value} {xs : List Nat} (h : BsV W B v xs) (hB : B ≤ W.heap.size) (hp : B ≤ p) : BsN W (fun k => k = p ∨ slb (.slice none 0 0) k) v xs :=
  BsN.of_bs h hB (fun k hk hc => by
    rcases hc with hc | hc
    · omega
    · exact slb_none _ _ _ hc)
/-- The one frame that is there, in memory. -/
theorem made_one {W : World} {lo : Nat} {v rv : Value} {x : FrM} (h : MadeM W lo v rv [x]) : ∃ b c, rv = .slice (some ⟨b, 0, none⟩) 1 c ∧ b < W.heap.size ∧ W.cell? ⟨b, 0, none⟩ = some (.string (strN x.wd)) ∧ W.cell? ⟨b, 1, none⟩ = some x.dv ∧ 1 ≤ c := by
  have hm := h.1
  rcases hm with ⟨_, hc⟩ | ⟨T, cap, z, rfl, hc, hc2, hT, K⟩
  · cases hc
  · refine ⟨T, cap, rfl, K.lt, ?_, ?_, by rw [hc]; simp⟩
    · have h1 := rowr_row frR_ok (L := [x]) (M := List.replicate z frR.z) K 0 x rfl 0 _ rfl
      simpa using h1
    · have h1 := rowr_row frR_ok (L := [x]) (M := List.replicate z frR.z) K 0 x rfl 1 _ rfl
      simpa using h1
set_option maxHeartbeats 4000000 in
theorem frames_any (w : World) (hL : Laid w) : Calls Tryd.prog 16 #[] w fun r w' => r = .returned (.bool true) ∧ Below w.heap.size w w' := by
  have HL := Lib.hid hL
  have hu : strN pingL = ⟨#[112, 105, 110, 103]⟩ := by decide +kernel
  have hh : strN hiL = ⟨#[104, 105]⟩ := by decide +kernel
  have hy : strN magL = ⟨#[89, 76, 65, 84]⟩ := by decide +kernel
  have HEN : Hid (∀ W s n c, Below w.heap.size w W → BsV W W.heap.size (.slice s n c) hiL → Calls Tryd.prog 17 #[.agg #[.string ⟨#[112, 105, 110, 103]⟩, .slice s n c]] W fun r w' => ∃ s c, r = .returned (.tuple #[.slice s 26 c, .int .i64 0]) ∧ Below W.heap.size W w' ∧ Mine w' W.heap.size (.slice s 26 c) (encL pingL hiL)) := fun W s n c hb hs => by
    have h := fencode_any pingL hiL s n c W (hL.below hb hL.size) (fun x hx => (word_lt ping_ok x hx).1) hs (by decide)
    rw [hu] at h
    refine h.mono ?_
    rintro r w' ⟨v', rfl, hbel, hM, _⟩
    have e0 : encE pingL hiL = 0 := encE_of ping_ok (by decide)
    have hM := hM e0
    obtain ⟨s, c, rfl⟩ := hM.slice
    have hl : (encL pingL hiL).length = 26 := by rw [encL_len pingL hiL (by decide)]; rfl
    rw [hl] at hM ⊢
    rw [e0]
    exact ⟨s, c, rfl, hbel, hM⟩
  have HADD : Hid (∀ W p sb m cb, Below w.heap.size w W → w.heap.size ≤ p → FeedM W p w.heap.size (.slice none 0 0) [] 0 → BsN W (fun k => k = p ∨ slb (.slice none 0 0) k) (.slice sb m cb) (encL pingL hiL) → Calls Tryd.prog 21 #[.pointer (some ⟨p, 0, none⟩), .slice sb m cb] W fun r w' => ∃ rv, r = .returned rv ∧ AddPost W w' p w.heap.size (.slice none 0 0) [] 0 (encL pingL hiL) rv) :=
    fun W p sb m cb hb hp hF hB => fadd_any p w.heap.size 0 m cb sb (.slice none 0 0) [] (encL pingL hiL) W (hL.below hb hL.size) hL.size hp hF (by simp) FOk0 hb.size hB (by rw [encL_len pingL hiL (by decide)]; decide)
  clear hL
  have HU := Lib.hid hu
  have HH := Lib.hid hh
  have HY := Lib.hid hy
  clear hu hh hy
  go_enter Tryd.func16, Tryd.ntmps16
  have hA : Below w.heap.size w (w.alloc (.cells #[.int .u8 104, .int .u8 105] 5 (2, 3))) := (Below.refl _ _).alloc (Nat.le_refl _) _
  have hg2 : (w.alloc (.cells #[.int .u8 104, .int .u8 105] 5 (2, 3))).heap[w.heap.size]? = some (.cells (idA hiL) 5 (2, 3)) := heap_alloc_new w _
  have HE := Lib.hid (HEN.out (w.alloc (.cells #[.int .u8 104, .int .u8 105] 5 (2, 3))) (some ⟨w.heap.size, 0, none⟩) 2 2 hA (bsn_rowf (S := fun _ => False) (n := 2) (cap := 2) (ys := hiL) hg2 (fun h => h) rfl (by decide) (by decide) (by decide)).bs)
  have HA := Lib.hid hA
  have hcs : (convert 22 22 (.slice (some ⟨w.heap.size, 0, none⟩) 2 2)).run Tryd.prog (w.alloc (.cells #[.int .u8 104, .int .u8 105] 5)) = .ok (.slice (some ⟨w.heap.size, 0, none⟩) 2 2) (w.alloc (.cells #[.int .u8 104, .int .u8 105] 5 (2, 3))) := Lib.run_convert_bytes_const (P := Tryd.prog) w 22 5 #[.int .u8 104, .int .u8 105] 2 2 Tryd.underlying22 Tryd.underlying5
  clear hA HEN hg2
  go_wp2_with fail
  refine HE.out.mono ?_
  rintro r w1 ⟨s1, c1, rfl, hb1, hM1⟩
  have HW1 := Lib.hid (below_step HA.out HA.out.size hb1)
  have HM1 := Lib.hid hM1
  clear hb1 hM1 HE HA
  go_upto_region 3 with fail
  refine wp_any (fun W => Below w1.heap.size w1 W ∧ Bk W w1.heap.size 36 #[.slice none 0 0, .int .i64 0]) ⟨(Below.refl _ _).alloc (Nat.le_refl _) _, Bk.new _ _ _⟩ ?_
  obtain ⟨p, hp⟩ : ∃ p, p = w1.heap.size := ⟨_, rfl⟩
  have HP := Lib.hid hp
  rw [← hp]
  clear hp
  rintro W2 ⟨hW2, K2⟩
  have hW2' : Below w1.heap.size w1 W2 := by rw [← HP.out]; exact hW2
  have HW2 := Lib.hid (below_step HW1.out HW1.out.size hW2')
  have HM2 := Lib.hid (HM1.out.keep hW2')
  have hlt : ∀ x ∈ encL pingL hiL, x < 256 := encL_lt _ _ (by decide) (by decide)
  have HC := Lib.hid (HADD.out W2 p s1 26 c1 HW2.out (by rw [HP.out]; exact HW1.out.size) (new_feed K2 _) (bsn_new (w := w1) ((HM1.out.bs hlt).keep hW2' (Nat.le_refl _)) hW2'.size (by rw [HP.out]; exact Nat.le_refl _)))
  clear hW2 hW2' HM1 HADD hlt
  have c0 := K2.cell 0
  have z2 := K2.lt
  go_wp2_with fail
  refine HC.out.mono ?_
  rintro r w3 ⟨rv, rfl, v', L, hF, hMd, hpr, hbut, hown⟩
  rw [feed_one_enc pingL hiL ping_ok (by decide) (by decide)] at hF hpr
  obtain ⟨s8, c8, rfl⟩ := map_one hpr
  obtain ⟨br, cr, rfl, hbr, hq0, hq1, hcr⟩ := made_one hMd
  have hd : Mine w3 W2.heap.size (.slice s8 2 c8) hiL := (hMd.2 _ List.mem_cons_self).1
  have HW3 : Hid (Below w.heap.size w w3) := HW2.out.trans (hbut.below HW2.out.size (fun k hk => by
    rcases hk with rfl | hk
    · rw [HP.out]; exact HW1.out.size
    · exact absurd hk (slb_none _ _ _)))
  have hM3 := HM2.out.but hbut (fun k hk hs => by
    rcases hs with rfl | hs
    · exact HM2.out.apart K2 (by decide) hk
    · exact absurd hs (slb_none _ _ _))
  have hlt : ∀ x ∈ encL pingL hiL, x < 256 := encL_lt _ _ (by decide) (by decide)
  obtain ⟨T, rfl⟩ : ∃ T, s1 = some ⟨T, 0, none⟩ := by
    rcases hM3 with ⟨hm, _⟩ | ⟨T, cap, z, hm, _⟩
    · cases hm
    · cases hm
      exact ⟨_, rfl⟩
  have hcap : 26 ≤ c1 := by
    obtain ⟨s', cap', e', g1, g2, _⟩ := hM3.bs hlt
    have g1' := encL_len pingL hiL (by decide)
    have e2 := e'
    rw [g1'] at e2 g1
    cases e2
    exact g1
  have hcv1 : (convert 22 9 (.slice (some ⟨T, 0, none⟩) 4 c1)).run Tryd.prog w3 = .ok (.string ⟨#[89, 76, 65, 84]⟩) w3 := by
    have h := bsv_part 0 4 (hM3.bs hlt) (by rw [encL_len pingL hiL (by decide)]; decide)
    have e1 : ((encL pingL hiL).drop 0).take 4 = magL := encL_take4 _ _
    rw [e1, Go.WideShapes.add_plain] at h
    have h2 := conv_bs h
    rw [HY.out] at h2
    exact h2
  have hcv2 : (convert 22 9 (.slice s8 2 c8)).run Tryd.prog w3 = .ok (.string ⟨#[104, 105]⟩) w3 := by
    have h2 := conv_bs (hd.bs (by decide))
    rw [HH.out] at h2
    exact h2
  have hc0 : w3.cell? ⟨br, 0, none⟩ = some (.string ⟨#[112, 105, 110, 103]⟩) := by
    rw [← HU.out]
    exact hq0
  have hc1 : w3.cell? ⟨br, 1, none⟩ = some (.slice s8 2 c8) := hq1
  clear hq0 hq1
  have hc26 : (4 : Int) ≤ (c1 : Int) := by omega
  have E1 : ((⟨#[89, 76, 65, 84]⟩ : ByteArray).toList == (⟨#[89, 76, 65, 84]⟩ : ByteArray).toList) = true := by simp
  have E2 : ((⟨#[112, 105, 110, 103]⟩ : ByteArray).toList == (⟨#[112, 105, 110, 103]⟩ : ByteArray).toList) = true := by simp
  have E3 : ((⟨#[104, 105]⟩ : ByteArray).toList == (⟨#[104, 105]⟩ : ByteArray).toList) = true := by simp
  have HH1 : Hid (Calls Tryd.prog 22 #[.pointer (some ⟨p, 0, none⟩)] w3 fun r w' => r = .returned (.int .i64 0) ∧ w' = w3) := by
    obtain ⟨s9, c9, rfl⟩ := hF.2.slice
    exact fheld_any p _ _ _ _ _ _ w3 hF
  have HH2 := Lib.hid (ferr_any p _ _ _ _ w3 hF)
  clear hF hMd hpr hbut hown hd hM3 hlt hcap c0 z2 K2 HM2 HC HW2 HW1 HU HH HY
  go_wp2_with fail
  refine HH1.out.mono ?_
  rintro r w4 ⟨rfl, rfl⟩
  go_wp2_with fail
  refine HH2.out.mono ?_
  rintro r w5 ⟨rfl, rfl⟩
  go_wp2_with fail
  go_ret
  exact ⟨rfl, HW3.out⟩
end Go.Proofs.YtanefmjjbilmiaaDoor
