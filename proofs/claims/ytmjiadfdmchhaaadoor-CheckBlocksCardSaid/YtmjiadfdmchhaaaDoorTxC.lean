/-
  The contracts of package tx's Bytes and ID.
-/
import Derived.Test.YtmjiadfdmchhaaaDoorTxY
namespace Go.Proofs.YtmjiadfdmchhaaaDoor
open Go.RowKit
set_option linter.unusedVariables false
set_option linter.unusedSimpArgs false
set_option maxRecDepth 100000

theorem InV.lt {w : World} {B : Nat} {x : InM} (h : InV w B x) : ∀ b ∈ inpB x, b < 256 := by
  intro b hb
  unfold inpB at hb
  simp only [List.mem_append] at hb
  obtain ⟨_, _, _, _, _, hk, _⟩ := h.2
  rcases hb with h1 | h1 | h1 | h1
  · exact x.tx.2.2 b h1
  · exact toL_lt' _ _ b h1
  · exact countL_lt _ b h1
  · exact hk b h1
theorem outB_lt (x : OutM) : ∀ b ∈ outB x, b < 256 := by
  intro b hb
  unfold outB at hb
  rcases List.mem_append.1 hb with h1 | h1
  · exact toL_lt' _ _ b h1
  · exact x.lock.2.2 b h1
theorem TxV.lt {w : World} {B : Nat} {t : TxM} (h : TxV w B t) : ∀ b ∈ txB t, b < 256 := by
  intro b hb
  unfold txB insB outsB at hb
  simp only [List.mem_append, List.mem_flatten, List.mem_map] at hb
  rcases hb with h1 | ⟨_, ⟨x, hx, rfl⟩, h1⟩ | h1 | ⟨_, ⟨x, hx, rfl⟩, h1⟩
  · exact countL_lt _ b h1
  · exact (h.2.1 x hx).lt b h1
  · exact countL_lt _ b h1
  · exact outB_lt x b h1
theorem txsB_one (t : TxM) : txsB [t] = txB t := by simp [txsB]
set_option maxHeartbeats 4000000 in
theorem tbytes_any (t : TxM) (w : World) (hT : TxV w w.heap.size t) (hF : TxFit t) :
    Calls Tryd.prog 24 #[txv t] w fun e w' => ∃ v', e = .returned v' ∧ Mine w' w.heap.size v' (txB t) ∧ Below w.heap.size w w' := by
  have HX := Lib.hid hT.lt
  have HBL := Lib.hid (txB_len t hF)
  have HT := Lib.hid hT
  have HF := Lib.hid hF
  have HX1 := Lib.hid (txsB_one t)
  obtain ⟨a, ha⟩ : ∃ a, a = t.iv := ⟨_, rfl⟩
  obtain ⟨b, hb⟩ : ∃ b, b = t.ov := ⟨_, rfl⟩
  have HAB := Lib.hid (show t.iv = a ∧ t.ov = b from ⟨ha.symm, hb.symm⟩)
  show Calls Tryd.prog _ #[.agg #[t.iv, t.ov]] w _
  rw [← ha, ← hb]
  obtain ⟨sa, na, ca, ea⟩ : ∃ s n c, a = .slice s n c := ⟨_, _, _, ha⟩
  obtain ⟨sb, nb, cb, eb⟩ : ∃ s n c, b = .slice s n c := ⟨_, _, _, hb⟩
  subst ea
  subst eb
  clear hT hF ha hb
  go_enter Tryd.func24, Tryd.ntmps24
  go_upto_region 2 with fail
  refine wp_any (fun W => Below w.heap.size w W ∧ Bk W w.heap.size 28 #[.slice sa na ca, .slice sb nb cb] ∧ Bk W (w.heap.size + 1) 89 #[.slice none 0 0] ∧ W.heap.size = w.heap.size + 2) ⟨((Below.refl _ _).alloc (Nat.le_refl _) _).alloc (by simp) _, (Bk.new _ _ _).alloc _, Bk.new' _ _ _ (by simp), by simp⟩ ?_
  rintro W ⟨hW, K0, KG, hsz⟩
  have hlow := hW.size
  obtain ⟨g0, hg0⟩ : ∃ g0, g0 = w.heap.size := ⟨_, rfl⟩
  obtain ⟨g, hg⟩ : ∃ g, g = w.heap.size + 1 := ⟨_, rfl⟩
  have HG := Lib.hid (show g0 = w.heap.size ∧ g = w.heap.size + 1 ∧ W.heap.size = g + 1 ∧ g0 < g from ⟨hg0, hg, by omega, by omega⟩)
  rw [← hg] at KG ⊢
  rw [← hg0] at K0 ⊢
  have HW := Lib.hid hW
  clear hsz hg0 hg hW
  have c0 := K0.cell 0
  have c1 := K0.cell 1
  have z0 := K0.lt
  have HA : Below W.heap.size W (W.alloc (.cells #[.slice sa na ca, .slice sb nb cb] 28)) := (Below.refl _ _).alloc (Nat.le_refl _) _
  have KH : Bk (W.alloc (.cells #[.slice sa na ca, .slice sb nb cb] 28)) W.heap.size 28 #[.slice sa na ca, .slice sb nb cb] := Bk.new _ _ _
  have MN : Mine (W.alloc (.cells #[.slice sa na ca, .slice sb nb cb] 28)) g (.slice none 0 0) [] := .inl ⟨rfl, rfl⟩
  have HC := tput_any g g g0 (some ⟨W.heap.size, 0, none⟩) 1 1 [t] [] (.slice none 0 0) (W.alloc (.cells #[.slice sa na ca, .slice sb nb cb] 28)) (KG.alloc _) MN (by have := HG.out; have := HA.size; omega) (by have := HG.out; omega) (by have := HG.out; omega) ⟨rfl, fun k hk => by
    obtain rfl : k = 0 := by omega
    refine ⟨t, W.heap.size, 0, rfl, rfl, KH.lt, ?_, ?_, HF.out, ?_⟩
    · rintro (h | h)
      · have := HG.out; omega
      · exact slb_none _ _ _ h
    · have h1 := (HT.out.keep HW.out (Nat.le_refl _)).keep HA HW.out.size
      exact h1.mono (by have := HG.out; omega)
    · rw [Nat.zero_mul, Nat.zero_add]
      have := KH.range0
      show World.rangeAt _ _ _ [t.iv, t.ov]
      rw [HAB.out.1, HAB.out.2]
      exact this⟩ (by simp)
  rw [HX1.out, List.nil_append] at HC
  have HC := Lib.hid HC
  have HA := Lib.hid HA
  clear KG KH MN K0
  go_wp2_with fail
  refine HC.out.mono ?_
  rintro e W2 h
  have hb2 := h.below (.inl ⟨rfl, rfl⟩ : Mine _ g (.slice none 0 0) []) (B := w.heap.size) (by have := HG.out; omega) (by have := HG.out; omega) (by have := HG.out; have := HA.out.size; omega)
  obtain ⟨rfl, v2, G2, M2, B2, O2⟩ := h
  have hW2 := Lib.hid ((HW.out.alloc HW.out.size (.cells #[.slice sa na ca, .slice sb nb cb] 28)).trans hb2)
  have M2 := Lib.hid M2
  clear B2 O2 HC c0 c1 z0 hb2
  go_wp2_with fail
  refine (bytes_any g g (txB t) v2 W2 G2 M2.out HX.out (by have := HBL.out; omega)).mono ?_
  rintro e w' ⟨v', rfl, M', B'⟩
  have MM := M'.mono hW2.out.size
  have hw' := below_step hW2.out hW2.out.size B'
  obtain ⟨s', c', rfl⟩ := M'.slice
  have MM := Lib.hid MM
  clear M' B' M2 G2
  go_wp2_with fail
  go_ret
  exact ⟨_, rfl, MM.out, hw'⟩
def tID (t : TxM) : List Nat := sha (sha (txB t))
theorem tID_length (t : TxM) : (tID t).length = 32 := rfl
theorem tID_lt (t : TxM) : ∀ x ∈ tID t, x < 256 := sha_lt _
set_option maxHeartbeats 4000000 in
theorem tid_any (t : TxM) (w : World) (hT : TxV w w.heap.size t) (hF : TxFit t) (hL : Laid w) :
    Calls Tryd.prog 23 #[txv t] w fun e w' => e = .returned (idv (tID t)) ∧ Below w.heap.size w w' := by
  have HBY := Lib.hid (fun W (h : TxV W W.heap.size t) => tbytes_any t W h hF)
  have HXL := Lib.hid hT.lt
  have HBL := Lib.hid (txB_len t hF)
  have HT := Lib.hid hT
  have hil := tID_length t
  have HTW := Lib.hid (fun sp W h1 h2 => twice1 (txB t) sp 1 W h1 (by have := HBL.out; omega) h2)
  change Hid (∀ sp W, Laid W → PartsV W sp [txB t] → Calls Tryd.prog _ _ W fun e w' => e = .returned (idv (tID t)) ∧ _) at HTW
  have HL := Lib.hid hL
  obtain ⟨a, ha⟩ : ∃ a, a = t.iv := ⟨_, rfl⟩
  obtain ⟨b, hb⟩ : ∃ b, b = t.ov := ⟨_, rfl⟩
  change Hid (∀ W, TxV W W.heap.size t → Calls Tryd.prog _ #[.agg #[t.iv, t.ov]] W _) at HBY
  show Calls Tryd.prog _ #[.agg #[t.iv, t.ov]] w _
  rw [← ha, ← hb] at HBY ⊢
  obtain ⟨sa, na, ca, ea⟩ : ∃ s n c, a = .slice s n c := ⟨_, _, _, ha⟩
  obtain ⟨sb, nb, cb, eb⟩ : ∃ s n c, b = .slice s n c := ⟨_, _, _, hb⟩
  subst ea
  subst eb
  generalize tID t = O at *
  generalize txB t = xs at *
  clear hT hL ha hb
  go_enter Tryd.func23, Tryd.ntmps23
  have hA : Below w.heap.size w ((w.alloc (.cells #[.slice sa na ca, .slice sb nb cb] 28)).alloc (.cells (idA (zeros 32)) 23)) := ((Below.refl _ _).alloc (Nat.le_refl _) _).alloc (by simp) _
  go_wp2_with fail
  refine (HBY.out _ ((HT.out.keep hA (Nat.le_refl _)).mono hA.size)).mono ?_
  rintro e w1 ⟨v1, rfl, M1, hb1⟩
  have hW1 := below_step hA (by simp; omega) hb1
  have R1 : Bk w1 (w.heap.size + 1) 23 (idA (zeros 32)) := Bk.keep (Bk.new' _ _ _ (by simp)) hb1
  have hbs := M1.bs HXL.out
  obtain ⟨s1, c1, rfl⟩ := M1.slice
  obtain ⟨ll, hll⟩ : ∃ ll, ll = xs.length := ⟨_, rfl⟩
  clear hA hb1 M1
  have hB2 := hW1.alloc hW1.size (.cells #[.slice s1 xs.length c1] 32)
  have hP2 := parts_bs (u := 32) (hbs.keep ((Below.refl w1.heap.size w1).alloc (Nat.le_refl _) _) (Nat.le_refl _)) (by simp) (Bk.new w1 32 #[.slice s1 xs.length c1])
  have hT := HTW.out _ _ (HL.out.keep hB2) hP2
  have R2 := R1.alloc (.cells #[.slice s1 xs.length c1] 32)
  rw [← hll] at hT hB2 R2 ⊢
  have HLL := Lib.hid hll
  clear hbs hP2 R1 hll
  go_wp2_with fail
  refine hT.mono ?_
  rintro e w5 ⟨rfl, hb5⟩
  have R5 := R2.keep hb5
  have hW5 := below_step hB2 (by have := hW1.size; simp; omega) hb5
  clear hb5 R2 hT hB2
  go_wp2_with (refine wpList_store_mid rfl 23 (.tmp 2) (.tmp 6) rfl (w.heap.size + 1) 0 (idA O) rfl rfl (by rw [idA_size, hil]; exact R5.there 32 (by rw [idA_size]; decide)) (by rw [idA_size, hil]; exact id_info') (all_oneCell_toArray (by intro v hv; simp only [List.mem_map] at hv; obtain ⟨x, _, rfl⟩ := hv; rfl)) ?_)
  refine bodyPost_ret (results_cell_row rfl _ _ (w.heap.size + 1) 23 (idA O) (0, 0) _ rfl (R5.setAll (by rw [idA_size, idA_size, hil]; rfl)) Tryd.underlying23 rfl (by rw [idA_size, hil]; exact id_info')) rfl ⟨?_, Below.setCells (Nat.le_succ _) _ _ _ hW5⟩
  rfl
end Go.Proofs.YtmjiadfdmchhaaaDoor
