/-
  The law's own head: a header is mined, written, read and proved.
-/
import Derived.Test.YtkhiicnahijnoaaDoorHeaG
import Derived.Test.YtkhiicnahijnoaaDoorHeaH
namespace Go.Proofs.YtkhiicnahijnoaaDoor
open Go.RowKit
set_option linter.unusedVariables false

def H1 : Hd := ⟨1, zeros 32, zeros 32, 0, 545259519, 0⟩
theorem H1_is : IsHd H1 := by
  constructor <;> first | decide | exact zeros_lt 32
theorem H1_proved : provV H1 545259519 = 0 := by decide +kernel
theorem H1_not : provV H1 486604799 = 30 := by decide +kernel
theorem H1_name : hID H1 ≠ zeros 32 := by decide +kernel
theorem H1_mined : mineV H1 545259519 0 (mineN 100) = some H1 := by
  have e : mineN 100 = 99 + 1 := rfl
  have e2 : hAt H1 0 = H1 := rfl
  rw [e]
  unfold mineV
  rw [e2, H1_proved]
  rfl
theorem zero_id (w : World) : (zeroValue 24).run Tryd.prog w = .ok (.agg (idA (zeros 32))) w := by kernel_rfl
theorem H1_built : ((hdA hd0).setIfInBounds 0 (.int .u32 1)).setIfInBounds 66 (.int .u32 545259519) = hdA H1 := by
  unfold hdA hdL hd0 H1
  rfl
set_option maxRecDepth 100000 in
set_option maxHeartbeats 4000000 in
theorem reads_any (w : World) (hL : Laid w) : Calls Tryd.prog 14 #[] w fun e w' => e = .returned (.bool true) ∧ Below w.heap.size w w' := by
  have HM := Lib.hid (fun W (h : Laid W) => mine_any H1 545259519 100 W H1_is (by omega) (by omega) h)
  rw [H1_mined] at HM
  change Hid (∀ W, Laid W → Calls _ _ #[.agg (hdA H1), .int .u32 545259519, .int .i64 100] W fun e w' => e = .returned (.tuple #[.agg (hdA H1), .bool true]) ∧ _) at HM
  have HBY := Lib.hid (fun W => hbytes_any H1 W H1_is)
  change Hid (∀ W, Calls _ _ #[.agg (hdA H1)] W _) at HBY
  have HRD := Lib.hid (fun v W (h : BsV W W.heap.size v (hB H1)) => read_good v (hB H1) W h (hB_length H1_is))
  rw [hOf_hB H1_is] at HRD
  change Hid (∀ v W, BsV W W.heap.size v (hB H1) → Calls _ _ _ W fun e w' => e = .returned (.tuple #[.agg (hdA H1), _]) ∧ _) at HRD
  have HP1 := Lib.hid (fun W (h : Laid W) => proved_any H1 545259519 W H1_is (by omega) h)
  have HP2 := Lib.hid (fun W (h : Laid W) => proved_any H1 486604799 W H1_is (by omega) h)
  rw [H1_proved] at HP1
  rw [H1_not] at HP2
  change Hid (∀ W, Laid W → Calls _ _ #[.agg (hdA H1), .int .u32 545259519] W fun e w' => e = .returned (.int .i64 0) ∧ _) at HP1
  change Hid (∀ W, Laid W → Calls _ _ #[.agg (hdA H1), .int .u32 486604799] W fun e w' => e = .returned (.int .i64 30) ∧ _) at HP2
  have HID := Lib.hid (fun W (h : Laid W) => hid_any H1 W H1_is h)
  change Hid (∀ W, Laid W → Calls _ _ #[.agg (hdA H1)] W fun e w' => e = .returned (.agg (idA (hID H1))) ∧ _) at HID
  have heq : ∀ W, (Op.equalIn 10000 26 (.agg (hdA H1)) (.agg (hdA H1))).run Tryd.prog W = .ok true W := fun W => by
    have h := hd_eql H1_is H1_is W
    rwa [(hdEq_iff _ _).2 rfl] at h
  have heqI : ∀ W, (Op.equalIn 10000 24 (.agg (idA (hID H1))) (.agg (idA (zeros 32)))).run Tryd.prog W = .ok false W := fun W => by
    have h := name_eql (hID H1) (zeros 32) (hID_length _) rfl W
    rwa [decide_eq_false H1_name] at h
  have hzv := zero_hd
  have hzi := zero_id
  have hne := hd_ne
  have hset := H1_built
  have hs1 := hdA_size H1_is
  have has0 := hdA_size hd0_is
  have hone1 := hdA_one H1
  have HXL := Lib.hid (hB_lt H1_is)
  have hxl := hB_length H1_is
  have HL := Lib.hid hL
  generalize hdA hd0 = A0 at *
  generalize idA (zeros 32) = Z at *
  generalize idA (hID H1) = I at *
  generalize hdA H1 = A1 at *
  generalize hB H1 = X at *
  clear hL
  go_enter Tryd.func14, Tryd.ntmps14
  go_wp2_with fail
  refine (HM.out _ HL.out).mono ?_
  rintro e w1 ⟨rfl, hb1⟩
  have N1 := Bk.new w1 26 A0
  go_upto_region 2 with (refine wpList_store_mid rfl 26 (.tmp 1) (.tmp 8) rfl w1.heap.size 0 A1 rfl rfl (by rw [hs1]; exact N1.there 68 (by rw [has0]; exact Nat.le_refl _)) (by rw [hs1]; exact hd_info) hone1 ?_)
  refine wp_any (fun V => Below w.heap.size w V ∧ Bk V w1.heap.size 26 A1) ⟨Below.setCells hb1.size _ _ _ (hb1.alloc hb1.size _), N1.setAll (by rw [hs1, has0])⟩ ?_
  have hg1 := hb1.size
  clear hb1 N1
  generalize w1.heap.size = g1 at *
  rintro V ⟨hV, K⟩
  go_wp2_with (refine wpList_load_row rfl 26 (.tmp 1) rfl g1 rfl 26 A1 (0, 0) _ K Tryd.underlying26 rfl (by rw [hs1]; exact hd_info) ?_)
  refine (HBY.out _).mono ?_
  rintro e w2 ⟨v2, rfl, M2, hb2⟩
  have hV := below_step hV hV.size hb2
  have K := K.keep hb2
  have HR2 := Lib.hid (HRD.out v2 w2 (M2.bs HXL.out))
  obtain ⟨s2, c2, rfl⟩ := M2.slice
  rw [hxl] at HR2
  clear M2 hb2 HRD
  go_wp2_with fail
  refine HR2.out.mono ?_
  rintro e w3 ⟨rfl, hb3⟩
  have hV := below_step hV hV.size hb3
  have K := K.keep hb3
  clear hb3 HR2
  have N3 := Bk.new w3 26 A0
  have zk := K.lt
  go_upto_region 3 with (refine wpList_store_mid rfl 26 (.tmp 3) (.tmp 14) rfl w3.heap.size 0 A1 rfl rfl (by rw [hs1]; exact N3.there 68 (by rw [has0]; exact Nat.le_refl _)) (by rw [hs1]; exact hd_info) hone1 ?_)
  refine wp_any (fun V => Below w.heap.size w V ∧ Bk V g1 26 A1 ∧ Bk V w3.heap.size 26 A1) ⟨Below.setCells hV.size _ _ _ (hV.alloc hV.size _), rowFar (K.alloc _) (by omega) _ _, N3.setAll (by rw [hs1, has0])⟩ ?_
  clear hV K N3
  generalize w3.heap.size = g3 at *
  rintro V ⟨hV, K, J⟩
  obtain ⟨tl, htl⟩ : ∃ tl : TypeId, tl = 26 := ⟨_, rfl⟩
  obtain ⟨sz, hsz0⟩ : ∃ sz : Nat, sz = 68 := ⟨_, rfl⟩
  have hag : ∀ w, (isAgg tl).run Tryd.prog w = .ok true w := by rw [htl]; exact hd_agg
  have hsz : ∀ w, (sizeOf tl).run Tryd.prog w = .ok sz w := by rw [htl, hsz0]; exact hd_size
  have hld : ∀ w g, Bk w g 26 A1 → (loadCellsFrom ⟨g, 0, none⟩ 0 sz #[]).run Tryd.prog w = .ok A1 w := by rw [hsz0]; exact fun w g h => hd_load h hs1
  have HLD := Lib.hid hld
  have l0 := hld _ _ K
  have l1 := hld _ _ J
  go_upto_region 3 with fail
  simp only [show ∀ z, Op.load 26 z = Op.load tl z from fun z => by rw [htl]]
  clear htl hsz0 hld
  go_wp2_with fail
  refine (HBY.out _).mono ?_
  rintro e w4 ⟨v4, rfl, M4, hb4⟩
  have hV := below_step hV hV.size hb4
  have K := K.keep hb4
  have l2 := HLD.out _ _ K
  obtain ⟨s4, c4, rfl⟩ := M4.slice
  rw [hxl]
  clear M4 hb4
  go_wp2_with fail
  refine (HP1.out _ (HL.out.below hV HL.out.size)).mono ?_
  rintro e w5 ⟨rfl, hb5⟩
  have hV := below_step hV hV.size hb5
  have K := K.keep hb5
  have l3 := HLD.out _ _ K
  clear hb5
  go_wp2_with fail
  refine (HP2.out _ (HL.out.below hV HL.out.size)).mono ?_
  rintro e w6 ⟨rfl, hb6⟩
  have hV := below_step hV hV.size hb6
  have K := K.keep hb6
  have l4 := HLD.out _ _ K
  clear hb6
  go_wp2_with fail
  refine (HID.out _ (HL.out.below hV HL.out.size)).mono ?_
  rintro e w7 ⟨rfl, hb7⟩
  have hV := below_step hV hV.size hb7
  clear hb7
  go_wp2_with fail
  go_ret
  exact ⟨rfl, hV⟩
end Go.Proofs.YtkhiicnahijnoaaDoor
