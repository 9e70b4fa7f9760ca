/-
  What is proved: for every ID the law NumBytes returns true, and the ID reads behind the call as it read before it. No condition.
-/
import Derived.Test.YtecbecngdbjagaaCnt
import Derived.Test.YtecbecngdbjagaaOpen
import Derived.Test.YtecbecngdbjagaaIdW
namespace Go.Proofs.Ytecbecngdbjagaa.numBytes
open Go.ChangeShapes Go.WideShapes Go.ChangeAt Go.RowKit
set_option linter.unusedVariables false
attribute [local go_sem ↓] Go.wp_at_zero Go.wp_at_succ

theorem own : ownKnob Try.prog.godebug = none := by kernel_rfl
theorem laidOut : laidOutB Try.prog = true := by kernel_rfl

theorem ofL_drop (xs : List Nat) (k : Nat) (h : k < xs.length) : ofL (xs.drop k) = xs.getD k 0 + 256 * ofL (xs.drop (k + 1)) := by
  rw [List.drop_eq_getElem_cons h]
  simp [ofL, List.getD, List.getElem?_eq_getElem h]
theorem ofL_drop_lt (xs : List Nat) (k : Nat) (hl : xs.length = 32) (hx : ∀ x ∈ xs, x < 256) : ofL (xs.drop k) < 256 ^ (32 - k) := by
  have h := ofL_lt (xs.drop k) (fun x hm => hx x (List.mem_of_mem_drop hm))
  rwa [List.length_drop, hl] at h
theorem pow_le_M (k : Nat) (h : k ≤ 32) : 256 ^ k ≤ M256 := by
  rw [M256_256]; exact Nat.pow_le_pow_right (by omega) h

set_option maxRecDepth 100000 in
set_option maxHeartbeats 8000000 in
theorem walk (xs : List Nat) (w : World) (hl : xs.length = 32) (hx : ∀ x ∈ xs, x < 256) :
    Calls Try.prog 6 #[idv xs] w fun e w' => e = .returned (.bool true) ∧ Below w.heap.size w w' := by
  have hv : ofL xs < M256 := by
    have h := ofL_lt xs hx
    rw [hl, ← M256_256] at h
    exact h
  have HF := fun W => fromID_any xs hl hx W
  have HI := fun W => ID_any (ofL xs) W
  have e32 : toL (ofL xs) 32 = xs := by rw [← hl]; exact toL_ofL xs hx
  rw [e32] at HI
  have hself := id_self xs hl
  have hsz : (idA xs).size = 32 := by rw [idA_size, hl]
  have HF := Lib.hid HF
  have HI := Lib.hid HI
  have HZ := Lib.hid hsz
  have HL := Lib.hid hl
  have HX := Lib.hid hx
  clear hl hx hsz e32
  go_enter Try.func6, Try.ntmps6
  go_wp2_with fail
  refine (counts_any _).mono ?_
  rintro e w1 ⟨rfl, hb1⟩
  have A : Bk w1 w.heap.size 54 (idA xs) := Bk.keep (Bk.new _ _ _) hb1
  have hW : Below w.heap.size w w1 := below_step ((Below.refl _ _).alloc (Nat.le_refl _) _) (by simp) hb1
  clear hb1
  go_wp2_with (refine wpList_load_row rfl 54 (.tmp 1) rfl w.heap.size rfl 54 (idA xs) (0, 0) _ A Try.underlying54 rfl (by rw [HZ.out]; exact id_info) ?_)
  refine (HF.out _).mono ?_
  rintro e w2 ⟨rfl, hb2⟩
  have zA := A.lt
  have A := A.keep hb2
  have hW := below_step hW (by omega) hb2
  have zA := A.lt
  clear hb2
  go_wp2_with fail
  have hWa : Below w.heap.size w (w2.alloc (.cells (A4 (wd0 (ofL xs)) (wd1 (ofL xs)) (wd2 (ofL xs)) (wd3 (ofL xs))) 24)) := hW.alloc (by omega) _
  refine wp_abs (fun W => Below w.heap.size w W ∧ Bk W w.heap.size 54 (idA xs) ∧ Bk W w2.heap.size 24 (A4 (wd0 (ofL xs)) (wd1 (ofL xs)) (wd2 (ofL xs)) (wd3 (ofL xs)))) ⟨hWa, A.alloc _, Bk.new _ _ _⟩ ?_
  clear hW hWa A
  generalize w2.heap.size = T at *
  rintro W ⟨hW, A, N⟩
  obtain ⟨n0, n1, n2, n3, n4, n5, n6, n7, zn⟩ := N.f4
  have r0 := cell_regrown n0
  have r1 := cell_regrown n1
  have r2 := cell_regrown n2
  have r3 := cell_regrown n3
  refine wp_region_quiet_below (by kernel_rfl) (by kernel_rfl) ?_
  quiet_step (fail)
  quiet_step (exact Calls.regrown_of (HI.out _))
  refine wpQuiet_step (fun K hK => ?_)
  rw [if_pos (by rfl)]
  refine quiet_load 54 (.tmp 1) rfl w.heap.size 0 rfl (idA xs).toList _ ?_ Try.underlying54 rfl (by rw [Array.length_toList, HZ.out]; exact id_info) (hK _ ?_)
  · rintro _ ⟨p, rfl⟩
    exact (A.keep (below_regrown W p.d p.os)).range
  clear hK K
  rw [Array.toArray_toList]
  quiet_step (fail)
  refine wpQuiet_nil ?_
  intro _ hw'
  obtain ⟨⟨dq, osq⟩, hw''⟩ := hw'
  subst hw''
  have hG := below_regrown W dq osq
  have hW := below_step hW (by have := A.lt; omega) hG
  have A := A.keep hG
  have N := N.keep hG
  clear n0 n1 n2 n3 n4 n5 n6 n7 zn r0 r1 r2 r3 hG
  show Exit.then _ _ Exit.normal _ (Go.Sort.grow (redrawn W dq) osq)
  generalize Go.Sort.grow (redrawn W dq) osq = W2 at *
  go_wp2_with fail
  have zN := N.lt
  have zW2 : w.heap.size < W2.heap.size := A.lt
  go_loopw [5] (fun i wr => ∃ (j : Nat) (p : Nat), j ≤ 32 ∧ i = .int .i64 ((j : Int) - 1) ∧ Hid (p = ofL (xs.drop j)) ∧ Below w.heap.size w wr ∧ Bk wr w.heap.size 54 (idA xs) ∧ Bk wr T 24 (A4 (wd0 (ofL xs)) (wd1 (ofL xs)) (wd2 (ofL xs)) (wd3 (ofL xs))) ∧
    Bk wr W2.heap.size 24 (A4 (wd0 p) (wd1 p) (wd2 p) (wd3 p))) (fun i _ => (intOf i + 1).toNat)
  case atStart =>
    refine ⟨32, 0, by omega, rfl, by show _ = _; rw [List.drop_of_length_le (by rw [HL.out]; omega)]; rfl, hW.alloc (by have := A.lt; omega) _, A.alloc _, N.alloc _, Bk.new' _ _ _ rfl⟩
  case round =>
    obtain ⟨j, p, hj, rfl, HP, hbe, A, N, S⟩ := hrel
    obtain ⟨s0, s1, s2, s3, s4, s5, s6, s7, zs⟩ := S.f4
    have zA := A.lt
    rcases Nat.eq_zero_or_pos j with rfl | hj0
    · obtain ⟨n0, n1, n2, n3, n4, n5, n6, n7, zn⟩ := N.f4
      have hpe : p = ofL xs := by rw [HP.out]; rfl
      have he := nv_eql (ofL xs) (ofL xs) hv hv
      simp only [decide_true] at he
      subst hpe
      go_wp2_with fail
      go_ret
      exact ⟨rfl, hbe⟩
    · obtain ⟨k, rfl⟩ : ∃ k, j = k + 1 := ⟨j - 1, by omega⟩
      have hk : k < 32 := by omega
      have hpl : p < 256 ^ (31 - k) := by
        have h := ofL_drop_lt xs (k + 1) HL.out HX.out
        rw [← HP.out, show 32 - (k + 1) = 31 - k from by omega] at h
        exact h
      have hp8 : p * 2 ^ 8 < M256 := by
        have h1 := pow_le_M (31 - k + 1) (by omega)
        rw [Nat.pow_succ] at h1
        omega
      have hpM : p < M256 := by omega
      obtain ⟨y, hy⟩ : ∃ y, xs.getD k 0 = y := ⟨_, rfl⟩
      have hy256 : y < 256 := by
        rw [← hy, List.getD, List.getElem?_eq_getElem (by rw [HL.out]; exact hk)]
        exact HX.out _ (List.getElem_mem _)
      have hq : p * 2 ^ 8 + y = ofL (xs.drop k) := by
        rw [ofL_drop xs k (by rw [HL.out]; exact hk), hy, ← HP.out]; omega
      have hqM : p * 2 ^ 8 + y < M256 := by
        have h := ofL_drop_lt xs k HL.out HX.out
        have h1 := pow_le_M (32 - k) (by omega)
        rw [hq]; omega
      have hb : wr.cell? ⟨w.heap.size, k, none⟩ = some (.int .u8 (y : Int)) := by
        rw [A.cell, idA_get xs k (by rw [HL.out]; exact hk), hy]
      have HSH : ∀ W : World, Calls Try.prog 24 #[nv p, .int .i64 8] W fun e w' => e = .returned (nv (p * 2 ^ 8)) ∧ Below W.heap.size W w' := fun W => by
        have h := shl_any p 8 W hpM (by omega)
        rw [Nat.mod_eq_of_lt hp8] at h
        exact h
      have HOF := fun W => of_any y W (by unfold B64; omega)
      have HAD := fun W => add2 (p * 2 ^ 8) y W hp8 (by have := pow_le_M 1 (by omega); omega)
      rw [Nat.mod_eq_of_lt hqM] at HAD
      have HSH := Lib.hid HSH
      have HOF := Lib.hid HOF
      have HAD := Lib.hid HAD
      have HQ := Lib.hid hq
      have HY := Lib.hid hy
      have hwr : IntKind.u64.wrap (y : Int) = (y : Int) := by rw [IntKind.wrap_u64]; omega
      generalize p * 2 ^ 8 = p8 at *
      clear hq hy hpl
      have k0 : (0 : Int) ≤ (k : Int) := by omega
      have k1 : (k : Int) < 32 := by omega
      have hke : (((k + 1 : Nat) : Int) - 1) = (k : Int) := by omega
      rw [hke]
      have HKE := Lib.hid hke
      clear hke
      go_wp2_with fail
      refine (HSH.out _).mono ?_
      rintro e w5 ⟨rfl, hb5⟩
      have A := A.keep hb5
      have N := N.keep hb5
      have S := S.keep hb5
      have hbe := below_step hbe (by omega) hb5
      have zA := A.lt
      clear hb5 s0 s1 s2 s3 s4 s5 s6 s7 zs hb
      go_wp2_with fail
      refine wp_abs (fun W => Below w.heap.size w W ∧ Bk W w.heap.size 54 (idA xs) ∧ Bk W T 24 (A4 (wd0 (ofL xs)) (wd1 (ofL xs)) (wd2 (ofL xs)) (wd3 (ofL xs))) ∧ Bk W W2.heap.size 24 (A4 (wd0 p) (wd1 p) (wd2 p) (wd3 p)) ∧ Bk W w5.heap.size 24 (A4 (wd0 p8) (wd1 p8) (wd2 p8) (wd3 p8)))
        ⟨hbe.alloc (by omega) _, A.alloc _, N.alloc _, S.alloc _, Bk.new _ _ _⟩ ?_
      have gS : W2.heap.size < w5.heap.size := S.lt
      clear hbe A N S zA HSH
      generalize w5.heap.size = G at *
      rintro W5 ⟨hbe, A, N, S, R⟩
      have hb : W5.cell? ⟨w.heap.size, k, none⟩ = some (.int .u8 (y : Int)) := by
        rw [A.cell, idA_get xs k (by rw [HL.out]; exact hk), HY.out]
      obtain ⟨r0, r1, r2, r3, _, _, _, _, zr⟩ := R.f4
      have zA := A.lt
      go_region_held3 (fun w' => w'.cell? ⟨G, 0, none⟩ = some (.int .u64 (wd0 p8 : Int)) ∧ w'.cell? ⟨G, 1, none⟩ = some (.int .u64 (wd1 p8 : Int)) ∧ w'.cell? ⟨G, 2, none⟩ = some (.int .u64 (wd2 p8 : Int)) ∧ w'.cell? ⟨G, 3, none⟩ = some (.int .u64 (wd3 p8 : Int)) ∧ w'.cell? ⟨w.heap.size, k, none⟩ = some (.int .u8 (y : Int)))
        (first | with_reducible exact ⟨cell4_far k70 n71 _ _ _ _, cell4_far k71 n71 _ _ _ _, cell4_far k72 n71 _ _ _ _, cell4_far k73 n71 _ _ _ _, cell4_far k74 n72 _ _ _ _⟩ | go_keep)
        (first
          | (go_at_call 21; refine (HOF.out _).mono ?_; rintro e w6 ⟨rfl, hb6⟩; have hE6 : Below W5.heap.size W5 w6 := below_step ((Below.refl _ _).drew) (Nat.le_refl _) hb6; have z6 := hE6.size; have k60 := cellS hE6 r0; have k61 := cellS hE6 r1; have k62 := cellS hE6 r2; have k63 := cellS hE6 r3; have k64 := cellS hE6 hb; have y61 : G < w6.heap.size := Nat.lt_of_lt_of_le zr z6; have y62 : w.heap.size < w6.heap.size := Nat.lt_of_lt_of_le zA z6)
          | (go_at_call 9; refine (HAD.out _).mono ?_; rintro e w7 ⟨rfl, hb7⟩; have hE7 : Below W5.heap.size W5 w7 := below_step hE6 z6 hb7; have k70 := cellS hE7 r0; have k71 := cellS hE7 r1; have k72 := cellS hE7 r2; have k73 := cellS hE7 r3; have k74 := cellS hE7 hb; have n71 : G ≠ W2.heap.size := Nat.ne_of_gt gS; have n72 : w.heap.size ≠ W2.heap.size := Nat.ne_of_lt zW2; have S7 : Bk w7 W2.heap.size 24 (A4 (wd0 p) (wd1 p) (wd2 p) (wd3 p)) := S.keep hE7; obtain ⟨s0, s1, s2, s3, s4, s5, s6, s7, zs⟩ := S7.f4))
      go_wp2_with fail
      exact ⟨⟨k, p8 + y, by omega, rfl, HQ.out, Below.set4 (below_step hbe (Nat.le_of_lt zA) hE7) (Nat.le_of_lt zW2) _ _ _ _, (A.keep hE7).far4 (Nat.ne_of_lt zW2) _ _ _ _, (N.keep hE7).far4 (Nat.ne_of_lt zN) _ _ _ _, S7.set4 _ _ _ _⟩, by simp [intOf]⟩

set_option maxRecDepth 100000 in
theorem lifted (os : Os) (started : os.Started) (H : Type) (enc : TypeId × Value → H) :
    ReturnsInHanded {} Try.checked os 6 .any (Rows.numBytesSpec.pre6 enc Try.prog Try.f6 Rows.numBytesRow.domain false) (Rows.numBytesSpec.post enc Try.prog Try.f6 false true false false) := by
  refine returnsInHanded_of_change (C := Try.checked) own started (by kernel_rfl) Try.func6
    (ChangeSpec.witness6 (enc := enc) (C := Try.checked) false ⟨#[], #[idv (List.replicate 32 0)], []⟩ 8 (by kernel_rfl) (by kernel_rfl) (by kernel_rfl) (by kernel_rfl)) ?_
  intro W base args ds gs before hval0 hW hcnd _
  have hval : ∀ (j : Nat) t v, Try.f6.params[j]? = some t → args[j]? = some v → Value.okWide Try.prog W .any base t v := hval0
  have hW' := hW
  obtain ⟨p, q, hA0, hV, rfl, hfz, hnd⟩ := hW
  have hA : DataW.TrodAll enc Try.prog W 0 (fun _ => true) true Try.f6.params.toList args.toList ds p := hA0
  rw [Try.params6] at hA hval
  obtain ⟨v0, vs0, d0, ds0, p0, q0, hargs, rfl, rfl, h0, r0⟩ := trodAll_cons hA
  obtain ⟨rfl, rfl, rfl⟩ := trodAll_nil r0
  obtain rfl : args = #[v0] := by cases args; simp_all
  obtain ⟨rfl, rfl⟩ := trodVars_none hV
  have lt0 : ∀ x ∈ p0, x.block < W.heap.size := by obtain ⟨m, hm⟩ := h0; exact DataW.trod_lt m _ _ _ hm
  obtain ⟨zs0, hl0, rfl, hz0⟩ := open_ints_arr (n := 32) (k := .u8) Try.underlying54 Try.underlying5 (by kernel_rfl) (by kernel_rfl) (hval 0 54 v0 rfl rfl) h0
  obtain ⟨a0, hla0, ha0, ea0⟩ := id_of_bytes hz0
  clear hA0 hval0
  have hwalk := walk a0 W (by rw [hla0, hl0]) ha0
  rw [← ea0] at hwalk
  refine hwalk.mono fun e W' ⟨he, bel⟩ => ?_
  subst he
  exact ⟨_, rfl, _, _, _, [], _, [], hW', trodAll_mk1 (shut_bool Try.underlying4 _), (trodAll_cons_mk (Below.trod laidOut (by kernel_rfl) (of_decide_eq_true (by kernel_rfl)) h0 bel lt0) trodAll_mk0), rfl, bel.frame _, fun h => by cases h⟩

theorem over : Rows.numBytesRow.holds Try.pinned (OpenSpec.ofChange Rows.numBytesSpec) :=
  OpenClaim.holds_of_wide 6 Try.f6 rfl rfl rfl rfl rfl rfl rfl ⟨rfl, rfl, rfl, rfl, rfl⟩ rfl rfl rfl rfl rfl (by kernel_rfl) Try.func6 (by kernel_rfl)
    (of_decide_eq_true (by kernel_rfl)) (by unfold Func.isWrapper; first | (rw [if_pos (by decide +kernel)]; kernel_rfl) | (rw [if_neg (by decide +kernel)]; exact ⟨rfl, rfl⟩))
    (fun os started H enc _ => lifted os started H enc)

theorem proved : Rows.NumBytesSaid := over
#print axioms proved
end Go.Proofs.Ytecbecngdbjagaa.numBytes
