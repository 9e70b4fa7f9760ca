/- The contract of a Feed's word: bytes.Cut at a byte 0. -/
import Derived.Test.YtkpffjcdalclmaaDoorZFrM
import Derived.Lib.BytesEntry
import Derived.Test.YtkpffjcdalclmaaDoorZFrE
namespace Go.Proofs.YtkpffjcdalclmaaDoor
open Go.RowKit
set_option linter.unusedVariables false
set_option linter.unusedSimpArgs false
set_option maxRecDepth 100000
def zeroAt (xs : List Nat) : Int := if (xs.takeWhile (fun x => x != 0)).length < xs.length then ((xs.takeWhile (fun x => x != 0)).length : Int) else -1
theorem zero_index : ∀ (xs : List Nat), (∀ x ∈ xs, x < 256) → Lib.indexByte (Lib.bytesOf (ints xs)) 0 = zeroAt xs
  | [], _ => rfl
  | x :: xs, hx => by
    have ih := zero_index xs (fun y hy => hx y (List.mem_cons_of_mem _ hy))
    have h0 := hx x List.mem_cons_self
    show (if (UInt8.ofNat ((x : Int)).toNat == 0) = true then (0 : Int) else if (Lib.indexByte (Lib.bytesOf (ints xs)) 0 == -1) = true then -1 else Lib.indexByte (Lib.bytesOf (ints xs)) 0 + 1) = _
    rw [ih]
    by_cases hz : x = 0
    · subst hz
      rfl
    · have e1 : (UInt8.ofNat ((x : Int)).toNat == 0) = false := by
        rw [beq_eq_false_iff_ne]
        intro h
        have h2 := congrArg UInt8.toNat h
        rw [Int.toNat_natCast, UInt8.toNat_ofNat', Nat.mod_eq_of_lt h0] at h2
        exact hz h2
      rw [if_neg (by rw [e1]; simp)]
      have e2 : (x :: xs).takeWhile (fun x => x != 0) = x :: xs.takeWhile (fun x => x != 0) := List.takeWhile_cons_of_pos (by simpa using hz)
      unfold zeroAt
      rw [e2, List.length_cons, List.length_cons]
      by_cases hl : (xs.takeWhile (fun x => x != 0)).length < xs.length
      · rw [if_pos hl, if_neg (by rw [beq_iff_eq]; omega), if_pos (by omega)]
        push_cast
        rfl
      · rw [if_neg hl, if_pos (by rfl), if_neg (by omega)]
set_option maxHeartbeats 1000000 in
theorem ibyte_any (b o n c : Nat) (xs : List Nat) (w : World) (hn : xs.length = n) (hx : ∀ x ∈ xs, x < 256) (hc : ∀ i, i < n → w.cell? ⟨b, o + i, none⟩ = some (.int .u8 ((nth xs i : Nat) : Int))) :
    Calls Tryd.prog 95 #[.slice (some ⟨b, o, none⟩) n c, .int .u8 0] w fun e w' => e = .returned (.int .i64 (zeroAt xs)) ∧ w' = w := by
  have hi := zero_index xs hx
  have hr := Lib.run_indexByteSlice (P := Tryd.prog) w b o n c (ints xs) (by unfold ints; rw [List.length_map, hn]) (fun i hi => by
    rw [hc i hi]
    unfold nth ints
    rw [List.getD_eq_getElem?_getD, List.getD_eq_getElem?_getD, List.getElem?_map, List.getElem?_eq_getElem (by omega)]
    rfl) 0
  rw [show ((0 : Int).toNat.toUInt8) = 0 from rfl, hi] at hr
  clear hi hc hx
  go_enter Tryd.func95, Tryd.ntmps95
  go_wp2
  rw [run_callFunc_extern Tryd.func106 (by kernel_rfl) (by kernel_rfl) (by kernel_rfl) (e := Extern.BytealgIndexByte.indexByte) (by kernel_rfl), hr]
  simp only [Result.andThen]
  rw [Oper.upon_value]
  go_wp2
  go_ret
  exact ⟨rfl, rfl⟩
set_option maxHeartbeats 2000000 in
theorem bindex_any (b o n c g : Nat) (xs : List Nat) (w : World) (hn : xs.length = n) (hx : ∀ x ∈ xs, x < 256) (hc : ∀ i, i < n → w.cell? ⟨b, o + i, none⟩ = some (.int .u8 ((nth xs i : Nat) : Int))) (hg : w.cell? ⟨g, 0, none⟩ = some (.int .u8 0)) :
    Calls Tryd.prog 87 #[.slice (some ⟨b, o, none⟩) n c, .slice (some ⟨g, 0, none⟩) 1 1] w fun e w' => e = .returned (.int .i64 (zeroAt xs)) ∧ w' = w := by
  have HI := Lib.hid (ibyte_any b o n c xs w hn hx hc)
  obtain ⟨z, hz⟩ : ∃ z, z = zeroAt xs := ⟨_, rfl⟩
  rw [← hz] at HI ⊢
  clear hx hc hn hz
  go_enter Tryd.func87, Tryd.ntmps87
  go_wp2_with fail
  refine HI.out.mono ?_
  rintro e w' ⟨rfl, rfl⟩
  go_wp2_with fail
  go_ret
  exact ⟨rfl, rfl⟩
set_option maxHeartbeats 2000000 in
theorem bcut_any (b o n c g : Nat) (xs : List Nat) (w : World) (hn : xs.length = n) (hnc : n ≤ c) (hcm : c < 9223372036854775808) (hx : ∀ x ∈ xs, x < 256) (hc : ∀ i, i < n → w.cell? ⟨b, o + i, none⟩ = some (.int .u8 ((nth xs i : Nat) : Int))) (hg : w.cell? ⟨g, 0, none⟩ = some (.int .u8 0)) :
    Calls Tryd.prog 77 #[.slice (some ⟨b, o, none⟩) n c, .slice (some ⟨g, 0, none⟩) 1 1] w fun e w' => (∃ v t, e = .returned (.tuple #[.slice (some ⟨b, o, none⟩) (xs.takeWhile (fun x => x != 0)).length c, v, t])) ∧ Below w.heap.size w w' := by
  have HI := Lib.hid (bindex_any b o n c g xs w hn hx hc hg)
  have hle : (xs.takeWhile (fun x => x != 0)).length ≤ xs.length := (List.takeWhile_prefix _).length_le
  rcases Nat.lt_or_ge (xs.takeWhile (fun x => x != 0)).length xs.length with hk | hk
  · have ez : zeroAt xs = ((xs.takeWhile (fun x => x != 0)).length : Int) := if_pos hk
    rw [ez] at HI
    obtain ⟨k, hk0⟩ : ∃ k, k = (xs.takeWhile (fun x => x != 0)).length := ⟨_, rfl⟩
    rw [← hk0] at HI hk ⊢
    have q1 : decide ((0 : Int) ≤ (k : Int)) = true := decide_eq_true (by omega)
    have hkn : k < n := by omega
    have hkc : (k : Int) ≤ (c : Int) := by omega
    have hkc2 : (k : Int) + 1 ≤ (c : Int) := by omega
    have hw1 : IntKind.i64.wrap ((k : Int) + 1) = (k : Int) + 1 := by
      simp [IntKind.wrap, IntKind.signed, IntKind.bits]
      omega
    clear ez hk0 hle hk hx hc hn
    go_enter Tryd.func77, Tryd.ntmps77
    go_wp2_with fail
    refine HI.out.mono ?_
    rintro e w' ⟨rfl, rfl⟩
    go_wp2_with fail
    have hkc3 : ((k : Int) + 1).toNat = k + 1 := by omega
    have h9 : (k : Int) ≤ (k : Int) + 1 := by omega
    have h8 : (0 : Int) ≤ (k : Int) + 1 := by omega
    have h7 : (k : Int) + 1 ≤ (n : Int) := by omega
    by_cases hck : c = k + 1
    · refine wp_region_still_lit (by kernel_rfl) (by kernel_rfl) ?_
      still_step
      still_step
      still_step
      still_step
      still_step
      still_step
      still_step
      still_step
      still_step
      still_step
      still_step
      still_step
      refine wpStill_nil ?_
      go_wp2_with fail
      go_ret3
      exact ⟨⟨_, _, by first | rfl | (rw [hck]; rfl)⟩, (Below.refl _ _).drew⟩
    · refine wp_region_still_lit (by kernel_rfl) (by kernel_rfl) ?_
      still_step
      still_step
      still_step
      still_step
      still_step
      still_step
      still_step
      still_step
      still_step
      still_step
      still_step
      still_step
      refine wpStill_nil ?_
      go_wp2_with fail
      go_ret3
      exact ⟨⟨_, _, by first | rfl | (rw [hck]; rfl)⟩, (Below.refl _ _).drew⟩
  · have ez : zeroAt xs = -1 := if_neg (by omega)
    have ek : (xs.takeWhile (fun x => x != 0)).length = n := by omega
    rw [ez] at HI
    rw [ek]
    clear ez ek hle hk hx hc hn
    go_enter Tryd.func77, Tryd.ntmps77
    go_wp2_with fail
    refine HI.out.mono ?_
    rintro e w' ⟨rfl, rfl⟩
    go_wp2_with fail
    go_ret3
    exact ⟨⟨_, _, rfl⟩, Below.refl _ _⟩
theorem takeW_take (l : List Nat) : l.takeWhile (fun x => x != 0) = l.take (l.takeWhile (fun x => x != 0)).length := by
  have h : l.takeWhile (fun x => x != 0) <+: l := List.takeWhile_prefix _
  exact List.prefix_iff_eq_take.1 h
set_option maxHeartbeats 4000000 in
theorem fword_any {FT : TypeId} {FR : Array Value} {fo : Nat} [hfd : FdOk FT FR fo] (p n c e : Nat) (a : Addr) (xs : List Nat) (w : World) (hP : Bk w p FT (fdA FR fo (.slice (some a) n c) (.int .i64 (e : Int)))) (hb : BsV w w.heap.size (.slice (some a) n c) xs) (h16 : 16 ≤ xs.length) :
    Calls Tryd.prog 56 #[.pointer (some ⟨p, fo, none⟩)] w fun r w' => r = .returned (.string (strN (wordN xs))) ∧ Below w.heap.size w w' := by
  have hx : ∀ x ∈ xs, x < 256 := by
    obtain ⟨s, cap, e, h1, h2, h3, h4⟩ := hb
    exact h3
  have hcap : xs.length ≤ c ∧ c < 9223372036854775808 ∧ n = xs.length := by
    obtain ⟨s, cap, e, h1, h2, h3, h4⟩ := hb
    cases e
    exact ⟨h1, h2, rfl⟩
  have hwl : (wordN xs).length ≤ 12 := by
    have h := (List.takeWhile_prefix (l := fieldN xs) (fun x => x != 0)).length_le
    have h2 : (fieldN xs).length ≤ 12 := by unfold fieldN; rw [List.length_take]; omega
    exact Nat.le_trans h h2
  have hfl : (fieldN xs).length = 12 := by unfold fieldN; rw [List.length_take, List.length_drop]; omega
  have hwt : wordN xs = (xs.drop 4).take (wordN xs).length := by
    have h := takeW_take (fieldN xs)
    have h2 : wordN xs = (fieldN xs).take (wordN xs).length := h
    conv => lhs; rw [h2]
    unfold fieldN
    rw [List.take_take, Nat.min_eq_left hwl]
  have HCV : Hid (∀ W, Below w.heap.size w W → (convert 32 9 (.slice (some (a.add 4)) (wordN xs).length (c - 4))).run Tryd.prog W = .ok (.string (strN (wordN xs))) W) := fun W h => by
    have h1 := bsv_part 4 (wordN xs).length (hb.keep h (Nat.le_refl _)) (by omega)
    rw [← hwt] at h1
    exact conv_bs h1
  have HCU : Hid (∀ W, Below w.heap.size w W → ∀ g, W.cell? ⟨g, 0, none⟩ = some (.int .u8 0) → Calls Tryd.prog 77 #[.slice (some (a.add 4)) 12 (c - 4), .slice (some ⟨g, 0, none⟩) 1 1] W fun r w' => (∃ v t, r = .returned (.tuple #[.slice (some (a.add 4)) (wordN xs).length (c - 4), v, t])) ∧ Below W.heap.size W w') := fun W h g hg => by
    have h1 := bsv_part 4 12 (hb.keep h (Nat.le_refl _)) (by omega)
    have h5 : ((xs.drop 4).take 12).length = 12 := hfl
    obtain ⟨s', cap, e', h1, h2, h3, h4⟩ := h1
    rw [h5] at e'
    cases e'
    obtain ⟨b, o, e2, hlt, hc⟩ := h4 (by intro h0; have := congrArg List.length h0; rw [h5] at this; cases this)
    have e2 : a.add 4 = ⟨b, o, none⟩ := by injection e2
    rw [e2]
    exact bcut_any b o 12 (c - 4) g (fieldN xs) W hfl (by omega) (by omega) (fun x hx2 => h3 x hx2) (fun i hi => hc i (by omega)) hg
  have c0 := (fd0 hP)
  have z0 := hP.lt
  have hc1 : (16 : Int) ≤ (c : Int) := by omega
  have hc2 : ¬ c = 4 := by omega
  have hc3 : (c : Int) < 9223372036854775808 := by omega
  have hc4 : ((c : Int) - 4).toNat = c - 4 := by omega
  obtain ⟨wd, hwd⟩ : ∃ l, l = wordN xs := ⟨_, rfl⟩
  rw [← hwd] at HCV HCU ⊢
  obtain ⟨k, hk⟩ : ∃ k, k = wd.length := ⟨_, rfl⟩
  rw [← hk] at HCV HCU
  clear hb h16 hx hcap hwl hfl hwt hP hwd hk
  go_enter Tryd.func56, Tryd.ntmps56
  go_wp2_with fail
  refine (HCU.out _ (by with_reducible exact (Below.refl _ _).alloc (Nat.le_refl _) _) w.heap.size ((Bk.new w 5 #[.int .u8 0]).cell 0)).mono ?_
  rintro r w2 ⟨⟨v, t, rfl⟩, hb2⟩
  have HW2 : Below w.heap.size w w2 := below_step ((Below.refl _ _).alloc (Nat.le_refl _) _) (by simp) hb2
  have hcv := HCV.out w2 HW2
  simp [Addr.add] at hcv
  clear hb2 HCV HCU
  go_wp2_with fail
  go_ret
  exact ⟨rfl, HW2⟩
end Go.Proofs.YtkpffjcdalclmaaDoor
