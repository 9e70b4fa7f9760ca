/-
  The contracts of the document's own for headers: four, Bytes.
-/
import Derived.Test.YtfflgimbgmbpaaaDoorHeaZ
import Derived.Test.YtfflgimbgmbpaaaDoorRefP
import Derived.Deep.RegionHeld
namespace Go.Proofs.YtfflgimbgmbpaaaDoor
open Go.RowKit
set_option linter.unusedVariables false

/-- The low bytes of a number, so many of them. -/
def low4 (x k : Nat) : List Nat := (b4 x).take k
theorem low4_succ (x k : Nat) (h : k < 4) : low4 x (k + 1) = low4 x k ++ [x / 256 ^ k % 256] := by
  have : k = 0 ∨ k = 1 ∨ k = 2 ∨ k = 3 := by omega
  rcases this with rfl | rfl | rfl | rfl <;> simp [low4, b4]
theorem low4_length (x k : Nat) (h : k ≤ 4) : (low4 x k).length = k := by unfold low4; rw [List.length_take, b4_length]; omega
set_option maxRecDepth 100000 in
set_option maxHeartbeats 2000000 in
theorem four_any (x : Nat) (w : World) (hx : x < 4294967296) :
    Calls Tryd.prog 105 #[.int .u32 (x : Int)] w fun e w' => e = .returned (.string (strN (b4 x))) ∧ Below w.heap.size w w' := by
  have hs0 : strN (low4 x 0) = ByteArray.mk #[] := rfl
  have HEND := Lib.hid (show low4 x 4 = b4 x from rfl)
  have HNX := Lib.hid (fun k h => low4_succ x k h)
  have HLL := Lib.hid (fun k h => low4_length x k h)
  go_enter Tryd.func105, Tryd.ntmps105
  go_wp2_with fail
  rw [← hs0]
  clear hs0
  go_loopw [0, 3, 4] (fun xv sv i wr => ∃ k y : Nat, k ≤ 4 ∧ i = .int .i64 k ∧ Hid (y = x / 256 ^ k) ∧ y < 4294967296 ∧ xv = .int .u32 (y : Int) ∧ sv = .string (strN (low4 x k)) ∧ Hid (Below w.heap.size w wr)) (fun _ _ i _ => 4 - (intOf i).toNat)
  case atStart => exact ⟨0, x, by omega, rfl, by show x = x / 256 ^ 0; simp, hx, rfl, rfl, Below.refl _ _⟩
  case round =>
    obtain ⟨k, y, hk, rfl, HY, hy, rfl, rfl, HB⟩ := hrel
    by_cases hlt : k < 4
    · have hdk : decide ((k : Int) < 4) = true := decide_eq_true (by omega)
      obtain ⟨q, hq⟩ : ∃ q, q = y % 256 := ⟨_, rfl⟩
      have hq1 : (y : Int) % 256 = (q : Int) := by omega
      have hq2 : q < 256 := by omega
      obtain ⟨z, hz⟩ : ∃ z, z = y / 256 := ⟨_, rfl⟩
      have hz1 : (y : Int) / 256 = (z : Int) := by omega
      have hz2 : z < 4294967296 := by omega
      have HZ : Hid (z = x / 256 ^ (k + 1)) := by show _ = _; rw [hz, HY.out, Nat.div_div_eq_div_mul, Nat.pow_succ]
      have hnx := HNX.out k hlt
      rw [← HY.out, ← hq] at hnx
      have hll := HLL.out k hk
      have hst : strN (low4 x k) ++ strN [q] = strN (low4 x (k + 1)) := by rw [strN_append, hnx]
      have hsz : (strN (low4 x k)).size + (strN [q]).size ≤ 9223372036854775807 := by rw [strN_size, strN_size, hll]; simp; omega
      have hcv := conv_bs (bs_oneR wr q 5 hq2)
      have HBA := Lib.hid (HB.out.alloc HB.out.size (.cells #[.int .u8 (q : Int)] 5))
      generalize strN (low4 x k) = s0 at *
      obtain ⟨s1, hs1⟩ : ∃ s1, s1 = strN (low4 x (k + 1)) := ⟨_, rfl⟩
      rw [← hs1] at hst
      have HS1 := Lib.hid hs1
      clear hs1
      clear hq hz hnx hll
      go_wp2_with (first
        | (refine wpList_cnv rfl (.tmp 13) 40 9 rfl rfl hcv ?_)
        | (refine wpList_cat (s := s0) (t := strN [q]) (u := s1) rfl (.tmp 9) (.tmp 14) rfl rfl rfl hsz hst ?_))
      go_roundw
      case rel => exact ⟨k + 1, z, by omega, by go_num, HZ.out, hz2, rfl, by rw [HS1.out], HBA.out⟩
      case measure => simp [intOf]; omega
    · have hk4 : k = 4 := by omega
      have hdk : decide ((k : Int) < 4) = false := decide_eq_false (by omega)
      have he : low4 x k = b4 x := by rw [hk4]; exact HEND.out
      rw [he]
      clear hlt hk4 he
      go_wp2_with fail
      go_ret
      exact ⟨rfl, HB.out⟩
set_option maxRecDepth 100000 in
set_option maxHeartbeats 4000000 in
theorem bytes5_any (h : Hd) (w : World) (k : IsHd h) :
    Calls Tryd.prog 64 #[hdv h] w fun e w' => e = .returned (.string (strN (hB h))) ∧ Below w.heap.size w w' := by
  have HFV := Lib.hid (fun W => four_any h.v W k.v)
  have HFT := Lib.hid (fun W => four_any h.t W k.t)
  have HFB := Lib.hid (fun W => four_any h.b W k.b)
  have HFN := Lib.hid (fun W => four_any h.n W k.n)
  have hcv := hdA_v h
  have hct := hdA_t k
  have hcb := hdA_b k
  have hcn := hdA_n k
  have HP := Lib.hid (show ∀ W g, Bk W g 26 (hdA h) → (convert 40 9 (.slice (some ⟨g, 1, none⟩) 32 32)).run Tryd.prog W = .ok (.string (strN h.p)) W from fun W g K => conv_bs (bs_hd k K).1)
  have HR := Lib.hid (show ∀ W g, Bk W g 26 (hdA h) → (convert 40 9 (.slice (some ⟨g, 33, none⟩) 32 32)).run Tryd.prog W = .ok (.string (strN h.r)) W from fun W g K => conv_bs (bs_hd k K).2)
  have HE : Hid ((((((strN (b4 h.v) ++ strN h.p) ++ strN h.r) ++ strN (b4 h.t)) ++ strN (b4 h.b)) ++ strN (b4 h.n)) = strN (hB h)) := by
    show _ = _
    rw [strN_append, strN_append, strN_append, strN_append, strN_append]
    congr 1
    simp [hB]
  have z0 : (strN (b4 h.v)).size = 4 := by rw [strN_size]; rfl
  have z1 : (strN h.p).size = 32 := by rw [strN_size]; exact k.pl
  have z2 : (strN h.r).size = 32 := by rw [strN_size]; exact k.rl
  have z3 : (strN (b4 h.t)).size = 4 := by rw [strN_size]; rfl
  have z4 : (strN (b4 h.b)).size = 4 := by rw [strN_size]; rfl
  have z5 : (strN (b4 h.n)).size = 4 := by rw [strN_size]; rfl
  show Calls Tryd.prog _ #[.agg (hdA h)] w _
  change (hdA h)[0]? = some (.int .u32 (h.v : Int)) at hcv
  generalize hdA h = A at *
  generalize h.v = hv at *
  generalize h.t = ht at *
  generalize h.b = hb at *
  generalize h.n = hn at *
  generalize strN h.p = sp at *
  generalize strN h.r = sr at *
  generalize strN (hB h) = S at *
  generalize strN (b4 hv) = sv at *
  generalize strN (b4 ht) = st at *
  generalize strN (b4 hb) = sb at *
  generalize strN (b4 hn) = sn at *
  clear k
  go_enter Tryd.func64, Tryd.ntmps64
  go_upto_region 1 with fail
  refine wp_any (fun W => Below w.heap.size w W ∧ Bk W w.heap.size 26 A) ⟨(Below.refl w.heap.size w).alloc (Nat.le_refl _) _, Bk.new _ _ _⟩ ?_
  rintro W ⟨hW, K⟩
  have hW := Lib.hid hW
  obtain ⟨g, hg⟩ : ∃ g, g = w.heap.size := ⟨_, rfl⟩
  rw [← hg] at K ⊢
  have HG := Lib.hid hg
  clear hg
  have d0 : ∀ w', Bk w' g 26 A → w'.cell? ⟨g, 0, none⟩ = some (.int .u32 (hv : Int)) := fun w' h => (h.cell 0).trans hcv
  have d1 : ∀ w', Bk w' g 26 A → w'.cell? ⟨g, 65, none⟩ = some (.int .u32 (ht : Int)) := fun w' h => (h.cell 65).trans hct
  have d2 : ∀ w', Bk w' g 26 A → w'.cell? ⟨g, 66, none⟩ = some (.int .u32 (hb : Int)) := fun w' h => (h.cell 66).trans hcb
  have d3 : ∀ w', Bk w' g 26 A → w'.cell? ⟨g, 67, none⟩ = some (.int .u32 (hn : Int)) := fun w' h => (h.cell 67).trans hcn
  have d4 := fun w' => HP.out w' g
  have d5 := fun w' => HR.out w' g
  clear HP HR hcv hct hcb hcn
  go_region_held (fun w' => W.heap.size ≤ w'.heap.size ∧ Bk w' g 26 A)
    ((refine ⟨?_, ?_⟩; (focus (first | omega | (simp; done) | (simp; omega) | (simp [World.drew]; done) | (simp [World.drew]; omega))); (focus (repeat' (first | with_reducible assumption | with_reducible exact Bk.new _ _ _ | with_reducible refine Bk.new' _ _ _ ?_ | with_reducible refine Bk.alloc ?_ _ | with_reducible refine Bk.drew ?_ | (with_reducible refine Bk.keep ?_ (by with_reducible assumption)) | (simp; done) | (simp; omega) | (simp [World.drew]; done) | (simp [World.drew]; omega))))))
    (first
      | (go_at_call 105
         with_reducible refine (HFV.out _).mono ?_
         rintro e w6 ⟨rfl, hb6⟩
         have hE6 : From W w6 := by
           refine below_step ?_ ?_ hb6
           · repeat' (first | with_reducible exact Below.refl _ _ | with_reducible assumption | with_reducible exact From.out (by with_reducible assumption) | with_reducible refine Below.drew ?_ | with_reducible refine Below.setCell ?_ ?_ _ | with_reducible refine Below.alloc ?_ ?_ _ | with_reducible exact Nat.le_refl _ | omega | (simp; done) | (simp; omega) | (simp [World.drew]; done) | (simp [World.drew]; omega))
           · first | omega | (simp; done) | (simp; omega) | (simp [World.drew]; done) | (simp [World.drew]; omega)
         have z6 := hE6.out.size
         have A6 := K.keep hE6.out)
      | (go_at_call 105
         with_reducible refine (HFT.out _).mono ?_
         rintro e w7 ⟨rfl, hb7⟩
         have hE7 : From W w7 := by
           refine below_step ?_ ?_ hb7
           · repeat' (first | with_reducible exact Below.refl _ _ | with_reducible assumption | with_reducible exact From.out (by with_reducible assumption) | with_reducible refine Below.drew ?_ | with_reducible refine Below.setCell ?_ ?_ _ | with_reducible refine Below.alloc ?_ ?_ _ | with_reducible exact Nat.le_refl _ | omega | (simp; done) | (simp; omega) | (simp [World.drew]; done) | (simp [World.drew]; omega))
           · first | omega | (simp; done) | (simp; omega) | (simp [World.drew]; done) | (simp [World.drew]; omega)
         have z7 := hE7.out.size
         have A7 := K.keep hE7.out)
      | (go_at_call 105
         with_reducible refine (HFB.out _).mono ?_
         rintro e w8 ⟨rfl, hb8⟩
         have hE8 : From W w8 := by
           refine below_step ?_ ?_ hb8
           · repeat' (first | with_reducible exact Below.refl _ _ | with_reducible assumption | with_reducible exact From.out (by with_reducible assumption) | with_reducible refine Below.drew ?_ | with_reducible refine Below.setCell ?_ ?_ _ | with_reducible refine Below.alloc ?_ ?_ _ | with_reducible exact Nat.le_refl _ | omega | (simp; done) | (simp; omega) | (simp [World.drew]; done) | (simp [World.drew]; omega))
           · first | omega | (simp; done) | (simp; omega) | (simp [World.drew]; done) | (simp [World.drew]; omega)
         have z8 := hE8.out.size
         have A8 := K.keep hE8.out)
      | (go_at_call 105
         with_reducible refine (HFN.out _).mono ?_
         rintro e w9 ⟨rfl, hb9⟩
         have hE9 : From W w9 := by
           refine below_step ?_ ?_ hb9
           · repeat' (first | with_reducible exact Below.refl _ _ | with_reducible assumption | with_reducible exact From.out (by with_reducible assumption) | with_reducible refine Below.drew ?_ | with_reducible refine Below.setCell ?_ ?_ _ | with_reducible refine Below.alloc ?_ ?_ _ | with_reducible exact Nat.le_refl _ | omega | (simp; done) | (simp; omega) | (simp [World.drew]; done) | (simp [World.drew]; omega))
           · first | omega | (simp; done) | (simp; omega) | (simp [World.drew]; done) | (simp [World.drew]; omega)
         have z9 := hE9.out.size
         have A9 := K.keep hE9.out))
  all_goals
    have hW9 := Lib.hid (below_step hW.out hW.out.size hE9.out)
    go_wp2_with fail
    go_ret
    refine ⟨?_, hW9.out⟩
    show Ending.returned (.string _) = _
    rw [HE.out]
end Go.Proofs.YtfflgimbgmbpaaaDoor
