/-
  The contract of a Feed's length.
-/
import Derived.Test.YtjnbdajdllpchaaDoorFrS
import Derived.Test.YtjnbdajdllpchaaDoorFdO
namespace Go.Proofs.YtjnbdajdllpchaaDoor
open Go.RowKit
set_option linter.unusedVariables false
set_option linter.unusedSimpArgs false
set_option maxRecDepth 100000

/-- A part of a slice of bytes. -/
theorem bsv_part {w : World} {B n c : Nat} {a : Addr} {xs : List Nat} (i k : Nat) (h : BsV w B (.slice (some a) n c) xs) (hk : i + k ≤ xs.length) : BsV w B (.slice (some (a.add i)) k (c - i)) ((xs.drop i).take k) := by
  obtain ⟨s, cap, e, h1, h2, h3, h4⟩ := h
  cases e
  have hlen : ((xs.drop i).take k).length = k := by rw [List.length_take, List.length_drop]; omega
  refine ⟨some (a.add i), c - i, by rw [hlen], by omega, by omega, fun x hx => h3 x (List.mem_of_mem_drop (List.mem_of_mem_take hx)), fun hne => ?_⟩
  have hne' : xs ≠ [] := by
    rintro rfl
    simp at hne
  obtain ⟨b, o, e1, hb, hc⟩ := h4 hne'
  cases e1
  refine ⟨b, o + i, by rw [Go.WideShapes.add_plain], hb, fun j hj => ?_⟩
  rw [hlen] at hj
  have h5 := hc (i + j) (by omega)
  rw [← Nat.add_assoc] at h5
  rw [h5]
  unfold nth
  rw [List.getD, List.getD, List.getElem?_take_of_lt hj, List.getElem?_drop]
set_option maxHeartbeats 4000000 in
theorem flen_any {FT : TypeId} {FR : Array Value} {fo : Nat} [hfd : FdOk FT FR fo] (p n c e : Nat) (a : Addr) (xs : List Nat) (w : World) (hP : Bk w p FT (fdA FR fo (.slice (some a) n c) (.int .i64 (e : Int)))) (hb : BsV w w.heap.size (.slice (some a) n c) xs) (h20 : 20 ≤ xs.length) (hl : xs.length ≤ 100000) :
    Calls Tryd.prog 56 #[.pointer (some ⟨p, fo, none⟩)] w fun r w' => r = .returned (.int .u64 ((ofL ((xs.drop 16).take 4) : Nat) : Int)) ∧ Below w.heap.size w w' := by
  have hx : ∀ x ∈ xs, x < 256 := by
    obtain ⟨s, cap, e, h1, h2, h3, h4⟩ := hb
    exact h3
  have hcap : xs.length ≤ c ∧ c < 9223372036854775808 ∧ n = xs.length := by
    obtain ⟨s, cap, e, h1, h2, h3, h4⟩ := hb
    cases e
    exact ⟨h1, h2, rfl⟩
  have hpart := bsv_part 16 4 hb (by omega)
  have hyl : ((xs.drop 16).take 4).length = 4 := by rw [List.length_take, List.length_drop]; omega
  have hyx : ∀ x ∈ (xs.drop 16).take 4, x < 256 := fun x h => hx x (List.mem_of_mem_drop (List.mem_of_mem_take h))
  obtain ⟨y, hy⟩ : ∃ y, y = (xs.drop 16).take 4 := ⟨_, rfl⟩
  rw [← hy] at hpart hyl hyx ⊢
  have HRD := Lib.hid (read_any y (.slice (some (a.add 16)) 4 (c - 16)) w hpart (by omega) hyx)
  have HNM : Hid (∀ q v W, Rd W q v y 0 → Calls Tryd.prog 58 #[.pointer (some ⟨q, 0, none⟩), .int .i64 4] W fun r w' => r = .returned (.int .u64 ((ofL y : Nat) : Int)) ∧ ∃ v', Took q v (rdNum (y, 0) 4).2 W w' v') := fun q v W h => by
    have h1 := num_any q 4 v (y, 0) W h ⟨by simp only; omega, by simp only; omega⟩
    have e1 : (rdNum (y, 0) 4).1 = ofL y := by
      unfold rdNum rdTake
      rw [if_pos (by simp only; omega)]
      show ofL ((y.take 4).take 8) = ofL y
      rw [List.take_of_length_le (show (y.take 4).length ≤ 8 by rw [List.length_take]; omega), List.take_of_length_le (by omega)]
    rw [e1] at h1
    exact h1
  have HLN := Lib.hid hyl
  have c0 := (fd0 hP)
  have c1 := (fd1 hP)
  have z0 := hP.lt
  have hc1 : (20 : Int) ≤ (c : Int) := by omega
  have hc2 : ¬ c = 16 := by omega
  have hc3 : (c : Int) < 9223372036854775808 := by omega
  have hc4 : ((c : Int) - 16).toNat = c - 16 := by omega
  obtain ⟨on, hon⟩ : ∃ o, o = ofL y := ⟨_, rfl⟩
  rw [← hon] at HNM ⊢
  clear hb h20 hl hx hcap hpart hyl hyx hy hP hon
  go_enter Tryd.func56, Tryd.ntmps56
  go_wp2_with fail
  refine HRD.out.mono ?_
  rintro r w1 ⟨q, v', rfl, hRd, hb1, hq, _⟩
  have HB1 := Lib.hid hb1
  have HQ := Lib.hid hq
  have HC := Lib.hid (HNM.out q v' w1 hRd)
  clear hRd hb1 hq HRD HNM
  go_wp2_with fail
  refine HC.out.mono ?_
  rintro r w2 ⟨rfl, v2, hT⟩
  have hb2 := hT.2.1
  go_wp2_with fail
  go_ret
  exact ⟨rfl, HB1.out.trans (hb2.below (B := w.heap.size) HB1.out.size (fun k hk => by subst hk; exact HQ.out))⟩
end Go.Proofs.YtjnbdajdllpchaaDoor
