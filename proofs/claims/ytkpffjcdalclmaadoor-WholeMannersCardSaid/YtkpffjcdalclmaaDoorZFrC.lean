/- The contracts of package frame's Check, and of the document's. -/
import Derived.Test.YtkpffjcdalclmaaDoorZWfY
import Derived.Laws.RangeAny
namespace Go.Proofs.YtkpffjcdalclmaaDoor
open Go.RowKit
set_option linter.unusedVariables false
set_option linter.unusedSimpArgs false
set_option maxRecDepth 100000
def WordOk (l : List Nat) : Prop := 1 ≤ l.length ∧ l.length ≤ 12 ∧ ∀ i, i < l.length → 97 ≤ nth l i ∧ nth l i ≤ 122
def wordE (l : List Nat) : Nat := if 1 ≤ l.length ∧ l.length ≤ 12 ∧ ∀ i, i < l.length → 97 ≤ nth l i ∧ nth l i ≤ 122 then 0 else 70
theorem wordE_ok {l : List Nat} (h : WordOk l) : wordE l = 0 := if_pos h
theorem wordE_bad {l : List Nat} (h : ¬ WordOk l) : wordE l = 70 := if_neg h
theorem next_small (l : List Nat) (hx : ∀ x ∈ l, x < 256) (k : Nat) (hk : k < l.length) (h : nth l k < 128) (w : World) (ty : TypeId) :
    (Instr.next (.pointer (some ⟨w.heap.size, 0, none⟩)) true ty).run Tryd.prog (w.iter (strN l) k) = .ok (.tuple #[.bool true, .int .i64 (k : Int), .int .i32 ((nth l k : Nat) : Int)]) (w.iter (strN l) (k + 1)) := by
  have hs : k < (strN l).size := by rw [strN_size]; exact hk
  have hg := strN_get l k hk hx hs
  have h1 := run_next_ascii (P := Tryd.prog) w (strN l) k ty hs (by rw [hg]; exact h)
  rw [hg] at h1
  exact h1
theorem next_great (l : List Nat) (hx : ∀ x ∈ l, x < 256) (k : Nat) (hk : k < l.length) (h : 128 ≤ nth l k) :
    ∃ (r : Nat) (p : Nat), 128 ≤ r ∧ r ≤ 2147483647 ∧ ∀ (w : World) (ty : TypeId), (Instr.next (.pointer (some ⟨w.heap.size, 0, none⟩)) true ty).run Tryd.prog (w.iter (strN l) k) = .ok (.tuple #[.bool true, .int .i64 (k : Int), .int .i32 (r : Int)]) (w.iter (strN l) p) := by
  have hs : k < (strN l).size := by rw [strN_size]; exact hk
  have hg := strN_get l k hk hx hs
  exact ⟨_, _, (decode_high (strN l) k hs (by rw [hg]; exact h)).1, decode_le _ _, fun w ty => run_next_any (P := Tryd.prog) w (strN l) k ty hs⟩
theorem next_over (l : List Nat) (w : World) (ty : TypeId) :
    (Instr.next (.pointer (some ⟨w.heap.size, 0, none⟩)) true ty).run Tryd.prog (w.iter (strN l) l.length) = .ok (.tuple #[.bool false]) (w.iter (strN l) l.length) :=
  run_next_end (P := Tryd.prog) w (strN l) l.length ty (by rw [strN_size]; omega)
theorem iter_below (w : World) (s : ByteArray) (p : Nat) : Below w.heap.size w (w.iter s p) := (Below.refl _ _).alloc (Nat.le_refl _) _
set_option maxHeartbeats 4000000 in
theorem fcheck_any (l : List Nat) (w : World) (hx : ∀ x ∈ l, x < 256) :
    Calls Tryd.prog 62 #[.string (strN l)] w fun e w' => e = .returned (.int .i64 ((wordE l : Nat) : Int)) ∧ Below w.heap.size w w' := by
  have HSM := Lib.hid (fun k h1 h2 w ty => next_small l hx k h1 h2 w ty)
  have HGR := Lib.hid (fun k h1 h2 => next_great l hx k h1 h2)
  have HOV := Lib.hid (fun w ty => next_over l w ty)
  have hz := strN_size l
  have HOK := Lib.hid (@wordE_ok l)
  have HBD := Lib.hid (@wordE_bad l)
  have HIB := Lib.hid (fun p => iter_below w (strN l) p)
  obtain ⟨e0, he⟩ : ∃ e, e = wordE l := ⟨_, rfl⟩
  rw [← he] at HOK HBD ⊢
  obtain ⟨n, hn⟩ : ∃ n, n = l.length := ⟨_, rfl⟩
  have HN := Lib.hid hn
  obtain ⟨u, hu⟩ : ∃ u, u = strN l := ⟨_, rfl⟩
  rw [← hu] at HSM HGR HOV HIB hz ⊢
  rw [← hn] at hz HSM HGR HOV
  clear he hn hu hx
  by_cases h1 : n < 1
  · have q1 : decide ((n : Int) < 1) = true := decide_eq_true (by omega)
    obtain rfl := HBD.out (fun h => by have := h.1; have := HN.out; omega)
    clear h1
    go_enter Tryd.func62, Tryd.ntmps62
    go_wp2_with fail
    go_ret
    exact ⟨rfl, Below.refl _ _⟩
  have q1 : decide ((n : Int) < 1) = false := decide_eq_false (by omega)
  by_cases h2 : 12 < n
  · have q2 : decide ((12 : Int) < (n : Int)) = true := decide_eq_true (by omega)
    obtain rfl := HBD.out (fun h => by have := h.2.1; have := HN.out; omega)
    clear h1 h2
    go_enter Tryd.func62, Tryd.ntmps62
    go_wp2_with fail
    go_ret
    exact ⟨rfl, Below.refl _ _⟩
  have q2 : decide ((12 : Int) < (n : Int)) = false := decide_eq_false (by omega)
  have H12 := Lib.hid (show 1 ≤ n ∧ n ≤ 12 by omega)
  clear h1 h2
  go_enter Tryd.func62, Tryd.ntmps62
  go_wp2_with fail
  go_loopw [] (fun wr => ∃ k : Nat, k ≤ n ∧ wr = w.iter u k ∧ Hid (∀ j, j < k → 97 ≤ nth l j ∧ nth l j ≤ 122)) (fun wr => n - wr.iterPos w.heap.size)
  case atStart => exact ⟨0, Nat.zero_le _, rfl, fun j hj => absurd hj (by omega)⟩
  case round =>
    obtain ⟨k, hk, rfl, HX⟩ := hrel
    have h12 := H12.out
    by_cases hlt : k < n
    · have HK1 := Lib.hid (show k + 1 ≤ n by omega)
      by_cases h128 : nth l k < 128
      · have hnx := fun w ty => HSM.out k hlt h128 w ty
        obtain ⟨y, hy⟩ : ∃ y, y = nth l k := ⟨_, rfl⟩
        rw [← hy] at hnx h128
        have HY := Lib.hid hy
        clear hy
        by_cases h97 : y < 97
        · have j3 : decide ((y : Int) < 97) = true := decide_eq_true (by omega)
          obtain rfl := HBD.out (fun h => by have h3 := h.2.2 k (by have := HN.out; omega); have := HY.out; omega)
          clear h97 h128
          go_wp2_with fail
          go_ret
          exact ⟨rfl, HIB.out _⟩
        have j3 : decide ((y : Int) < 97) = false := decide_eq_false (by omega)
        by_cases h122 : 122 < y
        · have j4 : decide ((122 : Int) < (y : Int)) = true := decide_eq_true (by omega)
          obtain rfl := HBD.out (fun h => by have h3 := h.2.2 k (by have := HN.out; omega); have := HY.out; omega)
          clear h97 h122 h128
          go_wp2_with fail
          go_ret
          exact ⟨rfl, HIB.out _⟩
        have j4 : decide ((122 : Int) < (y : Int)) = false := decide_eq_false (by omega)
        have HYY := Lib.hid (show 97 ≤ y ∧ y ≤ 122 by omega)
        clear h97 h122 h128
        go_wp2_with fail
        go_roundw
        case rel =>
          refine ⟨k + 1, HK1.out, by first | rfl | trivial, ?_⟩
          show ∀ j, j < k + 1 → _
          intro j hj
          rcases Nat.lt_or_ge j k with h | h
          · exact HX.out j h
          · obtain rfl : j = k := by omega
            rw [← HY.out]
            exact HYY.out
        case measure => have := HK1.out; simp; omega
      · obtain ⟨r, p, hr1, hr2, hnx⟩ := HGR.out k hlt (by omega)
        have j3 : decide ((r : Int) < 97) = false := decide_eq_false (by omega)
        have j4 : decide ((122 : Int) < (r : Int)) = true := decide_eq_true (by omega)
        obtain rfl := HBD.out (fun h => by have h3 := h.2.2 k (by have := HN.out; omega); omega)
        clear h128 hr1 hr2
        go_wp2_with fail
        go_ret
        exact ⟨rfl, HIB.out _⟩
    · have hkn : k = n := by omega
      subst hkn
      have hnx := fun w ty => HOV.out w ty
      obtain rfl := HOK.out ⟨by have := HN.out; omega, by have := HN.out; omega, fun i hi => HX.out i (by have := HN.out; omega)⟩
      clear hlt hk
      go_wp2_with fail
      go_ret
      exact ⟨rfl, HIB.out _⟩
end Go.Proofs.YtkpffjcdalclmaaDoor
