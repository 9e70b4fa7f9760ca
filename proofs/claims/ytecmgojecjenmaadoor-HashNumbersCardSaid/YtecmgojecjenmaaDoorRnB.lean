/-
  The document's more: which of two rows of digits stands for more.
-/
import Derived.Test.YtecmgojecjenmaaDoorRnA
namespace Go.Proofs.YtecmgojecjenmaaDoor
open Go.RowKit
set_option linter.unusedVariables false

theorem RowV.cellD {w : World} {B n c : Nat} {s : Option Addr} {xs : List Nat} (h : RowV ddR w B (.slice s n c) xs) (hne : xs ≠ []) :
    ∃ b o, s = some ⟨b, o, none⟩ ∧ b < B ∧ ∀ i, i < xs.length → w.cell? ⟨b, o + i, none⟩ = some (.int .u64 ((nth xs i : Nat) : Int)) := by
  obtain ⟨b, o, e, hb, hn, hr⟩ := h.at_ hne
  refine ⟨b, o, e, hb, fun i hi => ?_⟩
  have hx := List.getElem?_eq_getElem hi
  have h := hr i _ hx 0 (.int .u64 ((xs[i] : Nat) : Int)) rfl
  rw [show ddR.k = 1 from rfl, Nat.mul_one, Nat.add_zero] at h
  have e1 : nth xs i = xs[i] := by unfold nth; rw [List.getD, hx]; rfl
  rw [h, e1]
def moF (xs ys : List Nat) : Nat → Bool
  | 0 => false
  | k + 1 => if nth xs k = nth ys k then moF xs ys k else decide (nth ys k < nth xs k)
def moN (xs ys : List Nat) : Bool := if xs.length = ys.length then moF xs ys xs.length else decide (ys.length < xs.length)
set_option maxRecDepth 100000 in
set_option maxHeartbeats 2000000 in
theorem more_any (u v : Value) (xs ys : List Nat) (w : World) (hu : RowV ddR w w.heap.size u xs) (hv : RowV ddR w w.heap.size v ys) (hx : xs.length ≤ 1000) (hy : ys.length ≤ 1000) :
    Calls Tryd.prog 34 #[u, v] w fun e w' => e = .returned (.bool (moN xs ys)) ∧ Below w.heap.size w w' := by
  obtain ⟨s, c, rfl⟩ := hu.slice
  obtain ⟨s', c', rfl⟩ := hv.slice
  have HX := Lib.hid (fun h => hu.cellD h)
  have HY := Lib.hid (fun h => hv.cellD h)
  obtain ⟨D, hD⟩ : ∃ D, D = moN xs ys := ⟨_, rfl⟩
  rw [← hD]
  obtain ⟨n, hn⟩ : ∃ n, n = xs.length := ⟨_, rfl⟩
  obtain ⟨m, hm⟩ : ∃ m, m = ys.length := ⟨_, rfl⟩
  rw [← hn] at hx ⊢
  rw [← hm] at hy ⊢
  unfold moN at hD
  rw [← hn, ← hm] at hD
  have HN := Lib.hid hn
  have HM := Lib.hid hm
  clear hu hv hn hm
  by_cases hq : n = m
  · rw [if_pos hq] at hD
    have HD := Lib.hid hD
    have HQ := Lib.hid hq
    have hd : ((n : Int) != (m : Int)) = false := by rw [hq]; simp
    clear hq hD
    have q0 : IntKind.i64.wrap ((n : Int) - 1) = (n : Int) - 1 := IntWalk.i64_in _ (by omega)
    go_enter Tryd.func34, Tryd.ntmps34
    go_wp2_with fail
    clear hd
    go_loopw [5] (fun i wr => ∃ p : Nat, p ≤ n ∧ i = .int .i64 ((p : Int) - 1) ∧ Hid (D = moF xs ys p) ∧ Hid (Below w.heap.size w wr)) (fun i _ => (intOf i + 1).toNat)
    case atStart => exact ⟨n, Nat.le_refl _, rfl, HD.out, Below.refl _ _⟩
    case round =>
      obtain ⟨p, hp, rfl, He, hWr⟩ := hrel
      clear q0
      cases p with
      | zero =>
        rw [show (((0 : Nat) : Int) - 1) = -1 from rfl]
        have hd : decide ((0 : Int) ≤ -1) = false := by decide
        go_wp2_with fail
        go_ret
        exact ⟨by rw [He.out]; rfl, hWr.out⟩
      | succ k =>
        rw [show (((k + 1 : Nat) : Int) - 1) = (k : Int) by omega]
        have hd : decide ((0 : Int) ≤ (k : Int)) = true := decide_eq_true (by omega)
        have q1 : IntKind.i64.wrap ((k : Int) - 1) = (k : Int) - 1 := IntWalk.i64_in _ (by omega)
        obtain ⟨b, o, rfl, hb, hc⟩ := HX.out (by intro h; have := HN.out; rw [h] at this; simp at this; omega)
        obtain ⟨b', o', rfl, hb', hc'⟩ := HY.out (by intro h; have := HM.out; have := HQ.out; rw [h] at *; simp at *; omega)
        have c0 := (hWr.out.cell (p := ⟨b, o + k, none⟩) hb).trans (hc k (by have := HN.out; omega))
        have c1 := (hWr.out.cell (p := ⟨b', o' + k, none⟩) hb').trans (hc' k (by have := HM.out; have := HQ.out; omega))
        clear hc hc'
        have He' := He.out
        rw [moF] at He'
        have hkm : k < m := by have := HQ.out; omega
        by_cases he : nth xs k = nth ys k
        · rw [if_pos he] at He'
          have HE := Lib.hid He'
          rw [← he] at c1
          clear He' he
          generalize nth xs k = x at *
          have j1 : (k : Int) < (n : Int) := by omega
          have j2 : (k : Int) < (m : Int) := by omega
          go_upto_region 6 with fail
          go_still (by kernel_rfl)
          go_wp2_with fail
          go_roundw
          case rel => exact ⟨k, by omega, rfl, HE.out, hWr.out.drew⟩
          case measure => simp [intOf]
        · rw [if_neg he] at He'
          have HE := Lib.hid He'
          have hd3 : ((nth xs k : Int) != (nth ys k : Int)) = true := bne_iff_ne.2 (by omega)
          have hd2 : decide ((nth ys k : Int) < (nth xs k : Int)) = D := by
            rw [He']
            exact decide_eq_decide.2 (by omega)
          clear He' he
          generalize nth xs k = x at *
          generalize nth ys k = y at *
          have j1 : (k : Int) < (n : Int) := by omega
          have j2 : (k : Int) < (m : Int) := by omega
          go_upto_region 6 with fail
          go_still (by kernel_rfl)
          go_upto_region 7 with fail
          refine wp_any (fun W => Below w.heap.size w W ∧ W.cell? ⟨b, o + k, none⟩ = some (.int .u64 (x : Int)) ∧ W.cell? ⟨b', o' + k, none⟩ = some (.int .u64 (y : Int))) ⟨hWr.out.drew, c0, c1⟩ ?_
          clear c0 c1
          rintro W ⟨hW, c0, c1⟩
          go_still (by kernel_rfl)
          go_wp2_with fail
          go_ret
          exact ⟨by rw [HE.out]; rfl, hW.drew⟩
  · rw [if_neg hq] at hD
    have HD := Lib.hid hD
    have hd : ((n : Int) != (m : Int)) = true := bne_iff_ne.2 (by omega)
    have HQ := Lib.hid hq
    clear hq hD
    go_enter Tryd.func34, Tryd.ntmps34
    go_wp2_with fail
    go_ret
    exact ⟨by rw [HD.out]; rfl, Below.refl _ _⟩
end Go.Proofs.YtecmgojecjenmaaDoor
