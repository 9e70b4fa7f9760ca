/-
  Texts in one: TxC, BanA.
-/
import Derived.Test.YtkpffjcdalclmaaDoorZTxY
import Derived.Test.YtkpffjcdalclmaaDoorZRwB
import Derived.Deep.DrawnRows
import Derived.Shelf.Abstract
namespace Go.Proofs.YtkpffjcdalclmaaDoor
open Go.RowKit
set_option linter.unusedVariables false
set_option linter.unusedSimpArgs false
set_option maxRecDepth 100000
theorem InV.lt {w : World} {B : Nat} {x : InM} (h : InV w B x) : ∀ b ∈ inpB x, b < 256 := by
  intro b hb
  unfold inpB at hb
  simp only [List.mem_append] at hb
  obtain ⟨_, _, _, _, _, hk, _⟩ := h.2
  rcases hb with h1 | h1 | h1 | h1
  · exact x.tx.2.2 b h1
  · exact toL_lt' _ _ b h1
  · exact countL_lt _ b h1
  · exact hk b h1
theorem outB_lt (x : OutM) : ∀ b ∈ outB x, b < 256 := by
  intro b hb
  unfold outB at hb
  rcases List.mem_append.1 hb with h1 | h1
  · exact toL_lt' _ _ b h1
  · exact x.lock.2.2 b h1
theorem TxV.lt {w : World} {B : Nat} {t : TxM} (h : TxV w B t) : ∀ b ∈ txB t, b < 256 := by
  intro b hb
  unfold txB insB outsB at hb
  simp only [List.mem_append, List.mem_flatten, List.mem_map] at hb
  rcases hb with h1 | ⟨_, ⟨x, hx, rfl⟩, h1⟩ | h1 | ⟨_, ⟨x, hx, rfl⟩, h1⟩
  · exact countL_lt _ b h1
  · exact (h.2.1 x hx).lt b h1
  · exact countL_lt _ b h1
  · exact outB_lt x b h1
end Go.Proofs.YtkpffjcdalclmaaDoor
namespace Go.Proofs.YtkpffjcdalclmaaDoor
open Go.RowKit
set_option linter.unusedVariables false
set_option linter.unusedSimpArgs false
set_option maxRecDepth 100000
structure BanM where
  addr : Int
  til : Int
def bnL (x : BanM) : List Value := [.int .i64 x.addr, .int .i64 x.til]
def bnV (x : BanM) : Value := .agg (bnL x).toArray
def banR : RowT BanM := ⟨114, 76, 2, 16, bnL, ⟨0, 0⟩⟩
theorem ban_facts : (Tryd.prog.info? 114).map (fun i => (i.zero.map (·.cells), i.size, i.bytes)) = some (some #[.int .i64 0, .int .i64 0], 2, 16) := by kernel_rfl
theorem ban_info : ∃ i v, Tryd.prog.info? 114 = some i ∧ i.zero = some v ∧ i.size = 2 ∧ i.bytes = 16 ∧ v.cells = #[.int .i64 0, .int .i64 0] := by
  obtain ⟨i, hi, hs⟩ := Option.map_eq_some_iff.1 ban_facts
  simp only [Prod.mk.injEq, Option.map_eq_some_iff] at hs
  obtain ⟨⟨v, hv, hc⟩, h1, h2⟩ := hs
  exact ⟨i, v, hi, hv, h1, h2, hc⟩
theorem banR_ok : banR.Ok where
  ht := Tryd.underlying76
  info := ban_info
  len := fun x => rfl
  one := fun x v hv => by
    rcases List.mem_cons.1 hv with rfl | hv
    · rfl
    · rw [List.mem_singleton.1 hv]; rfl
  pos := by decide
  bys := by decide
theorem find1_any (x : BanM) (C : Nat) (a : Int) (w : World) (hc : w.cell? ⟨C, 0, none⟩ = some (.int .i64 a)) (hC : C < w.heap.size) :
    Calls Tryd.prog 70 #[bnV x, .pointer (some ⟨C, 0, none⟩)] w fun e w' => e = .returned (.bool (x.addr == a)) ∧ Below w.heap.size w w' := by
  unfold bnV bnL
  go_enter Tryd.func70, Tryd.ntmps70
  go_wp2_with fail
  go_ret
  exact ⟨rfl, (Below.refl _ _).alloc (Nat.le_refl _) _⟩
theorem sweep1_any (x : BanM) (C : Nat) (a : Int) (w : World) (hc : w.cell? ⟨C, 0, none⟩ = some (.int .i64 a)) (hC : C < w.heap.size) :
    Calls Tryd.prog 52 #[bnV x, .pointer (some ⟨C, 0, none⟩)] w fun e w' => e = .returned (.bool (decide (x.til ≤ a))) ∧ Below w.heap.size w w' := by
  unfold bnV bnL
  go_enter Tryd.func52, Tryd.ntmps52
  go_wp2_with fail
  go_ret
  exact ⟨rfl, (Below.refl _ _).alloc (Nat.le_refl _) _⟩
theorem ban2_any (x : BanM) (C : Nat) (a : Int) (w : World) (hc : w.cell? ⟨C, 0, none⟩ = some (.int .i64 a)) (hC : C < w.heap.size) :
    Calls Tryd.prog 50 #[bnV x, .pointer (some ⟨C, 0, none⟩)] w fun e w' => e = .returned (.bool (x.addr == a)) ∧ Below w.heap.size w w' := by
  unfold bnV bnL
  go_enter Tryd.func50, Tryd.ntmps50
  go_wp2_with fail
  go_ret
  exact ⟨rfl, (Below.refl _ _).alloc (Nat.le_refl _) _⟩
theorem nan_any (x : Int) (w : World) :
    Calls Tryd.prog 71 #[.int .i64 x] w fun e w' => e = .returned (.bool false) ∧ w' = w := by
  go_enter Tryd.func71, Tryd.ntmps71
  go_wp2_with fail
  go_ret
  exact ⟨by simp, rfl⟩
def cmpI (x y : Int) : Int := if x < y then -1 else if y < x then 1 else 0
theorem cmp_any (x y : Int) (w : World) :
    Calls Tryd.prog 48 #[.int .i64 x, .int .i64 y] w fun e w' => e = .returned (.int .i64 (cmpI x y)) ∧ w' = w := by
  have n1 := nan_any x w
  have n2 := nan_any y w
  unfold cmpI
  by_cases h1 : x < y
  · rw [if_pos h1]
    go_enter Tryd.func48, Tryd.ntmps48
    go_wp2_with fail
    refine n1.mono ?_
    rintro e w1 ⟨rfl, rfl⟩
    go_wp2_with fail
    refine n2.mono ?_
    rintro e w1 ⟨rfl, rfl⟩
    go_wp2_with fail
    go_ret
    exact ⟨rfl, rfl⟩
  · rw [if_neg h1]
    by_cases h2 : y < x
    · rw [if_pos h2]
      go_enter Tryd.func48, Tryd.ntmps48
      go_wp2_with fail
      refine n1.mono ?_
      rintro e w1 ⟨rfl, rfl⟩
      go_wp2_with fail
      refine n2.mono ?_
      rintro e w1 ⟨rfl, rfl⟩
      go_wp2_with fail
      go_ret
      exact ⟨rfl, rfl⟩
    · rw [if_neg h2]
      go_enter Tryd.func48, Tryd.ntmps48
      go_wp2_with fail
      refine n1.mono ?_
      rintro e w1 ⟨rfl, rfl⟩
      go_wp2_with fail
      refine n2.mono ?_
      rintro e w1 ⟨rfl, rfl⟩
      go_wp2_with fail
      go_ret
      exact ⟨rfl, rfl⟩
theorem ban1_any (x y : BanM) (w : World) :
    Calls Tryd.prog 47 #[bnV x, bnV y] w fun e w' => e = .returned (.int .i64 (cmpI x.til y.til)) ∧ Below w.heap.size w w' := by
  unfold bnV bnL
  go_enter Tryd.func47, Tryd.ntmps47
  go_wp2_with fail
  refine (cmp_any _ _ _).mono ?_
  rintro e w1 ⟨rfl, rfl⟩
  go_wp2_with fail
  go_ret
  exact ⟨rfl, ((Below.refl _ _).alloc (Nat.le_refl _) _).alloc (by simp) _⟩
def PredB (S : Nat → Prop) (fn : Nat) (lb : Array Value) (p : BanM → Bool) (w : World) : Prop :=
  ∀ W x, But S w W → Calls Tryd.prog fn (#[bnV x] ++ lb) W fun e w' => e = .returned (.bool (p x)) ∧ Below W.heap.size W w'
def IdxIs (p : BanM → Bool) (L : List BanM) (i : Int) : Prop := (i = -1 ∧ ∀ x ∈ L, p x = false) ∨ ∃ (k : Nat) (x : BanM), i = (k : Int) ∧ L[k]? = some x ∧ p x = true ∧ ∀ j y, j < k → L[j]? = some y → p y = false
set_option maxHeartbeats 2000000 in
theorem index_any (S : Nat → Prop) (fn : Nat) (lb : Array Value) (p : BanM → Bool) (eg : ∀ args w, (callFunc fn args).run Tryd.prog w = .ok (.enter fn args) w) (L : List BanM) (v : Value) (w : World)
    (h : RowV banR w w.heap.size v L) (hp : PredB S fn lb p w) :
    Calls Tryd.prog 69 #[v, .func (.func fn) #[] lb] w fun e w' => (∃ i, e = .returned (.int .i64 i) ∧ IdxIs p L i) ∧ Below w.heap.size w w' := by
  have h63 : L.length < 9223372036854775808 := by obtain ⟨_, _, _, h1, h2, _⟩ := h; omega
  obtain ⟨s0, c, rfl⟩ : ∃ s c, v = .slice s L.length c := h.slice
  have hrow := row_at h
  obtain ⟨n, hn⟩ : ∃ n, n = L.length := ⟨_, rfl⟩
  have HN := Lib.hid hn
  rw [← hn] at hrow h63 ⊢
  have HL := Lib.hid hrow
  have HP := Lib.hid hp
  clear hrow hn h hp
  go_enter Tryd.func69, Tryd.ntmps69
  go_wp2_with fail
  go_loopw [5, 8] (fun _ i wr => ∃ k : Nat, k ≤ n ∧ i = .int .i64 k ∧ Hid (Below w.heap.size w wr) ∧ Hid (∀ j y, j < k → L[j]? = some y → p y = false)) (fun _ i _ => n - (intOf i).toNat)
  case atStart => exact ⟨0, Nat.zero_le _, rfl, Below.refl _ _, (fun j y hj => absurd hj (Nat.not_lt_zero _))⟩
  case round =>
    obtain ⟨k, hk, rfl, HB, HA⟩ := hrel
    by_cases hlt : k < n
    · obtain ⟨x, b, o, hkx, rfl, hbw, hrg⟩ := HL.out k hlt
      have j1 : decide ((k : Int) < (n : Int)) = true := decide_eq_true (by omega)
      have hrg := rowr_below hrg HB.out hbw
      have r0 := hrg 0 _ rfl
      have r1 := hrg 1 _ rfl
      have hcall := HP.out wr x (But.of HB.out)
      have HX := Lib.hid hkx
      change wr.cell? ⟨b, o + k * 2 + 0, none⟩ = _ at r0
      change wr.cell? ⟨b, o + k * 2 + 1, none⟩ = _ at r1
      rw [Nat.add_zero] at r0
      clear hrg hbw hkx
      unfold bnV bnL at hcall
      cases hq : p x with
      | true =>
        rw [hq] at hcall
        have HQ := Lib.hid hq
        clear hq
        go_wp2_with fail
        refine hcall.mono ?_
        rintro e w' ⟨rfl, hb'⟩
        go_wp2_with fail
        go_ret
        exact ⟨⟨_, rfl, .inr ⟨k, x, rfl, HX.out, HQ.out, HA.out⟩⟩, below_step HB.out HB.out.size hb'⟩
      | false =>
        rw [hq] at hcall
        have HQ := Lib.hid hq
        clear hq
        go_wp2_with fail
        refine hcall.mono ?_
        rintro e w' ⟨rfl, hb'⟩
        go_wp2_with fail
        go_roundw
        case rel =>
          refine ⟨k + 1, by omega, by simp, below_step HB.out HB.out.size hb', (show ∀ j y, _ → _ → _ from fun j y hj hy => ?_)⟩
          by_cases e : j = k
          · subst e
            rw [HX.out] at hy
            cases hy
            exact HQ.out
          · exact HA.out j y (by omega) hy
        case measure => simp [intOf]; omega
    · have j1 : decide ((k : Int) < (n : Int)) = false := decide_eq_false (by omega)
      go_wp2_with fail
      go_ret
      refine ⟨⟨_, rfl, .inl ⟨rfl, fun x hx => ?_⟩⟩, HB.out⟩
      obtain ⟨j, hj, e⟩ := List.getElem_of_mem hx
      have hn := HN.out
      exact HA.out j x (by omega) (by rw [List.getElem?_eq_getElem hj, e])
end Go.Proofs.YtkpffjcdalclmaaDoor
