/-
  Package trace's laws: peers as they should be; names without some.
-/
import Derived.Test.YtcedljfdnbenoaaTrL
import Derived.Laws.ResultCell
namespace Go.Proofs.Ytcedljfdnbenoaa
open Go.RowKit
set_option linter.unusedVariables false
set_option linter.unusedSimpArgs false
set_option maxRecDepth 100000

/-- A peer as it should be. -/
structure OneP where
  id : Int
  v : Bool
  a : Bool
  t : Bool
  r : Bool
  ak : List Nat
structure OneM where
  p : OneP
  s : Option Addr
  c : Nat
def OneM.sv (o : OneM) : Value := .slice o.s o.p.ak.length o.c
def onL (o : OneM) : List Value := [.int .i64 o.p.id, .bool o.p.v, .bool o.p.a, .bool o.p.t, .bool o.p.r, o.sv]
def on0 : OneM := ⟨⟨0, false, false, false, false, []⟩, none, 0⟩
def onR : RowT OneM := ⟨60, 56, 6, 40, onL, on0⟩
theorem on_facts : (Try.prog.info? 60).map (fun i => (i.zero.map (·.cells), i.size, i.bytes)) = some (some (onL on0).toArray, 6, 40) := by kernel_rfl
theorem on_info : ∃ i v, Try.prog.info? 60 = some i ∧ i.zero = some v ∧ i.size = 6 ∧ i.bytes = 40 ∧ v.cells = (onL on0).toArray := by
  obtain ⟨i, hi, hs⟩ := Option.map_eq_some_iff.1 on_facts
  simp only [Prod.mk.injEq, Option.map_eq_some_iff] at hs
  obtain ⟨⟨v, hv, hc⟩, h1, h2⟩ := hs
  exact ⟨i, v, hi, hv, h1, h2, hc⟩
theorem onL_one (o : OneM) : ∀ v ∈ onL o, v.oneCell' = true := fun v hv => by
  simp only [onL, List.mem_cons, List.not_mem_nil, or_false] at hv
  rcases hv with rfl | rfl | rfl | rfl | rfl | rfl <;> rfl
theorem onR_ok : onR.Ok where
  ht := Try.underlying56
  info := on_info
  len := fun x => rfl
  one := onL_one
  pos := by decide
  bys := by decide
theorem on_size : (Try.prog.info? 60).map (·.size) = some 6 := by kernel_rfl
theorem on_ret {P : Func} {a : Act} {W : World} {g nm k : Nat} {A : Array Value} {v : Value} (hp : P.results = #[ResultVar.cell nm 60, ResultVar.tmp k]) (hd : a.defers = []) (hv : a.tmps.getD nm undef = .pointer (some ⟨g, 0, none⟩)) (hk : a.tmps.getD k undef = v) (hs : A.size = 6) (hR : Bk W g 60 A) {K : Ending → World → Prop} (hK : K (.returned (.tuple #[.agg A, v])) W) :
    bodyPost Try.prog P K Exit.ret a W := by
  have h1 := run_loadVar_row (P := Try.prog) W g 60 60 A (0, 0) _ hR Try.underlying60 rfl (by rw [hs]; exact on_size)
  refine bodyPost_ret (v := .tuple #[.agg A, v]) ?_ hd hK
  rw [results_cell_tmp hp, hv, hk]
  show ((asAddr (.pointer (some ⟨g, 0, none⟩))).run Try.prog W).andThen _ = _
  simp only [asAddr, Sem.run_pure, Result.andThen_ok, h1]
set_option maxHeartbeats 8000000 in
theorem without_any (l gone : List Nat) (vl vg : Value) (w : World) (hl : RowV byR w w.heap.size vl l) (hg : RowV byR w w.heap.size vg gone) (h63 : l.length ≤ 1000000) :
    Calls Try.prog 15 #[vl, vg] w fun e w' => ∃ v, e = .returned v ∧ MineR byR w' w.heap.size v (l.filter fun x => !decide (x ∈ gone)) ∧ Below w.heap.size w w' := by
  obtain ⟨s0, c, rfl⟩ : ∃ s c, vl = .slice s l.length c := hl.slice
  have hrow := byR_cell hl
  obtain ⟨n, hn⟩ : ∃ n, n = l.length := ⟨_, rfl⟩
  rw [← hn] at hrow h63 ⊢
  have HL := Lib.hid hrow
  have HN := Lib.hid hn
  have HG := Lib.hid hg
  clear hrow hn hl hg
  go_enter Try.func15, Try.ntmps15
  go_wp2_with fail
  go_loopw [5, 10] (fun v i wr => ∃ (k : Nat) (vi : Value), k ≤ n ∧ v = vi ∧ i = .int .i64 k ∧ Hid (MineR byR wr w.heap.size vi ((l.take k).filter fun x => !decide (x ∈ gone))) ∧ Hid (Below w.heap.size w wr)) (fun _ i _ => n - (intOf i).toNat)
  case atStart => exact ⟨0, _, Nat.zero_le _, rfl, rfl, .inl ⟨rfl, rfl⟩, Below.refl _ _⟩
  case round =>
    obtain ⟨k, vi, hk, rfl, rfl, HM, HB⟩ := hrel
    by_cases hlt : k < n
    · obtain ⟨x, b, o, hkx, rfl, hbw, hcx⟩ := HL.out k hlt
      have j1 : decide ((k : Int) < (n : Int)) = true := decide_eq_true (by omega)
      have hcx : wr.cell? ⟨b, o + k, none⟩ = some (.int .u8 (x : Int)) := (HB.out.cell (p := ⟨b, o + k, none⟩) hbw).trans hcx
      have hbr : b < wr.heap.size := Nat.lt_of_lt_of_le hbw HB.out.size
      have hTK : l.take (k + 1) = l.take k ++ [x] := by
        rw [List.take_add_one, hkx]
        rfl
      have hhas := has_any gone x vg wr ((HG.out.keep HB.out (Nat.le_refl _)).mono HB.out.size)
      by_cases hin : x ∈ gone
      · rw [decide_eq_true hin] at hhas
        have HM' : Hid (MineR byR wr w.heap.size u5 ((l.take (k + 1)).filter fun x => !decide (x ∈ gone))) := by
          show MineR _ _ _ _ _
          rw [hTK, List.filter_append, List.filter_cons_of_neg (by simp [hin]), List.filter_nil, List.append_nil]
          exact HM.out
        clear hTK hkx hin HM
        go_wp2_with fail
        refine hhas.mono ?_
        rintro e w5 ⟨rfl, rfl⟩
        clear hhas
        go_wp2_with fail
        go_roundw
        case rel => exact ⟨k + 1, u5, by omega, rfl, by go_num, HM', HB⟩
        case measure => simp [intOf]; omega
      · rw [decide_eq_false hin] at hhas
        have hal : Below wr.heap.size wr (wr.alloc (.cells #[.int .u8 (x : Int)] 5)) := (Below.refl _ _).alloc (Nat.le_refl _) _
        have hlen := List.length_filter_le (fun x => !decide (x ∈ gone)) (l.take k)
        rw [List.length_take] at hlen
        obtain ⟨v', W5, hrun, hM5, hb5, hs5⟩ := appR byR_ok ((l.take k).filter fun x => !decide (x ∈ gone)) [x] u5 (.slice (some ⟨wr.heap.size, 0, none⟩) 1 1) w.heap.size (wr.alloc (.cells #[.int .u8 (x : Int)] 5)) (HM.out.keep hal) (Nat.le_trans HB.out.size hal.size) (one_rowR byR_ok (Bk.new _ _ _)) (by simp; omega)
        change (Builtin.append_ #[48, 48] 48 #[u5, .slice (some ⟨wr.heap.size, 0, none⟩) 1 1]).run Try.prog _ = _ at hrun
        have HM' : Hid (MineR byR W5 w.heap.size v' ((l.take (k + 1)).filter fun x => !decide (x ∈ gone))) := by
          show MineR _ _ _ _ _
          rw [hTK, List.filter_append, List.filter_cons_of_pos (by simp [hin]), List.filter_nil]
          exact hM5
        have HB' : Hid (Below w.heap.size w W5) := (HB.out.trans (hal.mono HB.out.size)).trans (hb5.below (Nat.le_trans HB.out.size hal.size) (fun q hq => (HM.out.slb_lo hq).1))
        clear hTK hkx hin HM hal hlen hM5 hb5 hs5 HB
        go_wp2_with fail
        refine hhas.mono ?_
        rintro e w5 ⟨rfl, rfl⟩
        clear hhas
        go_wp2_with (at_builtin; refine wpList_ap 48 rfl (.tmp 18) (.tmp 20) rfl rfl rfl rfl hrun ?_)
        go_roundw
        case rel => exact ⟨k + 1, v', by omega, rfl, by go_num, HM', HB'⟩
        case measure => simp [intOf]; omega
    · obtain rfl : k = n := by omega
      have j1 : decide ((k : Int) < (k : Int)) = false := decide_eq_false (by omega)
      have HM' : Hid (MineR byR wr w.heap.size u5 (l.filter fun x => !decide (x ∈ gone))) := by
        have := HM.out
        rw [HN.out, List.take_length] at this
        exact this
      clear hlt HM
      go_wp2_with fail
      go_ret
      exact ⟨_, rfl, HM'.out, HB.out⟩
end Go.Proofs.Ytcedljfdnbenoaa
