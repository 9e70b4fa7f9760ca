/-
  What is proved: for every list of numbers the law NumMany returns true, and its argument reads behind the call as it read before it. No condition.
-/
import Derived.Test.YtecbecngdbjagabManyW
import Derived.Deep.Slices
namespace Go.Proofs.Ytecbecngdbjagab.numMany
open Go.ChangeShapes Go.WideShapes Go.ChangeAt Go.RowKit
open Go.Deep (open_slice choose_lt)
set_option linter.unusedVariables false

set_option maxRecDepth 100000 in
set_option maxHeartbeats 600000 in
theorem walk_big (a : Addr) (len cap : Nat) (w : World) (h : 50 < len) :
    Calls Try.prog 3 #[.slice (some a) len cap] w fun e w' => e = .returned (.bool true) ∧ Below w.heap.size w w' := by
  have hz : (50 : Int) < (len : Int) := by omega
  go_enter Try.func3, Try.ntmps3
  go_wp2_with fail
  refine (counts_any _).mono ?_
  rintro e w1 ⟨rfl, hb1⟩
  go_wp2_with fail
  go_ret
  exact ⟨rfl, hb1⟩

set_option maxRecDepth 100000 in
set_option maxHeartbeats 600000 in
theorem add_none (s : Option Addr) (cap : Nat) (w : World) :
    Calls Try.prog 7 #[.slice s 0 cap] w fun e w' => e = .returned (.tuple #[I4 0 0 0 0, .bool false]) ∧ Below w.heap.size w w' := by
  go_enter Try.func7, Try.ntmps7
  go_wp2
  refine wp_loop_rounds 1 ?_
  rw [rounds_succ]
  go_wp2
  refine bodyPost_ret (v := .tuple #[I4 0 0 0 0, .bool false]) (by simp [results, Try.results7, go_sem]) rfl ⟨rfl, ?_⟩
  first
  | exact Below.set4 (g := w.heap.size) (((Below.refl _ _).alloc (Nat.le_refl _) _).alloc (by simp) _) (Nat.le_refl _) _ _ _ _
  | exact ((Below.refl _ _).alloc (Nat.le_refl _) _).alloc (by simp) _
  | exact (((Below.refl _ _).alloc (Nat.le_refl _) _).alloc (by simp) _).alloc (by simp; omega) _

set_option maxRecDepth 100000 in
set_option maxHeartbeats 600000 in
theorem walk_none (s : Option Addr) (cap : Nat) (w : World) :
    Calls Try.prog 3 #[.slice s 0 cap] w fun e w' => e = .returned (.bool true) ∧ Below w.heap.size w w' := by
  have he := nv_eql 0 0 M256_pos M256_pos
  rw [nv_zero] at he
  simp only [decide_true] at he
  go_enter Try.func3, Try.ntmps3
  go_wp2_with fail
  refine (counts_any _).mono ?_
  rintro e w1 ⟨rfl, hb1⟩
  go_wp2_with fail
  refine (add_none s cap _).mono ?_
  rintro e w2 ⟨rfl, hb2⟩
  have hW := below_step hb1 hb1.size hb2
  have hz := hW.size
  clear hb1 hb2
  go_wp2_with fail
  refine wp_loop_rounds 1 ?_
  rw [rounds_succ]
  go_wp2_with fail
  go_ret
  exact ⟨by simp, ((hW.alloc (by omega) _).alloc (by simp; omega) _).alloc (by simp; omega) _⟩

section
variable {H : Type} {enc : TypeId × Value → H} {P : Program} {w : World} {base : Nat} {spare : Nat → Bool} {held : Bool}
theorem words_of_trod {t e : TypeId} {f : Nat} {cs : List Value} {d : DataW H} {p : List MemPlace} (ht : P.underlying t = some (.array 4 e)) (he : P.underlying e = some (.int .u64)) (hce : P.cellsOf e = 1)
    (hlen : cs.length = 4) (h : DataW.trod enc P w base spare held f t cs = some (d, p)) :
    ∃ a, a < M256 ∧ cs = [.int .u64 (wd0 a : Int), .int .u64 (wd1 a : Int), .int .u64 (wd2 a : Int), .int .u64 (wd3 a : Int)] := by
  obtain ⟨xs, m, _, _, hcl, hxl, hi⟩ := DataW.trod_array ht h
  have hz : ∀ i, i < 4 → ∃ z, cs[i]? = some (.int .u64 z) ∧ (Lit.int .u64 z).wf = true := by
    intro i hin
    have h1 := hi i hin
    rw [hce, List.getElem?_eq_getElem (by omega)] at h1
    obtain ⟨z, e1, _, hw⟩ := DataW.trod_int he h1
    refine ⟨z, ?_, hw⟩
    have hl : i < cs.length := by omega
    simp only [Nat.mul_one] at e1
    rw [List.drop_eq_getElem_cons hl] at e1
    simp only [List.take_succ_cons, List.take_zero, List.cons.injEq, and_true] at e1
    rw [List.getElem?_eq_getElem hl]
    simpa using e1
  match cs, hlen, hz with
  | [c0, c1, c2, c3], _, hz =>
    obtain ⟨z0, e0, q0⟩ := hz 0 (by omega)
    obtain ⟨z1, e1, q1⟩ := hz 1 (by omega)
    obtain ⟨z2, e2, q2⟩ := hz 2 (by omega)
    obtain ⟨z3, e3, q3⟩ := hz 3 (by omega)
    obtain rfl : c0 = .int .u64 z0 := Option.some.inj (show some c0 = some (Value.int .u64 z0) from e0)
    obtain rfl : c1 = .int .u64 z1 := Option.some.inj (show some c1 = some (Value.int .u64 z1) from e1)
    obtain rfl : c2 = .int .u64 z2 := Option.some.inj (show some c2 = some (Value.int .u64 z2) from e2)
    obtain rfl : c3 = .int .u64 z3 := Option.some.inj (show some c3 = some (Value.int .u64 z3) from e3)
    obtain ⟨a, ha, ea⟩ := num_of_words (zs := [z0, z1, z2, z3]) rfl (by intro z hz; simp at hz; rcases hz with rfl | rfl | rfl | rfl <;> assumption)
    refine ⟨a, ha, ?_⟩
    have : (Value.agg #[Value.int .u64 z0, Value.int .u64 z1, Value.int .u64 z2, Value.int .u64 z3]) = .agg (A4 (wd0 a) (wd1 a) (wd2 a) (wd3 a)) := ea
    exact congrArg Array.toList (Value.agg.inj this)
end

theorem walk_arg {H : Type} {enc : TypeId × Value → H} {w : World} {base b0 : Nat} {spare : Nat → Bool} {held : Bool} {r : Reach} {v : Value} {d : DataW H} {p : List MemPlace}
    (hv : Value.okWide Try.prog w r b0 22 v) (h : DataW.Trod enc Try.prog w base spare held 22 v d p) :
    Calls Try.prog 3 #[v] w fun e w' => e = .returned (.bool true) ∧ Below w.heap.size w w' := by
  obtain ⟨s, len, cap, rfl⟩ := okWide_slice Try.underlying22 hv
  obtain ⟨f, hf⟩ := h
  rcases open_slice Try.underlying22 hf with ⟨hcs, _⟩ | ⟨a, len', cap', m, n, D, Pl, hcs, _, hlc, _, hm, _, hx⟩
  · simp [Value.cells] at hcs
    obtain ⟨rfl, rfl, rfl⟩ := hcs
    exact walk_none _ _ _
  · simp [Value.cells] at hcs
    obtain ⟨rfl, rfl, rfl⟩ := hcs
    rcases Nat.lt_or_ge 50 len with hb | hb
    · exact walk_big _ _ _ _ hb
    rcases Nat.eq_zero_or_pos len with h0 | hpos
    · subst h0; exact walk_none _ _ _
    have hlm : len ≤ m := by rw [hm]; split <;> omega
    have hce : Try.prog.cellsOf 26 = 4 := by kernel_rfl
    have hk : ∀ i, i < len → ∃ y, y < M256 ∧ w.cell? ((a.add (i * 4)).add 0) = some (.int .u64 (wd0 y : Int)) ∧ w.cell? ((a.add (i * 4)).add 1) = some (.int .u64 (wd1 y : Int)) ∧ w.cell? ((a.add (i * 4)).add 2) = some (.int .u64 (wd2 y : Int)) ∧ w.cell? ((a.add (i * 4)).add 3) = some (.int .u64 (wd3 y : Int)) := by
      intro i hi
      obtain ⟨cs, hc, ht⟩ := hx i (by omega)
      rw [hce] at hc
      obtain ⟨_, hl, hcell⟩ := World.cells?_some hc
      obtain ⟨y, hy, rfl⟩ := words_of_trod Try.underlying26 Try.underlying24 (by kernel_rfl) hl ht
      exact ⟨y, hy, hcell 0 (by omega), hcell 1 (by omega), hcell 2 (by omega), hcell 3 (by omega)⟩
    obtain ⟨g, hg⟩ := choose_lt hk
    obtain ⟨b, off, spot⟩ := a
    have hspot : spot = none := by simpa [Addr.add] using World.cell?_spot (hg 0 hpos).2.1
    subst hspot
    have hlen : ((List.range len).map g).length = len := by simp
    have hwalk := walk_inn ((List.range len).map g) b off cap w (by rw [hlen]; exact hb) (by
        intro x hx
        simp only [List.mem_map, List.mem_range] at hx
        obtain ⟨i, hi, rfl⟩ := hx
        exact (hg i hi).1) (by
        intro k x hx
        have hkl : k < len := by
          have := (List.getElem?_eq_some_iff.mp hx).1
          simpa using this
        have hxe : x = g k := by
          simp [hkl] at hx
          exact hx.symm
        subst hxe
        obtain ⟨_, h0, h1, h2, h3⟩ := hg k hkl
        simp only [Go.WideShapes.add_plain, Nat.add_zero] at h0 h1 h2 h3
        exact ⟨h0, h1, h2, h3⟩) (block_lt_of_cell (a := ⟨b, _, none⟩) (by have := (hg 0 hpos).2.1; simpa [Go.WideShapes.add_plain] using this))
    rw [hlen] at hwalk
    exact hwalk

set_option maxRecDepth 100000 in
theorem lifted (os : Os) (started : os.Started) (H : Type) (enc : TypeId × Value → H) :
    ReturnsInHanded {} Try.checked os 3 .any (Rows.numManySpec.pre6 enc Try.prog Try.f3 Rows.numManyRow.domain false) (Rows.numManySpec.post enc Try.prog Try.f3 false true false false) := by
  refine returnsInHanded_of_change (C := Try.checked) own started (by kernel_rfl) Try.func3
    (ChangeSpec.witness6 (enc := enc) (C := Try.checked) false ⟨#[], #[.slice none 0 0], []⟩ 8 (by kernel_rfl) (by kernel_rfl) (by kernel_rfl) (by kernel_rfl)) ?_
  intro W base args ds gs before hval0 hW hcnd _
  have hval : ∀ (j : Nat) t v, Try.f3.params[j]? = some t → args[j]? = some v → Value.okWide Try.prog W .any base t v := hval0
  have hW' := hW
  obtain ⟨p, q, hA0, hV, rfl, hfz, hnd⟩ := hW
  have hA : DataW.TrodAll enc Try.prog W 0 (fun _ => true) true Try.f3.params.toList args.toList ds p := hA0
  rw [Try.params3] at hA hval
  obtain ⟨v0, vs0, d0, ds0, p0, q0, hargs, rfl, rfl, h0, r0⟩ := trodAll_cons hA
  obtain ⟨rfl, rfl, rfl⟩ := trodAll_nil r0
  obtain rfl : args = #[v0] := by cases args; simp_all
  obtain ⟨rfl, rfl⟩ := trodVars_none hV
  have lt0 : ∀ x ∈ p0, x.block < W.heap.size := by obtain ⟨m, hm⟩ := h0; exact DataW.trod_lt m _ _ _ hm
  have hwalk := walk_arg (hval 0 22 v0 rfl rfl) h0
  clear hA0 hval0
  refine hwalk.mono fun e W' ⟨he, bel⟩ => ?_
  subst he
  exact ⟨_, rfl, _, _, _, [], _, [], hW', trodAll_mk1 (shut_bool Try.underlying4 _), (trodAll_cons_mk (Below.trod laidOut (by kernel_rfl) (of_decide_eq_true (by kernel_rfl)) h0 bel lt0) trodAll_mk0), rfl, bel.frame _, fun h => by cases h⟩

theorem over : Rows.numManyRow.holds Try.pinned (OpenSpec.ofChange Rows.numManySpec) :=
  OpenClaim.holds_of_wide 3 Try.f3 rfl rfl rfl rfl rfl rfl rfl ⟨rfl, rfl, rfl, rfl, rfl⟩ rfl rfl rfl rfl rfl (by kernel_rfl) Try.func3 (by kernel_rfl)
    (of_decide_eq_true (by kernel_rfl)) (by unfold Func.isWrapper; first | (rw [if_pos (by decide +kernel)]; kernel_rfl) | (rw [if_neg (by decide +kernel)]; exact ⟨rfl, rfl⟩))
    (fun os started H enc _ => lifted os started H enc)

theorem proved : Rows.NumManySaid := over
#print axioms proved
end Go.Proofs.Ytecbecngdbjagab.numMany
