/-
  What the law WholeWords wants: rows of numbers that come in, the bytes of texts and numbers one behind the other, and what is read of them.
-/
import Derived.Test.YtanefmjjbilmiaaDoorRowArg
import Derived.Test.YtanefmjjbilmiaaDoorFrJ
namespace Go.Proofs.YtanefmjjbilmiaaDoor
open Go.ChangeShapes Go.WideShapes Go.ChangeAt Go.RowKit
set_option linter.unusedVariables false
set_option linter.unusedSimpArgs false
set_option maxRecDepth 100000
def u64R : RowT Nat := ⟨60, 56, 1, 8, fun z => [.int .u64 (z : Int)], 0⟩
theorem u64_facts : (Tryd.prog.info? 60).map (fun i => (i.zero.map (·.cells), i.size, i.bytes)) = some (some #[.int .u64 ((0 : Nat) : Int)], 1, 8) := by kernel_rfl
theorem u64_info : ∃ i v, Tryd.prog.info? 60 = some i ∧ i.zero = some v ∧ i.size = 1 ∧ i.bytes = 8 ∧ v.cells = #[.int .u64 ((0 : Nat) : Int)] := by
  obtain ⟨i, hi, hs⟩ := Option.map_eq_some_iff.1 u64_facts
  simp only [Prod.mk.injEq, Option.map_eq_some_iff] at hs
  obtain ⟨⟨v, hv, hc⟩, h1, h2⟩ := hs
  exact ⟨i, v, hi, hv, h1, h2, hc⟩
theorem u64R_ok : u64R.Ok where
  ht := Tryd.underlying56
  info := u64_info
  len := fun x => rfl
  one := fun x v hv => by
    rw [List.mem_singleton.1 hv]
    rfl
  pos := by decide
  bys := by decide
theorem wf_u64r {z : Int} (h : (Lit.int .u64 z).wf = true) : 0 ≤ z ∧ z < 18446744073709551616 := by
  simp [Lit.wf, IntKind.min, IntKind.max, IntKind.signed, IntKind.bits] at h
  omega
theorem u64s_arg {H : Type} {enc : TypeId × Value → H} {w : World} {base b0 : Nat} {spare : Nat → Bool} {held : Bool} {r : Reach} {v : Value} {d : DataW H} {p : List MemPlace}
    (hv : Value.okWide Tryd.prog w r b0 56 v) (h : DataW.Trod enc Tryd.prog w base spare held 56 v d p) : ∃ L : List Nat, RowV u64R w w.heap.size v L ∧ ∀ z ∈ L, z < 18446744073709551616 := by
  obtain ⟨s0, len, cap, rfl⟩ := okWide_slice Tryd.underlying56 hv
  obtain ⟨fuel, hf⟩ := h
  obtain ⟨s, L, c, h1, h2, h3⟩ := rowsF_trod u64R_ok (fun z => z < 18446744073709551616) (by kernel_rfl) (fun n cs d h1 h2 => by
    obtain ⟨z, e1, _, hw⟩ := DataW.trod_int Tryd.underlying60 h2
    have hz := wf_u64r hw
    obtain ⟨m, rfl⟩ : ∃ m : Nat, z = (m : Int) := ⟨z.toNat, by omega⟩
    exact ⟨m, by omega, e1⟩) hf
  simp [Value.cells] at h1
  obtain ⟨rfl, rfl, rfl⟩ := h1
  exact ⟨L, h2, h3⟩
theorem take_snoc {α : Type} (l : List α) : ∀ (i : Nat) (b : α), l[i]? = some b → l.take (i + 1) = l.take i ++ [b] := by
  induction l with
  | nil => intro i b h; simp at h
  | cons a l ih =>
    intro i b h
    cases i with
    | zero =>
      simp at h
      subst h
      simp
    | succ i =>
      simp at h
      have := ih i b h
      simp [this]
theorem drop_cons {α : Type} (l : List α) : ∀ (i : Nat) (b : α), l[i]? = some b → l.drop i = b :: l.drop (i + 1) := by
  induction l with
  | nil => intro i b h; simp at h
  | cons a l ih =>
    intro i b h
    cases i with
    | zero =>
      simp at h
      subst h
      simp
    | succ i =>
      simp at h
      have := ih i b h
      simp [this]
def txtL (ps : List (List Nat)) : List Nat := ps.flatMap fun b => countL b.length ++ b
def numsL (ns : List Nat) : List Nat := ns.flatMap fun n => countL n ++ toL n 8
theorem txtL_take (ps : List (List Nat)) (i : Nat) (b : List Nat) (h : ps[i]? = some b) : txtL (ps.take (i + 1)) = txtL (ps.take i) ++ (countL b.length ++ b) := by
  rw [take_snoc ps i b h]
  unfold txtL
  rw [List.flatMap_append]
  simp
theorem numsL_take (ns : List Nat) (i : Nat) (n : Nat) (h : ns[i]? = some n) : numsL (ns.take (i + 1)) = numsL (ns.take i) ++ (countL n ++ toL n 8) := by
  rw [take_snoc ns i n h]
  unfold numsL
  rw [List.flatMap_append]
  simp
theorem txtL_drop (ps : List (List Nat)) (i : Nat) (b : List Nat) (h : ps[i]? = some b) : txtL (ps.drop i) = countL b.length ++ b ++ txtL (ps.drop (i + 1)) := by
  rw [drop_cons ps i b h]
  rfl
theorem numsL_drop (ns : List Nat) (i : Nat) (n : Nat) (h : ns[i]? = some n) : numsL (ns.drop i) = countL n ++ toL n 8 ++ numsL (ns.drop (i + 1)) := by
  rw [drop_cons ns i n h]
  rfl
theorem txtL_len (ps : List (List Nat)) (h : ∀ b ∈ ps, b.length ≤ 500) : (txtL ps).length ≤ 509 * ps.length := by
  induction ps with
  | nil => exact Nat.le_refl _
  | cons b ps ih =>
    have h1 := ih (fun q hq => h q (List.mem_cons_of_mem _ hq))
    have h2 := h b List.mem_cons_self
    have h3 := countL_len b.length
    show ((countL b.length ++ b) ++ txtL ps).length ≤ _
    rw [List.length_append, List.length_append, List.length_cons]
    omega
theorem numsL_len (ns : List Nat) : (numsL ns).length ≤ 17 * ns.length := by
  induction ns with
  | nil => exact Nat.le_refl _
  | cons n ns ih =>
    have h3 := countL_len n
    show ((countL n ++ toL n 8) ++ numsL ns).length ≤ _
    rw [List.length_append, List.length_append, toL_length, List.length_cons]
    omega
theorem txtL_lt (ps : List (List Nat)) (h : ∀ b ∈ ps, ∀ x ∈ b, x < 256) : ∀ x ∈ txtL ps, x < 256 := fun x hx => by
  obtain ⟨b, hb, hx⟩ := List.mem_flatMap.1 hx
  rcases List.mem_append.1 hx with h1 | h1
  · exact countL_lt _ x h1
  · exact h b hb x h1
theorem numsL_lt (ns : List Nat) : ∀ x ∈ numsL ns, x < 256 := fun x hx => by
  obtain ⟨n, hn, hx⟩ := List.mem_flatMap.1 hx
  rcases List.mem_append.1 hx with h1 | h1
  · exact countL_lt _ x h1
  · exact toL_lt _ _ x h1
theorem rdText_app (b ys : List Nat) (h : b.length ≤ 500) : rdText (countL b.length ++ b ++ ys, 0) 500 = (b, (ys, 0)) := by
  unfold rdText
  rw [List.append_assoc, show (max (500 : Int) 0).toNat = 500 by decide, rdCount_fits b.length 500 (b ++ ys) (by omega) h]
  exact rdTake_app b ys 0 _ rfl
def wordsL : List Nat := [119, 111, 114, 100, 115]
theorem words_ok : WordOk wordsL := wordOk_dec _ (by decide) (by decide) (by decide)
theorem words_str : strN wordsL = ⟨#[119, 111, 114, 100, 115]⟩ := by decide +kernel
theorem encWords (D : List Nat) (s : Option Addr) (n c : Nat) (W : World) (hL : Laid W) (hb : BsV W W.heap.size (.slice s n c) D) (hl : D.length ≤ 16384) :
    Calls Tryd.prog 17 #[.agg #[.string ⟨#[119, 111, 114, 100, 115]⟩, .slice s n c]] W fun r w' => ∃ v', r = .returned (.tuple #[v', .int .i64 0]) ∧ Below W.heap.size W w' ∧ Mine w' W.heap.size v' (encL wordsL D) := by
  have h := fencode_any wordsL D s n c W hL (by decide) hb (by omega)
  rw [words_str] at h
  refine h.mono ?_
  rintro r w' ⟨v', rfl, hb', hM, _⟩
  have he := encE_of words_ok hl
  rw [he]
  exact ⟨v', rfl, hb', hM he⟩
theorem checkWords (W : World) : Calls Tryd.prog 19 #[.string ⟨#[119, 111, 114, 100, 115]⟩] W fun r w' => r = .returned (.int .i64 0) ∧ Below W.heap.size W w' := by
  have h := fcheck_any wordsL W (by decide)
  rw [words_str, wordE_ok words_ok] at h
  exact h
theorem checkNone (W : World) : Calls Tryd.prog 19 #[.string ⟨#[]⟩] W fun r w' => r = .returned (.int .i64 70) ∧ Below W.heap.size W w' := by
  have h := fcheck_any [] W (by decide)
  rw [show strN [] = ⟨#[]⟩ by decide +kernel, wordE_bad (fun h => absurd h.1 (by decide))] at h
  exact h
set_option maxHeartbeats 1000000 in
theorem wlen_any (g n : Nat) (s : Option Addr) (c : Nat) (w : World) (hG : Bk w g 58 #[.slice s n c]) :
    Calls Tryd.prog 30 #[.pointer (some ⟨g, 0, none⟩)] w fun e w' => e = .returned (.int .i64 (n : Int)) ∧ w' = w := by
  have c0 := hG.cell 0
  have f0 := hG.frozen 0
  have z0 := hG.lt
  go_enter Tryd.func30, Tryd.ntmps30
  go_wp2_with fail
  go_ret
  exact ⟨rfl, rfl⟩
structure WrInv (w wr : World) (g : Nat) (X : List Nat) : Prop where
  k : ∃ v, Bk wr g 58 #[v] ∧ Mine wr w.heap.size v X
  bel : Below w.heap.size w wr
structure RdInv (w wr : World) (p : Nat) (X : List Nat) : Prop where
  k : ∃ v, RdS wr p v (X, 0)
  bel : Below w.heap.size w wr
theorem WrInv.next {w wr W : World} {g : Nat} {X Y : List Nat} {v : Value} {e : Ending} (hg : w.heap.size ≤ g) (hM : Mine wr w.heap.size v X) (hb : Below w.heap.size w wr) (h : Wrote g w.heap.size v Y wr e W) : e = .returned (.tuple #[]) ∧ WrInv w W g Y := by
  obtain ⟨rfl, v2, K2, M2, B2, _⟩ := h
  refine ⟨rfl, ⟨v2, K2, M2⟩, hb.trans (B2.below hb.size (fun k hk => ?_))⟩
  rcases hk with rfl | hk
  · exact hg
  · exact (hM.slb_lo hk).1
theorem RdInv.next {w wr W : World} {p : Nat} {Y : List Nat} {v v' : Value} (hp : w.heap.size ≤ p) (hb : Below w.heap.size w wr) (h : Took p v (Y, 0) wr W v') : RdInv w W p Y :=
  ⟨⟨v', h.1⟩, hb.trans (h.2.1.below hb.size (fun k hk => by subst hk; exact hp))⟩
end Go.Proofs.YtanefmjjbilmiaaDoor
