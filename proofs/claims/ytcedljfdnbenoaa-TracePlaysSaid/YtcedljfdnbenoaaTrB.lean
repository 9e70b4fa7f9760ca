/-
  Package trace: a book as it lies in memory; how many peers there are, and what one is asked for.
-/
import Derived.Test.YtcedljfdnbenoaaTrA
namespace Go.Proofs.Ytcedljfdnbenoaa
open Go.RowKit
open Go.Maps (Keyed IsMap)
set_option linter.unusedVariables false
set_option linter.unusedSimpArgs false
set_option maxRecDepth 100000

/-- Operations whose outcome is known. -/
theorem wpList_lk {ops : Array Oper} {rest : List Oper} {o : Oper} {a : Act} {w : World} {Q : Exit → Act → World → Prop} {M X V : Value} {c : Bool} (hg : o.guard = none) (m x : Operand) (t : TypeId) (hop : o.op = Op.lookup t m x c)
    (hm : a.eval m = M) (hx : a.eval x = X) (hrun : (Instr.lookup t M X c).run Try.prog w = .ok V w) (hK : wpList Try.prog ops Q rest (a.put o.dst V) w) : wpList Try.prog ops Q (o :: rest) a w := by
  refine wpList_plain hg fun K' hK' => ?_
  unfold Oper.wp
  simp [execOp, hop, hm, hx, hrun, Result.andThen]
  exact hK' _ _ hK
theorem wpList_mu {ops : Array Oper} {rest : List Oper} {o : Oper} {a : Act} {w W : World} {Q : Exit → Act → World → Prop} {M X V : Value} (hg : o.guard = none) (m x v : Operand) (t : TypeId) (hop : o.op = Op.mapUpdate t m x v)
    (hm : a.eval m = M) (hx : a.eval x = X) (hv : a.eval v = V) (hrun : (Instr.mapUpdate t M X V).run Try.prog w = .ok () W) (hK : wpList Try.prog ops Q rest (a.put o.dst undef) W) : wpList Try.prog ops Q (o :: rest) a w := by
  refine wpList_plain hg fun K' hK' => ?_
  unfold Oper.wp
  simp [execOp, hop, hm, hx, hv, hrun, Result.andThen]
  exact hK' _ _ hK
theorem wpList_dl {ops : Array Oper} {rest : List Oper} {o : Oper} {a : Act} {w W : World} {Q : Exit → Act → World → Prop} {M X V : Value} (hg : o.guard = none) (m x : Operand) (t k : TypeId)
    (hop : o.op = Op.call { callee := Callee.builtin Builtin.delete, args := #[m, x], argTypes := #[t, k] })
    (hm : a.eval m = M) (hx : a.eval x = X) (hrun : (Builtin.delete_ #[t, k] o.type #[M, X]).run Try.prog w = .ok V W) (hK : wpList Try.prog ops Q rest (a.put o.dst V) W) : wpList Try.prog ops Q (o :: rest) a w := by
  refine wpList_plain hg fun K' hK' => ?_
  unfold Oper.wp
  simp [execOp, hop, resolve, invoke, builtin, hm, hx, hrun, Result.andThen]
  exact hK' _ _ hK
theorem wpList_ln {ops : Array Oper} {rest : List Oper} {o : Oper} {a : Act} {w W : World} {Q : Exit → Act → World → Prop} {M V : Value} (hg : o.guard = none) (m : Operand) (t : TypeId)
    (hop : o.op = Op.call { callee := Callee.builtin Builtin.len, args := #[m], argTypes := #[t] })
    (hm : a.eval m = M) (hrun : (Builtin.len_ #[t] o.type #[M]).run Try.prog w = .ok V W) (hK : wpList Try.prog ops Q rest (a.put o.dst V) W) : wpList Try.prog ops Q (o :: rest) a w := by
  refine wpList_plain hg fun K' hK' => ?_
  unfold Oper.wp
  simp [execOp, hop, resolve, invoke, builtin, hm, hrun, Result.andThen]
  exact hK' _ _ hK
theorem wpList_rg {ops : Array Oper} {rest : List Oper} {o : Oper} {a : Act} {w W : World} {Q : Exit → Act → World → Prop} {M V : Value} (hg : o.guard = none) (m : Operand) (t : TypeId) (hop : o.op = Op.range t m)
    (hm : a.eval m = M) (hrun : (Instr.range t M).run Try.prog w = .ok V W) (hK : wpList Try.prog ops Q rest (a.put o.dst V) W) : wpList Try.prog ops Q (o :: rest) a w := by
  refine wpList_plain hg fun K' hK' => ?_
  unfold Oper.wp
  simp [execOp, hop, hm, hrun, Result.andThen]
  exact hK' _ _ hK
theorem wpList_nx {ops : Array Oper} {rest : List Oper} {o : Oper} {a : Act} {w W : World} {Q : Exit → Act → World → Prop} {M V : Value} (hg : o.guard = none) (m : Operand) (hop : o.op = Op.next m false)
    (hm : a.eval m = M) (hrun : (Instr.next M false o.type).run Try.prog w = .ok V W) (hK : wpList Try.prog ops Q rest (a.put o.dst V) W) : wpList Try.prog ops Q (o :: rest) a w := by
  refine wpList_plain hg fun K' hK' => ?_
  unfold Oper.wp
  simp [execOp, hop, hm, hrun, Result.andThen]
  exact hK' _ _ hK

/-- What of a greeting was heard, and said: a version, a verack. -/
structure TkM where
  h1 : Bool
  h2 : Bool
  s1 : Bool
  s2 : Bool
def tk0 : TkM := ⟨false, false, false, false⟩
def tkC (k : TkM) : Array Value := #[.bool false, .bool k.h1, .bool k.h2, .bool false, .bool k.s1, .bool k.s2]
/-- A book: peers, how many; who is asked for a block; for what each is asked. -/
structure BkM where
  T : Int → Option TkM
  n : Nat
  A : I32 → Option Int
  L : Int → List I32
def bk0 : BkM := ⟨fun _ => none, 0, fun _ => none, fun _ => []⟩
def bkP (g : Nat) : Value := .pointer (some ⟨g, 0, none⟩)
structure BkJ (w : World) (S : Nat → Prop) (g : Nat) (M : BkM) (tv av : Value) (sz : Nat) (P : Int → Nat) : Prop where
  G : Bk w g 27 #[tv, av]
  sg : S g
  mt : MapV tkE w tv M.n (fun i => (M.T i).map fun _ => P i)
  ma : MapV akE w av sz M.A
  st : ∀ k, tv = .map (some k) → S k
  sa : ∀ k, av = .map (some k) → S k
  ne : ∀ k, tv = .map (some k) → av ≠ .map (some k)
  nn : tv = .map none ↔ av = .map none
  hA : ∀ x j, M.A x = some j ↔ x ∈ M.L j
  nd : ∀ j, (M.L j).Nodup
  tk : ∀ i k, M.T i = some k → S (P i) ∧ Bk w (P i) 71 (tkC k)
  tj : ∀ i j k k', M.T i = some k → M.T j = some k' → P i = P j → i = j
def BkI (w : World) (S : Nat → Prop) (g N : Nat) (M : BkM) : Prop := ∃ tv av sz P, sz ≤ N ∧ BkJ w S g M tv av sz P
theorem mapV_nil {κ β : Type} {E : MpT κ β} (w : World) : MapV E w (.map none) 0 (fun _ => none) := .inl ⟨rfl, rfl, fun _ => rfl⟩
theorem bk_new (w : World) (N : Nat) : BkI (w.alloc (.cells #[.map none, .map none] 27)) (fun k => k = w.heap.size) w.heap.size N bk0 :=
  ⟨_, _, 0, fun _ => 0, Nat.zero_le _, Bk.new _ _ _, rfl, mapV_nil _, mapV_nil _, fun k h => (by cases h), fun k h => (by cases h), fun k h => (by cases h), Iff.rfl, fun x j => ⟨fun h => (by cases h), fun h => (by cases h)⟩, fun j => List.Pairwise.nil, fun i k h => (by cases h), fun i j k k' h => (by cases h)⟩
theorem BkJ.but {w w' : World} {S S' : Nat → Prop} {g : Nat} {M : BkM} {tv av : Value} {sz : Nat} {P : Int → Nat} (h : BkJ w S g M tv av sz P) (hb : But S' w w') (hs : ∀ k, k < w.heap.size → S k → ¬ S' k) : BkJ w' S g M tv av sz P where
  G := hb.keep h.G (hs g h.G.lt h.sg)
  sg := h.sg
  mt := h.mt.but hb (fun k e => by
    rcases h.mt with ⟨e', _⟩ | ⟨b, e', hm⟩
    · rw [e'] at e; cases e
    · rw [e'] at e; cases e
      exact hs _ hm.lt (h.st _ e'))
  ma := h.ma.but hb (fun k e => by
    rcases h.ma with ⟨e', _⟩ | ⟨b, e', hm⟩
    · rw [e'] at e; cases e
    · rw [e'] at e; cases e
      exact hs _ hm.lt (h.sa _ e'))
  st := h.st
  sa := h.sa
  ne := h.ne
  nn := h.nn
  hA := h.hA
  nd := h.nd
  tk := fun i k e => ⟨(h.tk i k e).1, hb.keep (h.tk i k e).2 (hs _ (h.tk i k e).2.lt (h.tk i k e).1)⟩
  tj := h.tj
theorem BkJ.keep {w w' : World} {S : Nat → Prop} {g : Nat} {M : BkM} {tv av : Value} {sz : Nat} {P : Int → Nat} (h : BkJ w S g M tv av sz P) (hb : Below w.heap.size w w') : BkJ w' S g M tv av sz P :=
  h.but (But.of (S := fun _ => False) hb) (fun _ _ _ h => h)
theorem BkI.but {w w' : World} {S S' : Nat → Prop} {g N : Nat} {M : BkM} (h : BkI w S g N M) (hb : But S' w w') (hs : ∀ k, k < w.heap.size → S k → ¬ S' k) : BkI w' S g N M := by
  obtain ⟨tv, av, sz, P, h1, h⟩ := h
  exact ⟨tv, av, sz, P, h1, h.but hb hs⟩
theorem BkI.keep {w w' : World} {S : Nat → Prop} {g N : Nat} {M : BkM} (h : BkI w S g N M) (hb : Below w.heap.size w w') : BkI w' S g N M := by
  obtain ⟨tv, av, sz, P, h1, h⟩ := h
  exact ⟨tv, av, sz, P, h1, h.keep hb⟩
theorem BkI.lt {w : World} {S : Nat → Prop} {g N : Nat} {M : BkM} (h : BkI w S g N M) : g < w.heap.size := by
  obtain ⟨tv, av, sz, P, h1, h⟩ := h
  exact h.G.lt
theorem BkI.mono {w : World} {S : Nat → Prop} {g N N' : Nat} {M : BkM} (h : BkI w S g N M) (hN : N ≤ N') : BkI w S g N' M := by
  obtain ⟨tv, av, sz, P, h1, h⟩ := h
  exact ⟨tv, av, sz, P, Nat.le_trans h1 hN, h⟩
/-- The book goes on. -/
def Goes (S : Nat → Prop) (w : World) (g N : Nat) (M : BkM) (w' : World) : Prop := ∃ S', BkI w' S' g N M ∧ (∀ k, S' k → S k ∨ w.heap.size ≤ k) ∧ But S w w'
theorem Goes.stay {S : Nat → Prop} {w w' : World} {g N : Nat} {M : BkM} (h : BkI w S g N M) (hb : Below w.heap.size w w') : Goes S w g N M w' := ⟨S, h.keep hb, fun k hk => .inl hk, But.of hb⟩

theorem len_any {w : World} {S : Nat → Prop} {g N : Nat} {M : BkM} (h : BkI w S g N M) :
    Calls Try.prog 11 #[bkP g] w fun e w' => e = .returned (.int .i64 (M.n : Int)) ∧ w' = w := by
  obtain ⟨tv, av, sz, P, h1, h⟩ := h
  have c0 : w.cell? ⟨g, 0, none⟩ = some tv := h.G.cell 0
  have hl : (Builtin.len_ #[24] 3 #[tv]).run Try.prog w = _ := h.mt.len tkE_ok 3
  unfold bkP
  clear h
  go_enter Try.func11, Try.ntmps11
  go_wp2_with (first | (at_len; refine wpList_ln rfl _ _ rfl rfl hl ?_) | go_in)
  go_ret
  exact ⟨rfl, rfl⟩
/-- How many are left of what one is asked for. -/
theorem filter_step {L : List I32} (hn : L.Nodup) {p : I32 → Bool} {x : I32} (hp : p x = true) : (L.filter fun z => p z && !decide (z = x)).length + (if x ∈ L then 1 else 0) = (L.filter p).length := by
  induction L with
  | nil => rfl
  | cons y r ih =>
    obtain ⟨h1, h2⟩ := List.nodup_cons.1 hn
    have ih := ih h2
    by_cases e : y = x
    · subst e
      rw [if_neg h1] at ih
      rw [if_pos List.mem_cons_self, List.filter_cons_of_neg (by simp), List.filter_cons_of_pos (by exact hp), List.length_cons]
      omega
    · have hm : x ∈ y :: r ↔ x ∈ r := by
        constructor
        · intro h
          rcases List.mem_cons.1 h with h | h
          · exact absurd h.symm e
          · exact h
        · exact List.mem_cons_of_mem _
      have hi : (if x ∈ y :: r then 1 else 0) = (if x ∈ r then 1 else 0) := by simp only [hm]
      rw [hi]
      cases hy : p y with
      | true =>
        rw [List.filter_cons_of_pos (by simp [hy, e]), List.filter_cons_of_pos (by exact hy), List.length_cons, List.length_cons]
        omega
      | false =>
        rw [List.filter_cons_of_neg (by simp [hy]), List.filter_cons_of_neg (by simp [hy])]
        exact ih
theorem int_eql {i j : Int} : (i == j) = decide (i = j) := rfl
set_option maxHeartbeats 4000000 in
theorem asked_any {w : World} {S : Nat → Prop} {g N : Nat} {M : BkM} (h : BkI w S g N M) (id : Int) (hL : (M.L id).length < 4611686018427387904) :
    Calls Try.prog 14 #[bkP g, .int .i64 id] w fun e w' => e = .returned (.int .i64 ((M.L id).length : Nat)) ∧ Below w.heap.size w w' := by
  obtain ⟨tv, av, sz, P, h1, h⟩ := h
  have c1 : w.cell? ⟨g, 1, none⟩ = some av := h.G.cell 1
  unfold bkP
  rcases h.ma with ⟨rfl, _, hf⟩ | ⟨b, rfl, hm⟩
  · have e0 : (M.L id).length = 0 := by
      rcases hx : M.L id with _ | ⟨x, r⟩
      · rfl
      · have := (h.hA x id).2 (by rw [hx]; exact List.mem_cons_self)
        rw [hf x] at this
        cases this
    rw [e0]
    clear h hf
    have hrg := run_range_nilMap (P := Try.prog) w 25 36 3 Try.underlying25
    have hnx : ∀ ty, (Instr.next (.pointer (some ⟨w.heap.size, 0, none⟩)) false ty).run Try.prog (w.alloc (.mapIter none 0 #[] 0)) = _ := fun ty => run_next_nilMap w ty 0 0 #[]
    go_enter Try.func14, Try.ntmps14
    go_wp2
    refine wp_loop_rounds 1 ?_
    rw [rounds_succ]
    go_wp2
    go_ret
    exact ⟨rfl, (Below.refl _ _).alloc (Nat.le_refl _) _⟩
  · obtain ⟨w1, r1, r2, r3, r4⟩ := hm.range akE_ok
    have hA := h.hA
    have hnd := h.nd id
    have hbl := hm.lt
    obtain ⟨LL, hLL⟩ : ∃ LL, LL = M.L id := ⟨_, rfl⟩
    have hAL : ∀ x, M.A x = some id ↔ x ∈ LL := fun x => by rw [hLL]; exact hA x id
    have HF : LL.filter (fun x => (M.A x).isSome) = LL := List.filter_eq_self.2 (fun x hx => by rw [(hAL x).2 hx]; rfl)
    rw [← hLL] at hnd hL ⊢
    obtain ⟨A, hA'⟩ : ∃ A, A = M.A := ⟨_, rfl⟩
    rw [← hA'] at hAL HF r2
    have HR := Lib.hid r2
    have HB := Lib.hid r3
    have HAL := Lib.hid hAL
    have HN := Lib.hid hnd
    have HF := Lib.hid HF
    obtain ⟨r, hr⟩ : ∃ r, r = w.heap.size := ⟨_, rfl⟩
    rw [← hr] at r1 HR
    have HRR := Lib.hid hr
    have hz : Hid (w.heap.size ≤ w.heap.size) := Nat.le_refl _
    change (Instr.range 25 (.map (some b))).run Try.prog w = _ at r1
    clear hm h hA hnd hAL hA' hLL r2 r3 r4 hr
    go_enter Try.func14, Try.ntmps14
    go_wp2_with (first | (at_range; refine wpList_rg rfl _ _ rfl rfl r1 ?_) | go_in)
    go_frame
    clear r1 c1
    go_loopw [5] (fun i wr => ∃ (m : Nat) (rem : I32 → Bool), i = .int .i64 m ∧ Hid (RngG akE wr b r sz A rem) ∧ Hid (m + (LL.filter rem).length = LL.length) ∧ Hid (Below w.heap.size w wr)) (fun _ wr => wr.rangeLeft b r)
    case atStart => exact ⟨0, _, rfl, HR, by show _ = _; rw [HF.out, Nat.zero_add], HB⟩
    case round =>
      obtain ⟨m, rem, rfl, HG, HM, HW⟩ := hrel
      clear HR HB HF
      rcases HG.out.next akE_ok 0 with ⟨hz, hn⟩ | ⟨x, y, w', hx, hrem, hf, hn, hrg, hlt, hbut, hsz, hen⟩
      · have e : m = LL.length := by
          have h0 := HM.out
          rw [List.filter_eq_nil_iff.2 (fun x _ => by rw [hz x trivial]; decide)] at h0
          exact h0
        clear hz HM
        go_wp2_with (first | (at_next; refine wpList_nx rfl _ rfl rfl hn ?_) | go_in)
        go_ret
        exact ⟨rfl, HW.out⟩
      · have hs := filter_step HN.out (p := rem) hrem
        have hm := HM.out
        have hxl := HAL.out x
        rw [hf] at hxl
        obtain ⟨C, hC⟩ : ∃ C, C = (LL.filter fun z => rem z && !decide (z = x)).length := ⟨_, rfl⟩
        have HC := Lib.hid hC
        rw [← hC] at hs
        have HB' : Hid (Below w.heap.size w w') := HW.out.trans (hbut.below HW.out.size (fun k hk => by rw [hk, HRR.out]; exact Nat.le_refl _))
        have HG' := Lib.hid hrg
        change (Instr.entry (.pointer (some ⟨r, 0, none⟩))).run Try.prog w' = .ok (.tuple #[.agg (idL x).toArray, .int .i64 y]) w' at hen
        change (Instr.next (.pointer (some ⟨r, 0, none⟩)) false 0).run Try.prog wr = .ok (.tuple #[.bool true, .agg (idL x).toArray, .int .i64 y]) w' at hn
        obtain ⟨XA, hXA⟩ : ∃ XA, XA = (idL x).toArray := ⟨_, rfl⟩
        rw [← hXA] at hn hen
        have HLT := Lib.hid hlt
        by_cases e : y = id
        · have d1 : (y == id) = true := by simp [e]
          rw [if_pos (hxl.1 (by rw [e]))] at hs
          have HM' : Hid (m + 1 + C = LL.length) := by show _ = _; omega
          have hml : m + 1 ≤ LL.length := by omega
          clear hs hm hxl hf hrem hbut hrg hlt e hC hXA hsz
          go_wp2_with (first | (at_next; refine wpList_nx rfl _ rfl rfl hn ?_) | go_in)
          go_roundw
          case rel => exact ⟨m + 1, _, by go_num, HG', by rw [← HC.out]; exact HM', HB'⟩
          case measure => exact HLT.out
        · have d1 : (y == id) = false := by simp [e]
          rw [if_neg (fun h => e (by have := hxl.2 h; injection this))] at hs
          have HM' : Hid (m + C = LL.length) := by show _ = _; omega
          clear hs hm hxl hf hrem hbut hrg hlt e hC hXA hsz
          go_wp2_with (first | (at_next; refine wpList_nx rfl _ rfl rfl hn ?_) | go_in)
          go_roundw
          case rel => exact ⟨m, _, rfl, HG', by rw [← HC.out]; exact HM', HB'⟩
          case measure => exact HLT.out
end Go.Proofs.Ytcedljfdnbenoaa
