/-
  Bytes and numbers that are appended onto slices of the call's own.
-/
import Derived.Test.YtkkkfcdoilojmaaDoorRow
import Derived.Test.YtkkkfcdoilojmaaDoorNumHD
import Derived.Test.YtkkkfcdoilojmaaDoorNumI
import Derived.Test.YtkkkfcdoilojmaaDoorAppM
import Derived.Test.YtkkkfcdoilojmaaDoorPartsA
namespace Go.Proofs.YtkkkfcdoilojmaaDoor
open Go.RowKit
set_option linter.unusedVariables false

def byR : RowT Nat := ⟨5, 49, 1, 1, fun x => [.int .u8 (x : Int)], 0⟩
def nuR : RowT Nat := ⟨44, 50, 4, 32, fun x => [.int .u64 (wd0 x : Int), .int .u64 (wd1 x : Int), .int .u64 (wd2 x : Int), .int .u64 (wd3 x : Int)], 0⟩
theorem byR_ok : byR.Ok where
  ht := Tryd.underlying49
  info := by
    obtain ⟨i, h1, h2, h3, h4⟩ := byte_info
    exact ⟨i, _, h1, h2, h3, h4, rfl⟩
  len := fun _ => rfl
  one := fun x v hv => by simp only [byR, List.mem_singleton] at hv; subst hv; rfl
  pos := by decide
  bys := by decide
theorem nu_facts : (Tryd.prog.info? 44).map (fun i => (i.zero, i.size, i.bytes)) = some (some (.agg #[.int .u64 0, .int .u64 0, .int .u64 0, .int .u64 0]), 4, 32) := by kernel_rfl
theorem nuR_ok : nuR.Ok where
  ht := Tryd.underlying50
  info := by
    have h := nu_facts
    show ∃ i v, Tryd.prog.info? 44 = some i ∧ _
    revert h
    cases Tryd.prog.info? 44 with
    | none => intro h; cases h
    | some i =>
      intro h
      have h' : (i.zero, i.size, i.bytes) = (some (Value.agg #[.int .u64 0, .int .u64 0, .int .u64 0, .int .u64 0]), 4, 32) := Option.some.inj h
      simp only [Prod.mk.injEq] at h'
      exact ⟨i, _, rfl, h'.1, h'.2.1, h'.2.2, by kernel_rfl⟩
  len := fun _ => rfl
  one := fun x v hv => by
    simp only [nuR, List.mem_cons, List.not_mem_nil, or_false] at hv
    rcases hv with rfl | rfl | rfl | rfl <;> rfl
  pos := by decide
  bys := by decide
theorem by_nu : byR.e ≠ nuR.e := by decide
theorem nu_by : nuR.e ≠ byR.e := by decide
theorem bs_byR {w : World} {B : Nat} {v : Value} {xs : List Nat} (h : BsV w B v xs) : RowV byR w B v xs := by
  obtain ⟨s, cap, rfl, h1, h2, h3, h4⟩ := h
  refine ⟨s, cap, rfl, h1, h2, fun hne => ?_⟩
  obtain ⟨b, o, e, hb, hc⟩ := h4 hne
  refine ⟨b, o, e, hb, fun i x hx j u hu => ?_⟩
  have hi := (List.getElem?_eq_some_iff.1 hx).1
  have e1 : nth xs i = x := by unfold nth; rw [List.getD, hx]; rfl
  match j, hu with
  | 0, hu =>
    have hv : some (Value.int .u8 (x : Int)) = some u := hu
    have h := hc i hi
    rw [e1, hv] at h
    rw [show byR.k = 1 from rfl, Nat.mul_one, Nat.add_zero]
    exact h
theorem byR_bs {w : World} {B : Nat} {v : Value} {xs : List Nat} (h : RowV byR w B v xs) (hx : ∀ x ∈ xs, x < 256) : BsV w B v xs := by
  obtain ⟨s, cap, rfl, h1, h2, h4⟩ := h
  refine ⟨s, cap, rfl, h1, h2, hx, fun hne => ?_⟩
  obtain ⟨b, o, e, hb, hc⟩ := h4 hne
  refine ⟨b, o, e, hb, fun i hi => ?_⟩
  have hg := List.getElem?_eq_getElem hi
  have h := hc i _ hg 0 (.int .u8 ((xs[i] : Nat) : Int)) rfl
  rw [show byR.k = 1 from rfl, Nat.mul_one, Nat.add_zero] at h
  have e1 : nth xs i = xs[i] := by unfold nth; rw [List.getD, hg]; rfl
  rw [h, e1]
theorem nuR_nums {w : World} {b o : Nat} {xs : List Nat} (h : ∀ i x, xs[i]? = some x → w.rangeAt b (o + i * nuR.k) (nuR.c x)) : Nums w b o xs := by
  intro k x hk
  have e := h k x hk
  rw [show nuR.k = 4 from rfl] at e
  exact ⟨e 0 _ rfl, e 1 _ rfl, e 2 _ rfl, e 3 _ rfl⟩
/-- An append whose outcome is known, in a plain region. -/
theorem wpList_appR {ops : Array Oper} {rest : List Oper} {o : Oper} {a : Act} {w W : World} {Q : Exit → Act → World → Prop} {v1 v2 v : Value} (t : TypeId) (hg : o.guard = none) (s x : Operand)
    (hop : o.op = Op.call { callee := Callee.builtin Builtin.append, args := #[s, x], argTypes := #[t, t] }) (hty : o.type = t) (hs : a.eval s = v1) (hx : a.eval x = v2)
    (hrun : (Builtin.append_ #[t, t] t #[v1, v2]).run Tryd.prog w = .ok v W) (hK : wpList Tryd.prog ops Q rest (a.put o.dst v) W) : wpList Tryd.prog ops Q (o :: rest) a w := by
  refine wpList_plain hg fun K hK' => ?_
  unfold Oper.wp
  simp [execOp, hop, resolve, invoke, builtin, hs, hx, hty, hrun, Result.andThen]
  exact hK' _ _ hK
set_option maxRecDepth 100000 in
set_option maxHeartbeats 600000 in
theorem add_none (s : Option Addr) (cap : Nat) (w : World) :
    Calls Tryd.prog 25 #[.slice s 0 cap] w fun e w' => e = .returned (.tuple #[I4 0 0 0 0, .bool false]) ∧ Below w.heap.size w w' := by
  go_enter Tryd.func25, Tryd.ntmps25
  go_wp2
  refine wp_loop_rounds 1 ?_
  rw [rounds_succ]
  go_wp2
  refine bodyPost_ret (v := .tuple #[I4 0 0 0 0, .bool false]) (by simp [results, Tryd.results25, go_sem]) rfl ⟨rfl, ?_⟩
  first
  | exact Below.set4 (g := w.heap.size) (((Below.refl _ _).alloc (Nat.le_refl _) _).alloc (by simp) _) (Nat.le_refl _) _ _ _ _
  | exact ((Below.refl _ _).alloc (Nat.le_refl _) _).alloc (by simp) _
  | exact (((Below.refl _ _).alloc (Nat.le_refl _) _).alloc (by simp) _).alloc (by simp; omega) _
/-- The sum of numbers, wherever they lie, none of them too. -/
theorem add_row (xs : List Nat) (v : Value) (w : World) (hl : xs.length ≤ 1000000) (hlt : ∀ x ∈ xs, x < M256) (hv : RowV nuR w w.heap.size v xs) :
    Calls Tryd.prog 25 #[v] w fun e w' => ∃ b, e = .returned (.tuple #[nv (xs.sum % M256), .bool b]) ∧ Below w.heap.size w w' := by
  obtain ⟨s, cap, rfl, h1, h2, h4⟩ := hv
  by_cases h0 : xs = []
  · subst h0
    refine (add_none s cap w).mono ?_
    rintro e w' ⟨rfl, hb⟩
    have e0 : nv 0 = I4 0 0 0 0 := by rw [nv_small 0 B64_pos]; rfl
    exact ⟨false, by simp only [List.sum_nil, Nat.zero_mod, e0], hb⟩
  · obtain ⟨b, o, rfl, hb, hc⟩ := h4 h0
    refine (nadd_any xs b o cap w hl hlt (nuR_nums hc) (.inr hb)).mono ?_
    rintro e w' ⟨rfl, hb⟩
    exact ⟨_, rfl, hb⟩
/-- What names a text, as a number. -/
def dn (xs : List Nat) : Nat := ofL (sha (sha xs))
def sn (xs : List Nat) : Nat := ofL (sha xs)
theorem dn_lt (xs : List Nat) : dn xs < M256 := by
  have h := ofL_lt _ (sha_lt (sha xs))
  rw [show (sha (sha xs)).length = 32 from rfl] at h
  rw [M256_256]; exact h
theorem sn_lt (xs : List Nat) : sn xs < M256 := by
  have h := ofL_lt _ (sha_lt xs)
  rw [show (sha xs).length = 32 from rfl] at h
  rw [M256_256]; exact h
theorem sn_back (xs : List Nat) : toL (sn xs) 32 = sha xs := toL_ofL _ (sha_lt xs)
theorem sn_none : sn [] ≠ 0 := by decide +kernel
theorem take_flat (ps : List (List Nat)) (k : Nat) (p : List Nat) (h : ps[k]? = some p) : (ps.take (k + 1)).flatten = (ps.take k).flatten ++ p := by
  rw [List.take_add_one, h]; simp
theorem take_map (ps : List (List Nat)) (k : Nat) (p : List Nat) (h : ps[k]? = some p) : (ps.take (k + 1)).map dn = (ps.take k).map dn ++ [dn p] := by
  rw [List.take_add_one, h]; simp
theorem flat_le : ∀ (ps : List (List Nat)) (_ : ∀ p ∈ ps, p.length ≤ 200), ps.flatten.length ≤ 200 * ps.length
  | [], _ => by simp
  | p :: r, h => by
    have h1 := h p List.mem_cons_self
    have h2 := flat_le r (fun q hq => h q (List.mem_cons_of_mem _ hq))
    rw [List.flatten_cons, List.length_append, List.length_cons]
    omega
theorem take_le (ps : List (List Nat)) (h : ∀ p ∈ ps, p.length ≤ 200) (k : Nat) (hk : k ≤ 10) : (ps.take k).flatten.length ≤ 2000 := by
  have h1 := flat_le (ps.take k) (fun p hp => h p (List.mem_of_mem_take hp))
  have h2 : (ps.take k).length ≤ k := by rw [List.length_take]; omega
  omega
theorem take_le2 (ps : List (List Nat)) (k : Nat) (h : ∀ p ∈ ps.take k, p.length ≤ 200) (hk : k ≤ 10) : (ps.take k).flatten.length ≤ 2000 := by
  have h1 := flat_le (ps.take k) h
  have h2 : (ps.take k).length ≤ k := by rw [List.length_take]; omega
  omega
theorem blen64 (n : Nat) (h : n < B64) : blen n ≤ 64 := by
  have h1 := blen_spec n (Nat.lt_trans h (by decide +kernel))
  rcases Nat.lt_or_ge 64 (blen n) with hb | hb
  · by_cases h0 : n = 0
    · have := h1.2.2 h0; omega
    · have h2 := h1.2.1 h0
      have h3 : 2 ^ 65 ≤ 2 ^ blen n := Nat.pow_le_pow_right (by omega) hb
      have h4 : (2 : Nat) ^ 65 = 2 * B64 := by kernel_rfl
      omega
  · exact hb
theorem idself (xs : List Nat) (hl : xs.length = 32) (w : World) : (Op.equalIn 10000 23 (.agg (idA xs)) (.agg (idA xs))).run Tryd.prog w = .ok true w := by
  have h := run_equalIn_arr (P := Tryd.prog) w 9998 23 5 32 .u8 (idA xs) (idA xs) (fun i => ((xs.getD i 0 : Nat) : Int)) (fun i => ((xs.getD i 0 : Nat) : Int)) (by kernel_rfl) (by kernel_rfl) (by kernel_rfl)
    (fun i hi => ⟨idA_get xs i (by omega), idA_get xs i (by omega)⟩)
  rw [h]
  simp
theorem sub_step (r y T : Nat) (hy : y < M256) : ((r + M256 - y) % M256 + (T + y)) % M256 = (r + T) % M256 := by
  rw [Nat.mod_add_mod, show r + M256 - y + (T + y) = r + T + M256 by omega, Nat.add_mod_right]
theorem sub_end (r T : Nat) (hr : r < M256) (h : (r + T) % M256 = T % M256) : r = 0 := by
  have h1 := Nat.sub_mod_eq_zero_of_mod_eq h
  rw [Nat.add_sub_cancel, Nat.mod_eq_of_lt hr] at h1
  exact h1
theorem take_sum (ys : List Nat) (k y : Nat) (h : ys[k]? = some y) : (ys.take (k + 1)).sum = (ys.take k).sum + y := by
  rw [List.take_add_one, h]; simp
theorem with_fact {p q : Prop} (h : p) (k : p → q) : q := k h
theorem num_row {w : World} {g : Nat} {n : Nat} (hg : Bk w g 44 (A4 (wd0 n) (wd1 n) (wd2 n) (wd3 n))) : RowV nuR w w.heap.size (.slice (some ⟨g, 0, none⟩) 1 1) [n] :=
  row_built nuR_ok (L := [n]) (t := 44) hg rfl (by decide)
end Go.Proofs.YtkkkfcdoilojmaaDoor
