/- Texts in one: Blk, Ovr, NumM, Arr, ShM, IdM. -/
import Derived.Below
import Derived.WalkKit
import Derived.Deep.Draws
import Derived.Laws.Rows
import Derived.Lib.Hide
import Derived.Deep.MidRow
import Derived.WalkLawsBesides
import Derived.Laws.Bits64b
import Derived.Laws.BitsAllLaws
namespace Go.Proofs.YtkpffjcdalclmaaDoor
open Go.RowKit
set_option linter.unusedVariables false
def Bk (w : World) (g : Nat) (t : TypeId) (cs : Array Value) : Prop := w.heap[g]? = some (.cells cs t (0, 0))
section
variable {w w' : World} {g : Nat} {t : TypeId} {cs : Array Value}
theorem Bk.lt (h : Bk w g t cs) : g < w.heap.size := by
  rcases Nat.lt_or_ge g w.heap.size with hlt | hge
  · exact hlt
  · unfold Bk at h; rw [Array.getElem?_eq_none hge] at h; cases h
theorem Bk.cell (h : Bk w g t cs) (i : Nat) : w.cell? ⟨g, i, none⟩ = cs[i]? := cell_of_row w g i cs t (0, 0) h
theorem Bk.frozen (h : Bk w g t cs) (i : Nat) : w.frozen? ⟨g, i, none⟩ = false := by
  unfold Bk at h
  simp [World.frozen?, h]
theorem Bk.new (w : World) (t : TypeId) (cs : Array Value) : Bk (w.alloc (.cells cs t)) w.heap.size t cs := heap_alloc_new w _
theorem Bk.new' (w : World) (t : TypeId) (cs : Array Value) {g : Nat} (hg : g = w.heap.size) : Bk (w.alloc (.cells cs t)) g t cs := by subst hg; exact heap_alloc_new w _
theorem Bk.drew (h : Bk w g t cs) : Bk w.drew g t cs := h
theorem Bk.drewN (h : Bk w g t cs) (n : Nat) : Bk (w.drewN n) g t cs := h
theorem Bk.alloc (h : Bk w g t cs) (o : Obj) : Bk (w.alloc o) g t cs := (Below.heap_alloc w o g h.lt).trans h
theorem Bk.set_ (h : Bk w g t cs) (i : Nat) (u : Value) : Bk (w.setCell ⟨g, i, none⟩ u) g t (cs.setIfInBounds i u) := by
  unfold Bk at h ⊢
  simp [World.setCell, Array.getElem?_modify, h]
theorem Bk.far (h : Bk w g t cs) {p : Addr} (hp : g ≠ p.block) (u : Value) : Bk (w.setCell p u) g t cs := (Below.heap_setCell w p u g hp).trans h
theorem Bk.below {B : Nat} (h : Bk w g t cs) (hb : Below B w w') (hg : g < B) : Bk w' g t cs := (hb.block g hg).trans h
theorem Bk.keep (h : Bk w g t cs) (hb : Below w.heap.size w w') : Bk w' g t cs := (hb.block g h.lt).trans h
end
theorem below_step {B : Nat} {a w w1 : World} (h : Below B a w) (hB : B ≤ w.heap.size) (h1 : Below w.heap.size w w1) : Below B a w1 := h.trans (h1.mono hB)
end Go.Proofs.YtkpffjcdalclmaaDoor
namespace Go.Proofs.YtkpffjcdalclmaaDoor
open Go.RowKit
set_option linter.unusedVariables false
def ovr (cs : Array Value) : Nat → List Value → Array Value
  | _, [] => cs
  | o, v :: r => ovr (cs.setIfInBounds o v) (o + 1) r
theorem ovr_get (vs : List Value) : ∀ (o : Nat) (cs : Array Value) (i : Nat), (ovr cs o vs)[i]? = if o ≤ i ∧ i < o + vs.length ∧ i < cs.size then vs[i - o]? else cs[i]? := by
  induction vs with
  | nil => intro o cs i; rw [ovr, if_neg (by simp; omega)]
  | cons v r ih =>
    intro o cs i
    rw [ovr, ih]
    simp only [Array.size_setIfInBounds, List.length_cons]
    by_cases h1 : i = o
    · subst h1
      rw [if_neg (by omega)]
      by_cases h2 : i < cs.size
      · rw [if_pos (by omega)]; simp [h2]
      · rw [if_neg (by omega)]
        rw [Array.getElem?_eq_none (by simp; omega), Array.getElem?_eq_none (by omega)]
    · by_cases h2 : o ≤ i ∧ i < o + (r.length + 1) ∧ i < cs.size
      · rw [if_pos (by omega), if_pos h2]
        obtain ⟨d, rfl⟩ : ∃ d, i = o + 1 + d := ⟨i - (o + 1), by omega⟩
        rw [show o + 1 + d - (o + 1) = d from by omega, show o + 1 + d - o = d + 1 from by omega]; simp
      · rw [if_neg (by omega), if_neg h2, Array.getElem?_setIfInBounds_ne (by omega)]
theorem ovr_all (cs xs : Array Value) (h : xs.size = cs.size) : ovr cs 0 xs.toList = xs := by
  apply Array.ext_getElem?
  intro i
  rw [ovr_get]
  by_cases hi : i < cs.size
  · rw [if_pos (by simp; omega)]; simp
  · rw [if_neg (by omega), Array.getElem?_eq_none (by omega), Array.getElem?_eq_none (by omega)]
theorem Bk.ovr_ {w : World} {g : Nat} {t : TypeId} (vs : List Value) : ∀ (o : Nat) (w : World) (cs : Array Value), Bk w g t cs → Bk (w.setCells g o vs) g t (ovr cs o vs) := by
  induction vs with
  | nil => intro o w cs h; exact h
  | cons v r ih => intro o w cs h; exact ih (o + 1) _ _ (h.set_ o v)
theorem Bk.setAll {w : World} {g : Nat} {t : TypeId} {cs xs : Array Value} (h : Bk w g t cs) (hs : xs.size = cs.size) : Bk (w.setCells g 0 xs.toList) g t xs := by
  have := Bk.ovr_ (w := w) xs.toList 0 w cs h
  rwa [ovr_all cs xs hs] at this
theorem Below.setCells {B g : Nat} {a : World} (hg : B ≤ g) (vs : List Value) : ∀ (o : Nat) (w : World), Below B a w → Below B a (w.setCells g o vs) := by
  induction vs with
  | nil => intro o w h; exact h
  | cons v r ih => intro o w h; exact ih (o + 1) _ (h.setCell hg v)
theorem Bk.there {w : World} {g : Nat} {t : TypeId} {cs : Array Value} (h : Bk w g t cs) (n : Nat) (hn : n ≤ cs.size) : w.there g 0 n := fun j hj =>
  ⟨by rw [Nat.zero_add, h.cell, Array.getElem?_eq_getElem (by omega)]; rfl, h.frozen _⟩
theorem Bk.range0 {w : World} {g : Nat} {t : TypeId} {cs : Array Value} (h : Bk w g t cs) : w.rangeAt g 0 cs.toList := fun j v hv => by
  rw [Nat.zero_add, h.cell]; simpa using hv
end Go.Proofs.YtkpffjcdalclmaaDoor
namespace Go.Proofs.YtkpffjcdalclmaaDoor
open Go.RowKit
set_option linter.unusedVariables false
def B64 : Nat := 18446744073709551616
def wd0 (n : Nat) : Nat := n % B64
def wd1 (n : Nat) : Nat := n / B64 % B64
def wd2 (n : Nat) : Nat := n / B64 / B64 % B64
def wd3 (n : Nat) : Nat := n / B64 / B64 / B64 % B64
abbrev W4 (a b c d : Nat) : Value := .agg #[.int .u64 (a : Int), .int .u64 (b : Int), .int .u64 (c : Int), .int .u64 (d : Int)]
abbrev nv (n : Nat) : Value := W4 (wd0 n) (wd1 n) (wd2 n) (wd3 n)
def bb (x y b : Nat) : Nat := if x < y + b then 1 else 0
def bs (x y b : Nat) : Nat := (x + B64 - y - b) % B64
end Go.Proofs.YtkpffjcdalclmaaDoor
namespace Go.Proofs.YtkpffjcdalclmaaDoor
section
variable {P : Program}
theorem size_of_info {e : TypeId} {n : Nat} (hs : (P.info? e).map (·.size) = some n) (w : World) : (sizeOf e).run P w = .ok n w := by
  obtain ⟨i, hi, hn⟩ := Option.map_eq_some_iff.1 hs
  simp [sizeOf, typeInfo, hi, hn]
theorem run_part_int {e : TypeId} {k : IntKind} (he : P.underlying e = some (.int k)) (cs : Array Value) (off : Nat) (v : Value) (hv : cs[off]? = some v) (w : World) : (part e cs off).run P w = .ok v w := by
  simp [part, isAgg, run_underlying he, hv]
theorem run_arr_loop (d : Nat) {e : TypeId} {k : IntKind} (he : P.underlying e = some (.int k)) (X Y : Array Value) (fx fy : Nat → Int) (w : World) : ∀ (l : List Nat), (∀ i ∈ l, X[i]? = some (.int k (fx i)) ∧ Y[i]? = some (.int k (fy i))) →
    (forIn l (none, PUnit.unit) (fun i (_ : Option Bool × PUnit) => do
        let a ← part e X (i * 1)
        let b ← part e Y (i * 1)
        let r ← Op.equalIn (d + 1) e a b
        if (!r) = true then pure (ForInStep.done (some false, PUnit.unit)) else pure (ForInStep.yield (none, PUnit.unit)))).run P w =
      .ok (if l.all (fun i => fx i == fy i) then none else some false, PUnit.unit) w := by
  intro l
  induction l with
  | nil => intro _; simp
  | cons i l ih =>
    intro h
    obtain ⟨hx, hy⟩ := h i (by simp)
    simp only [List.forIn_cons, Sem.run_bind, Nat.mul_one, run_part_int he X i _ hx, run_part_int he Y i _ hy, Result.andThen_ok, run_equalIn_int w d e k k _ _ he]
    by_cases hq : fx i = fy i
    · have hb : (fx i == fy i) = true := by simpa using hq
      simp only [hb, Bool.not_true, Bool.false_eq_true, if_false, Sem.run_pure, Result.andThen_ok, List.all_cons, Bool.true_and]
      have := ih (fun j hj => h j (by simp [hj]))
      simpa only [Nat.mul_one] using this
    · have hb : (fx i == fy i) = false := by simpa using hq
      simp [hb]
theorem run_equalIn_arr (w : World) (d : Nat) (t e : TypeId) (len : Nat) (k : IntKind) (X Y : Array Value) (fx fy : Nat → Int) (ht : P.underlying t = some (.array len e)) (he : P.underlying e = some (.int k)) (hs : (P.info? e).map (·.size) = some 1)
    (h : ∀ i, i < len → X[i]? = some (.int k (fx i)) ∧ Y[i]? = some (.int k (fy i))) :
    (Op.equalIn (d + 2) t (.agg X) (.agg Y)).run P w = .ok ((List.range len).all fun i => fx i == fy i) w := by
  have hl := run_arr_loop (P := P) d he X Y fx fy w (List.range' 0 len) (fun i hi => h i (by simpa using hi))
  rw [Op.equalIn]
  simp only [Sem.run_bind, run_underlying ht, Result.andThen_ok, size_of_info hs]
  simp only [Std.Legacy.Range.forIn_eq_forIn_range', Std.Legacy.Range.size, Nat.sub_zero, Nat.add_sub_cancel, Nat.div_one]
  simp only [Nat.mul_one] at hl ⊢
  refine (congrArg (fun r => Result.andThen r _) hl).trans ?_
  simp only [Result.andThen_ok, List.range_eq_range']
  split <;> simp_all
theorem run_index_arr {t e : TypeId} {len : Nat} {k : IntKind} (ht : P.underlying t = some (.array len e)) (he : P.underlying e = some (.int k)) (hs : (P.info? e).map (·.size) = some 1) (X : Array Value) (i : Nat) (v : Value) (hi : i < len) (hv : X[i]? = some v) (w : World) :
    (Instr.index t (.agg X) (.int .i64 (i : Int))).run P w = .ok v w := by
  have h2 : 0 ≤ (i : Int) ∧ (i : Int) < (len : Int) := by omega
  simp [Instr.index, asIntOf, run_underlying ht, h2, size_of_info hs, run_part_int he X i v hv]
  intro h3
  omega
end
end Go.Proofs.YtkpffjcdalclmaaDoor
namespace Go.Proofs.YtkpffjcdalclmaaDoor
open Go.RowKit
set_option linter.unusedVariables false
theorem or_join (i x y : Nat) (hx : x % 2 ^ i = 0) (hy : y < 2 ^ i) : x ||| y = x + y := by
  have e : x = 2 ^ i * (x / 2 ^ i) := by have := Nat.div_add_mod x (2 ^ i); omega
  rw [e, Nat.two_pow_add_eq_or_of_lt hy]
theorem or64 (x y : Nat) (hx : x < B64) (hy : y < B64) : bits BinOp.or IntKind.u64 (x : Int) (y : Int) = ((x ||| y : Nat) : Int) := bits_or_u64_nat x y hx hy
theorem shr_word (x s : Nat) : (x : Int) / 2 ^ s = ((x / 2 ^ s : Nat) : Int) := by
  rw [Int.natCast_ediv, Int.natCast_pow]; rfl
section
variable (a0 a1 a2 a3 p q : Nat)
def S1 (x y : Nat) : Nat := p * (x % q) + y / q
end
end Go.Proofs.YtkpffjcdalclmaaDoor
namespace Go.Proofs.YtkpffjcdalclmaaDoor
open Go.RowKit
set_option linter.unusedVariables false
def byteV (x : Nat) : Value := .int .u8 (x : Int)
def idA (xs : List Nat) : Array Value := (xs.map byteV).toArray
abbrev idv (xs : List Nat) : Value := .agg (idA xs)
theorem idA_size (xs : List Nat) : (idA xs).size = xs.length := by simp [idA]
theorem idA_get (xs : List Nat) (k : Nat) (h : k < xs.length) : (idA xs)[k]? = some (.int .u8 ((xs.getD k 0 : Nat) : Int)) := by
  unfold idA byteV
  rw [List.getElem?_toArray, List.getElem?_map, List.getElem?_eq_getElem h]
  simp [List.getD, List.getElem?_eq_getElem h]
def ofL : List Nat → Nat
  | [] => 0
  | x :: xs => x + 256 * ofL xs
theorem ofL_append (xs : List Nat) (x : Nat) : ofL (xs ++ [x]) = ofL xs + 256 ^ xs.length * x := by
  induction xs with
  | nil => simp [ofL]
  | cons y ys ih =>
    simp only [List.cons_append, ofL, ih, List.length_cons, Nat.pow_succ, Nat.mul_add]
    rw [Nat.mul_comm (256 ^ ys.length) 256, Nat.mul_assoc]
    omega
theorem ofL_lt (xs : List Nat) (h : ∀ x ∈ xs, x < 256) : ofL xs < 256 ^ xs.length := by
  induction xs with
  | nil => simp [ofL]
  | cons y ys ih =>
    have h1 := h y (by simp)
    have h2 := ih (fun x hx => h x (by simp [hx]))
    simp only [ofL, List.length_cons, Nat.pow_succ]
    omega
theorem ofL_take_succ (xs : List Nat) (k : Nat) (h : k < xs.length) : ofL (xs.take (k + 1)) = ofL (xs.take k) + 256 ^ k * xs.getD k 0 := by
  rw [List.take_add_one, List.getElem?_eq_getElem h]
  simp only [Option.toList_some, ofL_append, List.length_take, Nat.min_eq_left (Nat.le_of_lt h)]
  simp [List.getD, List.getElem?_eq_getElem h]
theorem pow256 (k : Nat) : 256 ^ k = 2 ^ (8 * k) := by rw [Nat.pow_mul]
def byteOf (n k : Nat) : Nat := n / 256 ^ k % 256
theorem byteOf_lt (n k : Nat) : byteOf n k < 256 := Nat.mod_lt _ (by omega)
def toL (n : Nat) : Nat → List Nat
  | 0 => []
  | m + 1 => n % 256 :: toL (n / 256) m
theorem toL_length (m n : Nat) : (toL n m).length = m := by
  induction m generalizing n with
  | zero => rfl
  | succ m ih => simp [toL, ih]
theorem toL_lt (m n : Nat) : ∀ x ∈ toL n m, x < 256 := by
  induction m generalizing n with
  | zero => intro x hx; simp [toL] at hx
  | succ m ih =>
    intro x hx
    simp only [toL, List.mem_cons] at hx
    rcases hx with rfl | hx
    · omega
    · exact ih _ x hx
theorem ofL_toL (m n : Nat) (h : n < 256 ^ m) : ofL (toL n m) = n := by
  induction m generalizing n with
  | zero => simp at h; subst h; rfl
  | succ m ih =>
    simp only [toL, ofL]
    rw [ih (n / 256) (by rw [Nat.pow_succ] at h; omega)]
    omega
theorem toL_ofL (xs : List Nat) (h : ∀ x ∈ xs, x < 256) : toL (ofL xs) xs.length = xs := by
  induction xs with
  | nil => rfl
  | cons x xs ih =>
    have h1 := h x (by simp)
    simp only [ofL, List.length_cons, toL]
    rw [show (x + 256 * ofL xs) / 256 = ofL xs from by omega, show (x + 256 * ofL xs) % 256 = x from by omega, ih (fun z hz => h z (by simp [hz]))]
theorem B64_pow' : B64 = 2 ^ 64 := by kernel_rfl
end Go.Proofs.YtkpffjcdalclmaaDoor
