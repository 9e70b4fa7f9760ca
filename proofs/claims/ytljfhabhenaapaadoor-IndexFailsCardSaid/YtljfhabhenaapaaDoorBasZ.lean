/-
  Texts in one: Blk, Ovr, NumM, Arr, ShM, IdM.
-/
import Derived.Below
import Derived.WalkKit
import Derived.Deep.Draws
import Derived.Laws.Rows
import Derived.Lib.Hide
import Derived.Deep.MidRow
import Derived.WalkLawsBesides
import Derived.Laws.Bits64b
import Derived.Laws.BitsAllLaws
namespace Go.Proofs.YtljfhabhenaapaaDoor
open Go.RowKit
set_option maxRecDepth 100000
set_option linter.unusedVariables false

/-- Block g is just these cells of type t, none frozen. -/
def Bk (w : World) (g : Nat) (t : TypeId) (cs : Array Value) : Prop := w.heap[g]? = some (.cells cs t (0, 0))

section
variable {w w' : World} {g : Nat} {t : TypeId} {cs : Array Value}
theorem Bk.lt (h : Bk w g t cs) : g < w.heap.size := by
  rcases Nat.lt_or_ge g w.heap.size with hlt | hge
  · exact hlt
  · unfold Bk at h; rw [Array.getElem?_eq_none hge] at h; cases h
theorem Bk.cell (h : Bk w g t cs) (i : Nat) : w.cell? ⟨g, i, none⟩ = cs[i]? := cell_of_row w g i cs t (0, 0) h
theorem Bk.frozen (h : Bk w g t cs) (i : Nat) : w.frozen? ⟨g, i, none⟩ = false := by
  unfold Bk at h
  simp [World.frozen?, h]
theorem Bk.new (w : World) (t : TypeId) (cs : Array Value) : Bk (w.alloc (.cells cs t)) w.heap.size t cs := heap_alloc_new w _
theorem Bk.new' (w : World) (t : TypeId) (cs : Array Value) {g : Nat} (hg : g = w.heap.size) : Bk (w.alloc (.cells cs t)) g t cs := by subst hg; exact heap_alloc_new w _
theorem Bk.drew (h : Bk w g t cs) : Bk w.drew g t cs := h
theorem Bk.drewN (h : Bk w g t cs) (n : Nat) : Bk (w.drewN n) g t cs := h
theorem Bk.alloc (h : Bk w g t cs) (o : Obj) : Bk (w.alloc o) g t cs := (Below.heap_alloc w o g h.lt).trans h
theorem Bk.set_ (h : Bk w g t cs) (i : Nat) (u : Value) : Bk (w.setCell ⟨g, i, none⟩ u) g t (cs.setIfInBounds i u) := by
  unfold Bk at h ⊢
  simp [World.setCell, Array.getElem?_modify, h]
theorem Bk.far (h : Bk w g t cs) {p : Addr} (hp : g ≠ p.block) (u : Value) : Bk (w.setCell p u) g t cs := (Below.heap_setCell w p u g hp).trans h
theorem Bk.below {B : Nat} (h : Bk w g t cs) (hb : Below B w w') (hg : g < B) : Bk w' g t cs := (hb.block g hg).trans h
theorem Bk.keep (h : Bk w g t cs) (hb : Below w.heap.size w w') : Bk w' g t cs := (hb.block g h.lt).trans h
end

theorem Bk.set4 {w : World} {g : Nat} {t : TypeId} {a b c d : Value} (h : Bk w g t #[a, b, c, d]) (x0 x1 x2 x3 : Value) :
    Bk ((((w.setCell ⟨g, 0, none⟩ x0).setCell ⟨g, 1, none⟩ x1).setCell ⟨g, 2, none⟩ x2).setCell ⟨g, 3, none⟩ x3) g t #[x0, x1, x2, x3] :=
  (((h.set_ 0 x0).set_ 1 x1).set_ 2 x2).set_ 3 x3
theorem Bk.far4 {w : World} {g g' : Nat} {t : TypeId} {cs : Array Value} (h : Bk w g t cs) (hg : g ≠ g') (x0 x1 x2 x3 : Value) :
    Bk ((((w.setCell ⟨g', 0, none⟩ x0).setCell ⟨g', 1, none⟩ x1).setCell ⟨g', 2, none⟩ x2).setCell ⟨g', 3, none⟩ x3) g t cs :=
  (((h.far hg x0).far hg x1).far hg x2).far hg x3
theorem Below.set4 {B : Nat} {a w : World} (h : Below B a w) {g : Nat} (hg : B ≤ g) (x0 x1 x2 x3 : Value) :
    Below B a ((((w.setCell ⟨g, 0, none⟩ x0).setCell ⟨g, 1, none⟩ x1).setCell ⟨g, 2, none⟩ x2).setCell ⟨g, 3, none⟩ x3) :=
  (((h.setCell hg x0).setCell hg x1).setCell hg x2).setCell hg x3

/-- All that a walk asks of a block of four cells. -/
theorem Bk.f4 {w : World} {g : Nat} {t : TypeId} {a b c d : Value} (h : Bk w g t #[a, b, c, d]) :
    w.cell? ⟨g, 0, none⟩ = some a ∧ w.cell? ⟨g, 1, none⟩ = some b ∧ w.cell? ⟨g, 2, none⟩ = some c ∧ w.cell? ⟨g, 3, none⟩ = some d ∧
    w.frozen? ⟨g, 0, none⟩ = false ∧ w.frozen? ⟨g, 1, none⟩ = false ∧ w.frozen? ⟨g, 2, none⟩ = false ∧ w.frozen? ⟨g, 3, none⟩ = false ∧ g < w.heap.size :=
  ⟨h.cell 0, h.cell 1, h.cell 2, h.cell 3, h.frozen 0, h.frozen 1, h.frozen 2, h.frozen 3, h.lt⟩
theorem below_step {B : Nat} {a w w1 : World} (h : Below B a w) (hB : B ≤ w.heap.size) (h1 : Below w.heap.size w w1) : Below B a w1 := h.trans (h1.mono hB)

/-- All cells and marks of what was there read as before. -/
theorem bcell {W w1 : World} (hb : Below W.heap.size W w1) : (∀ b o, b < W.heap.size → w1.cell? ⟨b, o, none⟩ = W.cell? ⟨b, o, none⟩) ∧ (∀ b o, b < W.heap.size → w1.frozen? ⟨b, o, none⟩ = W.frozen? ⟨b, o, none⟩) :=
  ⟨fun b o h => hb.cell (p := ⟨b, o, none⟩) h, fun b o h => hb.frozen (p := ⟨b, o, none⟩) h⟩

end Go.Proofs.YtljfhabhenaapaaDoor
namespace Go.Proofs.YtljfhabhenaapaaDoor
open Go.RowKit
set_option linter.unusedVariables false

/-! ### storing a whole array into a block that is known whole -/
def ovr (cs : Array Value) : Nat → List Value → Array Value
  | _, [] => cs
  | o, v :: r => ovr (cs.setIfInBounds o v) (o + 1) r
theorem ovr_size (vs : List Value) : ∀ (o : Nat) (cs : Array Value), (ovr cs o vs).size = cs.size := by
  induction vs with
  | nil => intro o cs; rfl
  | cons v r ih => intro o cs; rw [ovr, ih]; simp
theorem ovr_get (vs : List Value) : ∀ (o : Nat) (cs : Array Value) (i : Nat), (ovr cs o vs)[i]? = if o ≤ i ∧ i < o + vs.length ∧ i < cs.size then vs[i - o]? else cs[i]? := by
  induction vs with
  | nil => intro o cs i; rw [ovr, if_neg (by simp; omega)]
  | cons v r ih =>
    intro o cs i
    rw [ovr, ih]
    simp only [Array.size_setIfInBounds, List.length_cons]
    by_cases h1 : i = o
    · subst h1
      rw [if_neg (by omega)]
      by_cases h2 : i < cs.size
      · rw [if_pos (by omega)]; simp [h2]
      · rw [if_neg (by omega)]
        rw [Array.getElem?_eq_none (by simp; omega), Array.getElem?_eq_none (by omega)]
    · by_cases h2 : o ≤ i ∧ i < o + (r.length + 1) ∧ i < cs.size
      · rw [if_pos (by omega), if_pos h2]
        obtain ⟨d, rfl⟩ : ∃ d, i = o + 1 + d := ⟨i - (o + 1), by omega⟩
        rw [show o + 1 + d - (o + 1) = d from by omega, show o + 1 + d - o = d + 1 from by omega]; simp
      · rw [if_neg (by omega), if_neg h2, Array.getElem?_setIfInBounds_ne (by omega)]
theorem ovr_all (cs xs : Array Value) (h : xs.size = cs.size) : ovr cs 0 xs.toList = xs := by
  apply Array.ext_getElem?
  intro i
  rw [ovr_get]
  by_cases hi : i < cs.size
  · rw [if_pos (by simp; omega)]; simp
  · rw [if_neg (by omega), Array.getElem?_eq_none (by omega), Array.getElem?_eq_none (by omega)]
theorem Bk.ovr_ {w : World} {g : Nat} {t : TypeId} (vs : List Value) : ∀ (o : Nat) (w : World) (cs : Array Value), Bk w g t cs → Bk (w.setCells g o vs) g t (ovr cs o vs) := by
  induction vs with
  | nil => intro o w cs h; exact h
  | cons v r ih => intro o w cs h; exact ih (o + 1) _ _ (h.set_ o v)
theorem Bk.setAll {w : World} {g : Nat} {t : TypeId} {cs xs : Array Value} (h : Bk w g t cs) (hs : xs.size = cs.size) : Bk (w.setCells g 0 xs.toList) g t xs := by
  have := Bk.ovr_ (w := w) xs.toList 0 w cs h
  rwa [ovr_all cs xs hs] at this
theorem Below.setCells {B g : Nat} {a : World} (hg : B ≤ g) (vs : List Value) : ∀ (o : Nat) (w : World), Below B a w → Below B a (w.setCells g o vs) := by
  induction vs with
  | nil => intro o w h; exact h
  | cons v r ih => intro o w h; exact ih (o + 1) _ (h.setCell hg v)
theorem Bk.there {w : World} {g : Nat} {t : TypeId} {cs : Array Value} (h : Bk w g t cs) (n : Nat) (hn : n ≤ cs.size) : w.there g 0 n := fun j hj =>
  ⟨by rw [Nat.zero_add, h.cell, Array.getElem?_eq_getElem (by omega)]; rfl, h.frozen _⟩

theorem Bk.range0 {w : World} {g : Nat} {t : TypeId} {cs : Array Value} (h : Bk w g t cs) : w.rangeAt g 0 cs.toList := fun j v hv => by
  rw [Nat.zero_add, h.cell]; simpa using hv

end Go.Proofs.YtljfhabhenaapaaDoor
namespace Go.Proofs.YtljfhabhenaapaaDoor
open Go.RowKit
set_option linter.unusedVariables false

/-- 2^64 and 2^256, behind names that nothing unfolds by itself. -/
def B64 : Nat := 18446744073709551616
def M256 : Nat := B64 * B64 * B64 * B64

theorem B64_pos : 0 < B64 := by decide
theorem M256_pos : 0 < M256 := by decide

def wd0 (n : Nat) : Nat := n % B64
def wd1 (n : Nat) : Nat := n / B64 % B64
def wd2 (n : Nat) : Nat := n / B64 / B64 % B64
def wd3 (n : Nat) : Nat := n / B64 / B64 / B64 % B64

abbrev W4 (a b c d : Nat) : Value := .agg #[.int .u64 (a : Int), .int .u64 (b : Int), .int .u64 (c : Int), .int .u64 (d : Int)]
/-- The value that a number below 2^256 is. -/
abbrev nv (n : Nat) : Value := W4 (wd0 n) (wd1 n) (wd2 n) (wd3 n)

def ofW (a b c d : Nat) : Nat := a + B64 * (b + B64 * (c + B64 * d))

theorem wd0_lt (n : Nat) : wd0 n < B64 := Nat.mod_lt _ B64_pos
theorem wd1_lt (n : Nat) : wd1 n < B64 := Nat.mod_lt _ B64_pos
theorem wd2_lt (n : Nat) : wd2 n < B64 := Nat.mod_lt _ B64_pos
theorem wd3_lt (n : Nat) : wd3 n < B64 := Nat.mod_lt _ B64_pos

theorem split_div (n m a r : Nat) (hm : 0 < m) (h : n = r + m * a) (hr : r < m) : n % m = r ∧ n / m = a := by
  subst h
  exact ⟨by rw [Nat.add_mul_mod_self_left]; exact Nat.mod_eq_of_lt hr, by rw [Nat.add_mul_div_left _ _ hm, Nat.div_eq_of_lt hr, Nat.zero_add]⟩

theorem wd_ofW (a b c d : Nat) (ha : a < B64) (hb : b < B64) (hc : c < B64) (hd : d < B64) :
    wd0 (ofW a b c d) = a ∧ wd1 (ofW a b c d) = b ∧ wd2 (ofW a b c d) = c ∧ wd3 (ofW a b c d) = d := by
  unfold wd0 wd1 wd2 wd3 ofW
  obtain ⟨h0, q0⟩ := split_div _ B64 (b + B64 * (c + B64 * d)) a B64_pos rfl ha
  obtain ⟨h1, q1⟩ := split_div _ B64 (c + B64 * d) b B64_pos rfl hb
  obtain ⟨h2, q2⟩ := split_div _ B64 d c B64_pos rfl hc
  rw [q0, q1, q2]
  exact ⟨h0, h1, h2, Nat.mod_eq_of_lt hd⟩

theorem ofW_wd (n : Nat) (h : n < M256) : ofW (wd0 n) (wd1 n) (wd2 n) (wd3 n) = n := by
  unfold wd0 wd1 wd2 wd3 ofW
  have h3 : n / B64 / B64 / B64 < B64 := by
    unfold M256 at h
    rw [Nat.div_div_eq_div_mul, Nat.div_div_eq_div_mul]
    exact Nat.div_lt_of_lt_mul (by simpa [Nat.mul_comm, Nat.mul_assoc, Nat.mul_left_comm] using h)
  rw [Nat.mod_eq_of_lt h3]
  have e2 := Nat.mod_add_div (n / B64 / B64) B64
  have e1 := Nat.mod_add_div (n / B64) B64
  have e0 := Nat.mod_add_div n B64
  rw [e2, e1, e0]

theorem ofW_lt (a b c d : Nat) (ha : a < B64) (hb : b < B64) (hc : c < B64) (hd : d < B64) : ofW a b c d < M256 := by
  unfold ofW M256
  have h1 : c + B64 * d < B64 * B64 := by
    have := Nat.mul_le_mul_left B64 (Nat.succ_le_of_lt hd)
    rw [Nat.mul_succ] at this; omega
  have h2 : b + B64 * (c + B64 * d) < B64 * (B64 * B64) := by
    have := Nat.mul_le_mul_left B64 (Nat.succ_le_of_lt h1)
    rw [Nat.mul_succ] at this; omega
  have h3 : a + B64 * (b + B64 * (c + B64 * d)) < B64 * (B64 * (B64 * B64)) := by
    have := Nat.mul_le_mul_left B64 (Nat.succ_le_of_lt h2)
    rw [Nat.mul_succ] at this; omega
  simpa [Nat.mul_assoc] using h3

/-- Four words are the value of the number that they make. -/
theorem nv_ofW (a b c d : Nat) (ha : a < B64) (hb : b < B64) (hc : c < B64) (hd : d < B64) : W4 a b c d = nv (ofW a b c d) := by
  obtain ⟨e0, e1, e2, e3⟩ := wd_ofW a b c d ha hb hc hd
  simp only [W4, nv, e0, e1, e2, e3]

theorem nv_of_eq (a b c d n : Nat) (ha : a < B64) (hb : b < B64) (hc : c < B64) (hd : d < B64) (h : ofW a b c d = n) : W4 a b c d = nv n := by
  rw [nv_ofW a b c d ha hb hc hd, h]

theorem nv_inj (m n : Nat) (hm : m < M256) (hn : n < M256) (h0 : wd0 m = wd0 n) (h1 : wd1 m = wd1 n) (h2 : wd2 m = wd2 n) (h3 : wd3 m = wd3 n) : m = n := by
  rw [← ofW_wd m hm, ← ofW_wd n hn, h0, h1, h2, h3]

/-! ### adding and taking off, word by word -/
def ac (x y c : Nat) : Nat := (x + y + c) / B64
def as_ (x y c : Nat) : Nat := (x + y + c) % B64
theorem as_lt (x y c : Nat) : as_ x y c < B64 := Nat.mod_lt _ B64_pos
theorem ac_le (x y c : Nat) (hx : x < B64) (hy : y < B64) (hc : c ≤ 1) : ac x y c ≤ 1 := by
  unfold ac
  have : x + y + c < B64 * 2 := by omega
  have := Nat.div_lt_of_lt_mul this
  omega
theorem as_ac (x y c : Nat) : as_ x y c + B64 * ac x y c = x + y + c := Nat.mod_add_div _ _

def bb (x y b : Nat) : Nat := if x < y + b then 1 else 0
def bs (x y b : Nat) : Nat := (x + B64 - y - b) % B64
theorem bs_lt (x y b : Nat) : bs x y b < B64 := Nat.mod_lt _ B64_pos
theorem bb_le (x y b : Nat) : bb x y b ≤ 1 := by unfold bb; split <;> omega
theorem bs_bb (x y b : Nat) (hx : x < B64) (hy : y < B64) (hb : b ≤ 1) : bs x y b + y + b = x + B64 * bb x y b := by
  unfold bs bb
  split
  · rename_i h
    rw [Nat.mod_eq_of_lt (by omega)]; omega
  · rename_i h
    have e : x + B64 - y - b = (x - y - b) + B64 := by omega
    rw [e, Nat.add_mod_right, Nat.mod_eq_of_lt (by omega)]; omega

/-- The sum of two numbers, its words, and what is carried beyond. -/
theorem add_words (a b : Nat) (ha : a < M256) (hb : b < M256) :
    let c1 := ac (wd0 a) (wd0 b) 0
    let c2 := ac (wd1 a) (wd1 b) c1
    let c3 := ac (wd2 a) (wd2 b) c2
    let c4 := ac (wd3 a) (wd3 b) c3
    ofW (as_ (wd0 a) (wd0 b) 0) (as_ (wd1 a) (wd1 b) c1) (as_ (wd2 a) (wd2 b) c2) (as_ (wd3 a) (wd3 b) c3) + M256 * c4 = a + b ∧ c1 ≤ 1 ∧ c2 ≤ 1 ∧ c3 ≤ 1 ∧ c4 ≤ 1 := by
  intro c1 c2 c3 c4
  have l1 : c1 ≤ 1 := ac_le _ _ _ (wd0_lt _) (wd0_lt _) (by omega)
  have l2 : c2 ≤ 1 := ac_le _ _ _ (wd1_lt _) (wd1_lt _) l1
  have l3 : c3 ≤ 1 := ac_le _ _ _ (wd2_lt _) (wd2_lt _) l2
  have l4 : c4 ≤ 1 := ac_le _ _ _ (wd3_lt _) (wd3_lt _) l3
  refine ⟨?_, l1, l2, l3, l4⟩
  have e0 := as_ac (wd0 a) (wd0 b) 0
  have e1 := as_ac (wd1 a) (wd1 b) c1
  have e2 := as_ac (wd2 a) (wd2 b) c2
  have e3 := as_ac (wd3 a) (wd3 b) c3
  have ea := ofW_wd a ha
  have eb := ofW_wd b hb
  change as_ (wd0 a) (wd0 b) 0 + B64 * c1 = _ at e0
  change as_ (wd1 a) (wd1 b) c1 + B64 * c2 = _ at e1
  change as_ (wd2 a) (wd2 b) c2 + B64 * c3 = _ at e2
  change as_ (wd3 a) (wd3 b) c3 + B64 * c4 = _ at e3
  generalize as_ (wd0 a) (wd0 b) 0 = s0 at *
  generalize as_ (wd1 a) (wd1 b) c1 = s1 at *
  generalize as_ (wd2 a) (wd2 b) c2 = s2 at *
  generalize as_ (wd3 a) (wd3 b) c3 = s3 at *
  clear_value c1 c2 c3 c4
  unfold ofW at *
  rw [← ea, ← eb]
  have k0 : wd0 a + wd0 b = s0 + B64 * c1 := by omega
  have k1 : wd1 a + wd1 b + c1 = s1 + B64 * c2 := by omega
  have k2 : wd2 a + wd2 b + c2 = s2 + B64 * c3 := by omega
  have k3 : wd3 a + wd3 b + c3 = s3 + B64 * c4 := by omega
  have k3' := congrArg (B64 * ·) k3
  unfold M256
  clear e0 e1 e2 e3 ea eb ha hb
  simp only [Nat.mul_add] at *
  have m2 := congrArg (B64 * ·) k2
  have m2' := congrArg (fun t => B64 * (B64 * t)) k3
  have m1 := congrArg (B64 * ·) k1
  have m1' := congrArg (fun t => B64 * (B64 * t)) k2
  have m1'' := congrArg (fun t => B64 * (B64 * (B64 * t))) k3
  simp only [Nat.mul_add, ← Nat.mul_assoc] at *
  omega

theorem sub_words (a b : Nat) (ha : a < M256) (hb : b < M256) :
    let c1 := bb (wd0 a) (wd0 b) 0
    let c2 := bb (wd1 a) (wd1 b) c1
    let c3 := bb (wd2 a) (wd2 b) c2
    let c4 := bb (wd3 a) (wd3 b) c3
    ofW (bs (wd0 a) (wd0 b) 0) (bs (wd1 a) (wd1 b) c1) (bs (wd2 a) (wd2 b) c2) (bs (wd3 a) (wd3 b) c3) + b = a + M256 * c4 ∧ c1 ≤ 1 ∧ c2 ≤ 1 ∧ c3 ≤ 1 ∧ c4 ≤ 1 := by
  intro c1 c2 c3 c4
  have l1 : c1 ≤ 1 := bb_le _ _ _
  have l2 : c2 ≤ 1 := bb_le _ _ _
  have l3 : c3 ≤ 1 := bb_le _ _ _
  have l4 : c4 ≤ 1 := bb_le _ _ _
  refine ⟨?_, l1, l2, l3, l4⟩
  have e0 := bs_bb (wd0 a) (wd0 b) 0 (wd0_lt _) (wd0_lt _) (by omega)
  have e1 := bs_bb (wd1 a) (wd1 b) c1 (wd1_lt _) (wd1_lt _) l1
  have e2 := bs_bb (wd2 a) (wd2 b) c2 (wd2_lt _) (wd2_lt _) l2
  have e3 := bs_bb (wd3 a) (wd3 b) c3 (wd3_lt _) (wd3_lt _) l3
  have ea := ofW_wd a ha
  have eb := ofW_wd b hb
  change _ = _ + B64 * c1 at e0
  change _ = _ + B64 * c2 at e1
  change _ = _ + B64 * c3 at e2
  change _ = _ + B64 * c4 at e3
  generalize bs (wd0 a) (wd0 b) 0 = s0 at *
  generalize bs (wd1 a) (wd1 b) c1 = s1 at *
  generalize bs (wd2 a) (wd2 b) c2 = s2 at *
  generalize bs (wd3 a) (wd3 b) c3 = s3 at *
  clear_value c1 c2 c3 c4
  unfold ofW at *
  rw [← ea, ← eb]
  have k0 : s0 + wd0 b = wd0 a + B64 * c1 := by omega
  unfold M256
  clear ea eb ha hb
  have m1 := congrArg (B64 * ·) e1
  have m2 := congrArg (fun t => B64 * (B64 * t)) e2
  have m3 := congrArg (fun t => B64 * (B64 * (B64 * t))) e3
  simp only [Nat.mul_add, ← Nat.mul_assoc] at *
  omega

theorem add_mod_of (s t c : Nat) (hs : s < M256) (h : s + M256 * c = t) : t % M256 = s ∧ (c = 0 ↔ t < M256) := by
  obtain ⟨e1, e2⟩ := split_div t M256 c s M256_pos h.symm hs
  refine ⟨e1, ?_⟩
  constructor
  · rintro rfl; omega
  · intro ht; rw [← e2]; exact Nat.div_eq_of_lt ht

end Go.Proofs.YtljfhabhenaapaaDoor
namespace Go.Proofs.YtljfhabhenaapaaDoor

section
variable {P : Program}

theorem size_of_info {e : TypeId} {n : Nat} (hs : (P.info? e).map (·.size) = some n) (w : World) : (sizeOf e).run P w = .ok n w := by
  obtain ⟨i, hi, hn⟩ := Option.map_eq_some_iff.1 hs
  simp [sizeOf, typeInfo, hi, hn]

theorem run_part_int {e : TypeId} {k : IntKind} (he : P.underlying e = some (.int k)) (cs : Array Value) (off : Nat) (v : Value) (hv : cs[off]? = some v) (w : World) : (part e cs off).run P w = .ok v w := by
  simp [part, isAgg, run_underlying he, hv]

theorem run_arr_loop (d : Nat) {e : TypeId} {k : IntKind} (he : P.underlying e = some (.int k)) (X Y : Array Value) (fx fy : Nat → Int) (w : World) : ∀ (l : List Nat), (∀ i ∈ l, X[i]? = some (.int k (fx i)) ∧ Y[i]? = some (.int k (fy i))) →
    (forIn l (none, PUnit.unit) (fun i (_ : Option Bool × PUnit) => do
        let a ← part e X (i * 1)
        let b ← part e Y (i * 1)
        let r ← Op.equalIn (d + 1) e a b
        if (!r) = true then pure (ForInStep.done (some false, PUnit.unit)) else pure (ForInStep.yield (none, PUnit.unit)))).run P w =
      .ok (if l.all (fun i => fx i == fy i) then none else some false, PUnit.unit) w := by
  intro l
  induction l with
  | nil => intro _; simp
  | cons i l ih =>
    intro h
    obtain ⟨hx, hy⟩ := h i (by simp)
    simp only [List.forIn_cons, Sem.run_bind, Nat.mul_one, run_part_int he X i _ hx, run_part_int he Y i _ hy, Result.andThen_ok, run_equalIn_int w d e k k _ _ he]
    by_cases hq : fx i = fy i
    · have hb : (fx i == fy i) = true := by simpa using hq
      simp only [hb, Bool.not_true, Bool.false_eq_true, if_false, Sem.run_pure, Result.andThen_ok, List.all_cons, Bool.true_and]
      have := ih (fun j hj => h j (by simp [hj]))
      simpa only [Nat.mul_one] using this
    · have hb : (fx i == fy i) = false := by simpa using hq
      simp [hb]

theorem run_equalIn_arr (w : World) (d : Nat) (t e : TypeId) (len : Nat) (k : IntKind) (X Y : Array Value) (fx fy : Nat → Int) (ht : P.underlying t = some (.array len e)) (he : P.underlying e = some (.int k)) (hs : (P.info? e).map (·.size) = some 1)
    (h : ∀ i, i < len → X[i]? = some (.int k (fx i)) ∧ Y[i]? = some (.int k (fy i))) :
    (Op.equalIn (d + 2) t (.agg X) (.agg Y)).run P w = .ok ((List.range len).all fun i => fx i == fy i) w := by
  have hl := run_arr_loop (P := P) d he X Y fx fy w (List.range' 0 len) (fun i hi => h i (by simpa using hi))
  rw [Op.equalIn]
  simp only [Sem.run_bind, run_underlying ht, Result.andThen_ok, size_of_info hs]
  simp only [Std.Legacy.Range.forIn_eq_forIn_range', Std.Legacy.Range.size, Nat.sub_zero, Nat.add_sub_cancel, Nat.div_one]
  simp only [Nat.mul_one] at hl ⊢
  refine (congrArg (fun r => Result.andThen r _) hl).trans ?_
  simp only [Result.andThen_ok, List.range_eq_range']
  split <;> simp_all

/-- An element of an array of integers. -/
theorem run_index_arr {t e : TypeId} {len : Nat} {k : IntKind} (ht : P.underlying t = some (.array len e)) (he : P.underlying e = some (.int k)) (hs : (P.info? e).map (·.size) = some 1) (X : Array Value) (i : Nat) (v : Value) (hi : i < len) (hv : X[i]? = some v) (w : World) :
    (Instr.index t (.agg X) (.int .i64 (i : Int))).run P w = .ok v w := by
  have h2 : 0 ≤ (i : Int) ∧ (i : Int) < (len : Int) := by omega
  simp [Instr.index, asIntOf, run_underlying ht, h2, size_of_info hs, run_part_int he X i v hv]
  intro h3
  omega

end
end Go.Proofs.YtljfhabhenaapaaDoor
namespace Go.Proofs.YtljfhabhenaapaaDoor
open Go.RowKit
set_option linter.unusedVariables false

theorem pq (r : Nat) (h : r < 64) : 2 ^ r * 2 ^ (64 - r) = B64 := by
  rw [← Nat.pow_add, show r + (64 - r) = 64 from by omega]; rfl

theorem or_join (i x y : Nat) (hx : x % 2 ^ i = 0) (hy : y < 2 ^ i) : x ||| y = x + y := by
  have e : x = 2 ^ i * (x / 2 ^ i) := by have := Nat.div_add_mod x (2 ^ i); omega
  rw [e, Nat.two_pow_add_eq_or_of_lt hy]

theorem or64 (x y : Nat) (hx : x < B64) (hy : y < B64) : bits BinOp.or IntKind.u64 (x : Int) (y : Int) = ((x ||| y : Nat) : Int) := bits_or_u64_nat x y hx hy

/-- A word to the left by r, and what is beyond. -/
theorem shl_word (r x : Nat) (h : r < 64) : IntKind.u64.wrap ((x : Int) * 2 ^ ((r : Int)).toNat) = ((2 ^ r * (x % 2 ^ (64 - r)) : Nat) : Int) := by
  rw [IntKind.wrap_u64, Int.toNat_natCast]
  have e : ((x : Int) * 2 ^ r) = ((x * 2 ^ r : Nat) : Int) := by rw [Int.natCast_mul, Int.natCast_pow]; rfl
  rw [e]
  have : (x * 2 ^ r) % 18446744073709551616 = 2 ^ r * (x % 2 ^ (64 - r)) := by
    rw [Nat.mul_comm x, show (18446744073709551616 : Nat) = 2 ^ r * 2 ^ (64 - r) from (pq r h).symm, Nat.mul_mod_mul_left]
  rw [← this]
  omega
theorem shr_word (x s : Nat) : (x : Int) / 2 ^ s = ((x / 2 ^ s : Nat) : Int) := by
  rw [Int.natCast_ediv, Int.natCast_pow]; rfl
theorem sub_toNat (r : Nat) (h : r < 64) : (64 - (r : Int)).toNat = 64 - r := by omega

theorem shl_join (r x y : Nat) (h : r < 64) (hy : y < B64) :
    bits BinOp.or IntKind.u64 (IntKind.u64.wrap ((x : Int) * 2 ^ ((r : Int)).toNat)) ((y : Int) / 2 ^ (64 - (r : Int)).toNat) = ((2 ^ r * (x % 2 ^ (64 - r)) + y / 2 ^ (64 - r) : Nat) : Int) ∧ 2 ^ r * (x % 2 ^ (64 - r)) + y / 2 ^ (64 - r) < B64 := by
  have hpq := pq r h
  have hq : 0 < 2 ^ (64 - r) := Nat.two_pow_pos _
  have h1 : y / 2 ^ (64 - r) < 2 ^ r := Nat.div_lt_of_lt_mul (by rw [Nat.mul_comm, hpq]; exact hy)
  have h2 : x % 2 ^ (64 - r) < 2 ^ (64 - r) := Nat.mod_lt _ hq
  have h3 : 2 ^ r * (x % 2 ^ (64 - r)) + 2 ^ r ≤ B64 := by
    rw [← hpq]
    have := Nat.mul_le_mul_left (2 ^ r) (Nat.succ_le_of_lt h2)
    rwa [Nat.mul_succ] at this
  have h6 := Nat.two_pow_pos r
  generalize hA : 2 ^ r * (x % 2 ^ (64 - r)) = A at *
  generalize hC : y / 2 ^ (64 - r) = C at *
  have h4 : A < B64 := by omega
  have h5 : C < B64 := by omega
  refine ⟨?_, by omega⟩
  rw [shl_word r x h, sub_toNat r h, shr_word, hA, hC, or64 _ _ h4 h5, or_join r _ _ (by rw [← hA]; exact Nat.mul_mod_right _ _) h1]

theorem shr_join (r x y : Nat) (h : r < 64) (hr : 0 < r) (hy : y < B64) :
    bits BinOp.or IntKind.u64 ((y : Int) / 2 ^ ((r : Int)).toNat) (IntKind.u64.wrap ((x : Int) * 2 ^ (64 - (r : Int)).toNat)) = ((y / 2 ^ r + 2 ^ (64 - r) * (x % 2 ^ r) : Nat) : Int) ∧ y / 2 ^ r + 2 ^ (64 - r) * (x % 2 ^ r) < B64 := by
  have h64 : 64 - r < 64 := by omega
  have e := shl_join (64 - r) x y h64 hy
  rw [show 64 - (64 - r) = r from by omega] at e
  have e1 : ((64 - r : Nat) : Int) = 64 - (r : Int) := by omega
  have e2 : (64 - ((64 - r : Nat) : Int)).toNat = r := by omega
  rw [e2, e1] at e
  have hsw : bits BinOp.or IntKind.u64 ((y : Int) / 2 ^ ((r : Int)).toNat) (IntKind.u64.wrap ((x : Int) * 2 ^ (64 - (r : Int)).toNat)) = bits BinOp.or IntKind.u64 (IntKind.u64.wrap ((x : Int) * 2 ^ (64 - (r : Int)).toNat)) ((y : Int) / 2 ^ r) := by
    rw [Int.toNat_natCast]
    simp only [bits, BitVec.or_comm]
  rw [hsw, e.1]
  exact ⟨by rw [Nat.add_comm], by rw [Nat.add_comm]; exact e.2⟩

section
variable (a0 a1 a2 a3 p q : Nat)
def S0 : Nat := p * (a0 % q)
def S1 (x y : Nat) : Nat := p * (x % q) + y / q

/-- Four words times p, p q = 2^64. -/
theorem shl_words (hq : p * q = B64) :
    ofW (S0 a0 p q) (S1 p q a1 a0) (S1 p q a2 a1) (S1 p q a3 a2) + M256 * (a3 / q) = ofW a0 a1 a2 a3 * p := by
  unfold S0 S1 ofW M256
  have e0 := Nat.div_add_mod a0 q
  have e1 := Nat.div_add_mod a1 q
  have e2 := Nat.div_add_mod a2 q
  have e3 := Nat.div_add_mod a3 q
  generalize a0 % q = x0 at *
  generalize a1 % q = x1 at *
  generalize a2 % q = x2 at *
  generalize a3 % q = x3 at *
  generalize a0 / q = y0 at *
  generalize a1 / q = y1 at *
  generalize a2 / q = y2 at *
  generalize a3 / q = y3 at *
  subst e0 e1 e2 e3
  have k : ∀ y x, (q * y + x) * p = B64 * y + p * x := fun y x => by rw [Nat.add_mul, ← hq]; simp only [Nat.mul_comm, Nat.mul_left_comm]
  have t : ∀ A B C D, (A + B64 * (B + B64 * (C + B64 * D))) * p = A * p + B64 * (B * p + B64 * (C * p + B64 * (D * p))) := fun A B C D => by simp only [Nat.add_mul, Nat.mul_assoc]
  rw [t, k, k, k, k]
  simp only [Nat.mul_add, Nat.mul_assoc]
  omega

theorem shr_words (hq : p * q = B64) :
    ofW (a0 / p + q * (a1 % p)) (a1 / p + q * (a2 % p)) (a2 / p + q * (a3 % p)) (a3 / p) * p + a0 % p = ofW a0 a1 a2 a3 := by
  unfold ofW
  have e0 := Nat.div_add_mod a0 p
  have e1 := Nat.div_add_mod a1 p
  have e2 := Nat.div_add_mod a2 p
  have e3 := Nat.div_add_mod a3 p
  generalize a0 % p = x0 at *
  generalize a1 % p = x1 at *
  generalize a2 % p = x2 at *
  generalize a3 % p = x3 at *
  generalize a0 / p = y0 at *
  generalize a1 / p = y1 at *
  generalize a2 / p = y2 at *
  generalize a3 / p = y3 at *
  subst e0 e1 e2 e3
  have k : ∀ y x, (y + q * x) * p = p * y + B64 * x := fun y x => by rw [Nat.add_mul, ← hq]; simp only [Nat.mul_comm, Nat.mul_left_comm]
  have t : ∀ A B C D, (A + B64 * (B + B64 * (C + B64 * D))) * p = A * p + B64 * (B * p + B64 * (C * p + B64 * (D * p))) := fun A B C D => by simp only [Nat.add_mul, Nat.mul_assoc]
  rw [t, k, k, k, Nat.mul_comm y3 p]
  simp only [Nat.mul_add]
  omega
end

end Go.Proofs.YtljfhabhenaapaaDoor
namespace Go.Proofs.YtljfhabhenaapaaDoor
open Go.RowKit
set_option linter.unusedVariables false

def byteV (x : Nat) : Value := .int .u8 (x : Int)
/-- An ID's value, by its bytes. -/
def idA (xs : List Nat) : Array Value := (xs.map byteV).toArray
abbrev idv (xs : List Nat) : Value := .agg (idA xs)

theorem idA_size (xs : List Nat) : (idA xs).size = xs.length := by simp [idA]
theorem idA_get (xs : List Nat) (k : Nat) (h : k < xs.length) : (idA xs)[k]? = some (.int .u8 ((xs.getD k 0 : Nat) : Int)) := by
  unfold idA byteV
  rw [List.getElem?_toArray, List.getElem?_map, List.getElem?_eq_getElem h]
  simp [List.getD, List.getElem?_eq_getElem h]

/-- The number that bytes are, the lowest first. -/
def ofL : List Nat → Nat
  | [] => 0
  | x :: xs => x + 256 * ofL xs

theorem ofL_append (xs : List Nat) (x : Nat) : ofL (xs ++ [x]) = ofL xs + 256 ^ xs.length * x := by
  induction xs with
  | nil => simp [ofL]
  | cons y ys ih =>
    simp only [List.cons_append, ofL, ih, List.length_cons, Nat.pow_succ, Nat.mul_add]
    rw [Nat.mul_comm (256 ^ ys.length) 256, Nat.mul_assoc]
    omega
theorem ofL_lt (xs : List Nat) (h : ∀ x ∈ xs, x < 256) : ofL xs < 256 ^ xs.length := by
  induction xs with
  | nil => simp [ofL]
  | cons y ys ih =>
    have h1 := h y (by simp)
    have h2 := ih (fun x hx => h x (by simp [hx]))
    simp only [ofL, List.length_cons, Nat.pow_succ]
    omega
theorem ofL_take_succ (xs : List Nat) (k : Nat) (h : k < xs.length) : ofL (xs.take (k + 1)) = ofL (xs.take k) + 256 ^ k * xs.getD k 0 := by
  rw [List.take_add_one, List.getElem?_eq_getElem h]
  simp only [Option.toList_some, ofL_append, List.length_take, Nat.min_eq_left (Nat.le_of_lt h)]
  simp [List.getD, List.getElem?_eq_getElem h]
theorem pow256 (k : Nat) : 256 ^ k = 2 ^ (8 * k) := by rw [Nat.pow_mul]
theorem M256_256 : M256 = 256 ^ 32 := by kernel_rfl
theorem ofL_inj (xs ys : List Nat) (hl : xs.length = ys.length) (hx : ∀ x ∈ xs, x < 256) (hy : ∀ y ∈ ys, y < 256) (h : ofL xs = ofL ys) : xs = ys := by
  induction xs generalizing ys with
  | nil => cases ys with
    | nil => rfl
    | cons => simp at hl
  | cons x xs ih =>
    cases ys with
    | nil => simp at hl
    | cons y ys =>
      have h1 := hx x (by simp)
      have h2 := hy y (by simp)
      simp only [ofL] at h
      have e1 : x = y := by omega
      have e2 : ofL xs = ofL ys := by omega
      rw [e1, ih ys (by simpa using hl) (fun z hz => hx z (by simp [hz])) (fun z hz => hy z (by simp [hz])) e2]

/-- Byte k of a number. -/
def byteOf (n k : Nat) : Nat := n / 256 ^ k % 256
theorem byteOf_lt (n k : Nat) : byteOf n k < 256 := Nat.mod_lt _ (by omega)
/-- A number's bytes, so many. -/
def toL (n : Nat) : Nat → List Nat
  | 0 => []
  | m + 1 => n % 256 :: toL (n / 256) m
theorem toL_length (m n : Nat) : (toL n m).length = m := by
  induction m generalizing n with
  | zero => rfl
  | succ m ih => simp [toL, ih]
theorem toL_lt (m n : Nat) : ∀ x ∈ toL n m, x < 256 := by
  induction m generalizing n with
  | zero => intro x hx; simp [toL] at hx
  | succ m ih =>
    intro x hx
    simp only [toL, List.mem_cons] at hx
    rcases hx with rfl | hx
    · omega
    · exact ih _ x hx
theorem toL_getD (m n k : Nat) (h : k < m) : (toL n m).getD k 0 = byteOf n k := by
  induction m generalizing n k with
  | zero => omega
  | succ m ih =>
    cases k with
    | zero => simp [toL, byteOf]
    | succ k =>
      have := ih (n / 256) k (by omega)
      simp only [toL, List.getD_cons_succ, this, byteOf, Nat.div_div_eq_div_mul, Nat.pow_succ, Nat.mul_comm]
theorem ofL_toL (m n : Nat) (h : n < 256 ^ m) : ofL (toL n m) = n := by
  induction m generalizing n with
  | zero => simp at h; subst h; rfl
  | succ m ih =>
    simp only [toL, ofL]
    rw [ih (n / 256) (by rw [Nat.pow_succ] at h; omega)]
    omega
theorem toL_ofL (xs : List Nat) (h : ∀ x ∈ xs, x < 256) : toL (ofL xs) xs.length = xs := by
  induction xs with
  | nil => rfl
  | cons x xs ih =>
    have h1 := h x (by simp)
    simp only [ofL, List.length_cons, toL]
    rw [show (x + 256 * ofL xs) / 256 = ofL xs from by omega, show (x + 256 * ofL xs) % 256 = x from by omega, ih (fun z hz => h z (by simp [hz]))]

/-- A word of a number out of its bytes. -/
theorem byteOf_word (n k : Nat) : byteOf n k = (n / B64 ^ (k / 8) % B64) / 2 ^ (8 * (k % 8)) % 256 := by
  unfold byteOf
  obtain ⟨j, r, hr, rfl⟩ : ∃ j r, r < 8 ∧ k = 8 * j + r := ⟨k / 8, k % 8, by omega, by omega⟩
  rw [show (8 * j + r) / 8 = j from by omega, show (8 * j + r) % 8 = r from by omega]
  have e : (256 : Nat) ^ (8 * j + r) = B64 ^ j * 2 ^ (8 * r) := by
    rw [Nat.pow_add, Nat.pow_mul, pow256 r]
    rfl
  rw [e, ← Nat.div_div_eq_div_mul]
  generalize n / B64 ^ j = m
  have hb : B64 = 2 ^ (8 * r) * 2 ^ (64 - 8 * r) := by rw [← Nat.pow_add, show 8 * r + (64 - 8 * r) = 64 from by omega]; rfl
  rw [hb, Nat.mod_mul_right_div_self]
  have hd : (256 : Nat) ∣ 2 ^ (64 - 8 * r) := ⟨2 ^ (56 - 8 * r), by rw [show (256 : Nat) = 2 ^ 8 from rfl, ← Nat.pow_add, show 8 + (56 - 8 * r) = 64 - 8 * r from by omega]⟩
  rw [Nat.mod_mod_of_dvd _ hd]

theorem B64_pow' : B64 = 2 ^ 64 := by kernel_rfl

/-! ### one byte more in a number of four words -/
theorem word_lo (p m i : Nat) : (p + B64 ^ (i + 1) * m) / B64 ^ i % B64 = p / B64 ^ i % B64 := by
  have hp : 0 < B64 ^ i := Nat.pow_pos B64_pos
  rw [Nat.pow_succ, Nat.mul_assoc, Nat.add_mul_div_left _ _ hp, Nat.add_mul_mod_self_left]
theorem word_hi (n i : Nat) (h : n < B64 ^ i) : n / B64 ^ i % B64 = 0 := by rw [Nat.div_eq_of_lt h]; rfl

def wdi (n i : Nat) : Nat := n / B64 ^ i % B64
theorem wdi_0 (n : Nat) : wd0 n = wdi n 0 := by unfold wd0 wdi; simp
theorem wdi_1 (n : Nat) : wd1 n = wdi n 1 := by unfold wd1 wdi; simp
theorem wdi_2 (n : Nat) : wd2 n = wdi n 2 := by unfold wd2 wdi; rw [Nat.pow_succ, Nat.pow_one, ← Nat.div_div_eq_div_mul]
theorem wdi_3 (n : Nat) : wd3 n = wdi n 3 := by unfold wd3 wdi; rw [Nat.pow_succ, Nat.pow_succ, Nat.pow_one, ← Nat.div_div_eq_div_mul, ← Nat.div_div_eq_div_mul]

theorem pow256_split (j r : Nat) : (256 : Nat) ^ (8 * j + r) = B64 ^ j * 2 ^ (8 * r) := by
  rw [Nat.pow_add, Nat.pow_mul, pow256 r]
  rfl

theorem byte_other (p x k i : Nat) (hp : p < 256 ^ k) (hx : x < 256) (hi : i ≠ k / 8) : wdi (p + 256 ^ k * x) i = wdi p i := by
  obtain ⟨j, r, hr, rfl⟩ : ∃ j r, r < 8 ∧ k = 8 * j + r := ⟨k / 8, k % 8, by omega, by omega⟩
  rw [show (8 * j + r) / 8 = j from by omega] at hi
  rw [pow256_split] at *
  unfold wdi
  rcases Nat.lt_or_ge i j with h | h
  · obtain ⟨d, rfl⟩ : ∃ d, j = i + 1 + d := ⟨j - (i + 1), by omega⟩
    rw [Nat.pow_add, Nat.mul_assoc, Nat.mul_assoc, word_lo]
  · have h1 : i = j + 1 + (i - (j + 1)) := by omega
    have hB : B64 ^ (j + 1) ≤ B64 ^ i := Nat.pow_le_pow_right B64_pos (by omega)
    have h2 : 2 ^ (8 * r) * 256 ≤ B64 := by
      have : (2 : Nat) ^ (8 * r) * 256 = 2 ^ (8 * r + 8) := by rw [Nat.pow_add]
      rw [this, B64_pow']
      exact Nat.pow_le_pow_right (by omega) (by omega)
    have h3 : B64 ^ j * (2 ^ (8 * r) * 256) ≤ B64 ^ (j + 1) := by
      rw [Nat.pow_succ]; exact Nat.mul_le_mul_left _ h2
    have h4 : B64 ^ j * 2 ^ (8 * r) * x + B64 ^ j * 2 ^ (8 * r) ≤ B64 ^ j * (2 ^ (8 * r) * 256) := by
      rw [← Nat.mul_succ, ← Nat.mul_assoc]; exact Nat.mul_le_mul_left _ (by omega)
    rw [word_hi _ _ (by omega), word_hi _ _ (by omega)]

theorem byte_word (p x k : Nat) (hp : p < 256 ^ k) (hx : x < 256) :
    bits BinOp.or IntKind.u64 ((wdi p (k / 8) : Nat) : Int) (IntKind.u64.wrap (IntKind.u64.wrap ((x : Nat) : Int) * 2 ^ (k % 8 * 8))) = ((wdi (p + 256 ^ k * x) (k / 8) : Nat) : Int) := by
  obtain ⟨j, r, hr, rfl⟩ : ∃ j r, r < 8 ∧ k = 8 * j + r := ⟨k / 8, k % 8, by omega, by omega⟩
  rw [show (8 * j + r) / 8 = j from by omega, show (8 * j + r) % 8 * 8 = 8 * r from by omega]
  rw [pow256_split] at *
  have hpj : 0 < B64 ^ j := Nat.pow_pos B64_pos
  have h0 : p / B64 ^ j < 2 ^ (8 * r) := Nat.div_lt_of_lt_mul hp
  have h2 : 2 ^ (8 * r) * 256 ≤ B64 := by
    have : (2 : Nat) ^ (8 * r) * 256 = 2 ^ (8 * r + 8) := by rw [Nat.pow_add]
    rw [this, B64_pow']
    exact Nat.pow_le_pow_right (by omega) (by omega)
  have hs : 2 ^ (8 * r) * x + 2 ^ (8 * r) ≤ 2 ^ (8 * r) * 256 := by rw [← Nat.mul_succ]; exact Nat.mul_le_mul_left _ (by omega)
  have e1 : IntKind.u64.wrap ((x : Nat) : Int) = (x : Int) := by rw [IntKind.wrap_u64]; omega
  have e2 : IntKind.u64.wrap ((x : Int) * 2 ^ (8 * r)) = ((2 ^ (8 * r) * x : Nat) : Int) := by
    have e : ((x : Int) * 2 ^ (8 * r)) = ((2 ^ (8 * r) * x : Nat) : Int) := by rw [Int.natCast_mul, Int.natCast_pow, Int.mul_comm]; rfl
    rw [e, IntKind.wrap_u64]
    have : 2 ^ (8 * r) * x < 18446744073709551616 := by unfold B64 at h2; omega
    omega
  have ew : wdi p j = p / B64 ^ j := Nat.mod_eq_of_lt (by omega)
  have en : wdi (p + B64 ^ j * 2 ^ (8 * r) * x) j = p / B64 ^ j + 2 ^ (8 * r) * x := by
    unfold wdi
    rw [Nat.mul_assoc, Nat.add_mul_div_left _ _ hpj]
    exact Nat.mod_eq_of_lt (by omega)
  rw [e1, e2, ew, en]
  have hsw : bits BinOp.or IntKind.u64 ((p / B64 ^ j : Nat) : Int) ((2 ^ (8 * r) * x : Nat) : Int) = ((p / B64 ^ j ||| 2 ^ (8 * r) * x : Nat) : Int) := or64 _ _ (by omega) (by omega)
  rw [hsw, Nat.or_comm, or_join (8 * r) _ _ (Nat.mul_mod_right _ _) h0, Nat.add_comm]

end Go.Proofs.YtljfhabhenaapaaDoor
