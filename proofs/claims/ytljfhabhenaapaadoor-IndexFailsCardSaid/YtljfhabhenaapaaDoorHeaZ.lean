/-
  Headers: their bytes and names.
-/
import Derived.Test.YtljfhabhenaapaaDoorHashZ
import Derived.Test.YtljfhabhenaapaaDoorBytZ
namespace Go.Proofs.YtljfhabhenaapaaDoor
open Go.RowKit
set_option maxRecDepth 100000
set_option linter.unusedVariables false

/-- A header by its fields. -/
structure Hd where
  v : Nat
  p : List Nat
  r : List Nat
  t : Nat
  b : Nat
  n : Nat
def q32 : Nat := 4294967296
structure IsHd (h : Hd) : Prop where
  v : h.v < 4294967296
  pl : h.p.length = 32
  px : ∀ x ∈ h.p, x < 256
  rl : h.r.length = 32
  rx : ∀ x ∈ h.r, x < 256
  t : h.t < 4294967296
  b : h.b < 4294967296
  n : h.n < 4294967296
def u32V (x : Nat) : Value := .int .u32 (x : Int)
def hdL (h : Hd) : List Value := u32V h.v :: (h.p.map byteV ++ (h.r.map byteV ++ [u32V h.t, u32V h.b, u32V h.n]))
def hdA (h : Hd) : Array Value := (hdL h).toArray
abbrev hdv (h : Hd) : Value := .agg (hdA h)
def b4 (n : Nat) : List Nat := [n % 256, n / 256 % 256, n / 65536 % 256, n / 16777216 % 256]
def hB (h : Hd) : List Nat := b4 h.v ++ (h.p ++ (h.r ++ (b4 h.t ++ (b4 h.b ++ b4 h.n))))
def n4 (l : List Nat) : Nat := nth l 0 + 256 * nth l 1 + 65536 * nth l 2 + 16777216 * nth l 3
def hOf (l : List Nat) : Hd := ⟨n4 l, (l.drop 4).take 32, (l.drop 36).take 32, n4 (l.drop 68), n4 (l.drop 72), n4 (l.drop 76)⟩
def hd0 : Hd := ⟨0, zeros 32, zeros 32, 0, 0, 0⟩

theorem b4_length (n : Nat) : (b4 n).length = 4 := rfl
theorem b4_lt (n : Nat) : ∀ x ∈ b4 n, x < 256 := by
  intro x hx
  simp only [b4, List.mem_cons, List.not_mem_nil, or_false] at hx
  omega
theorem n4_b4 (n : Nat) (h : n < 4294967296) (l : List Nat) : n4 (b4 n ++ l) = n := by
  show n % 256 + 256 * (n / 256 % 256) + 65536 * (n / 65536 % 256) + 16777216 * (n / 16777216 % 256) = n
  omega
theorem n4_b4' (n : Nat) (h : n < 4294967296) : n4 (b4 n) = n := by
  have e := n4_b4 n h []
  rwa [List.append_nil] at e
theorem hB_length {h : Hd} (k : IsHd h) : (hB h).length = 80 := by
  simp [hB, b4_length, k.pl, k.rl]
theorem hB_lt {h : Hd} (k : IsHd h) : ∀ x ∈ hB h, x < 256 := by
  intro x hx
  simp only [hB, List.mem_append] at hx
  rcases hx with hx | hx | hx | hx | hx | hx
  · exact b4_lt _ x hx
  · exact k.px x hx
  · exact k.rx x hx
  · exact b4_lt _ x hx
  · exact b4_lt _ x hx
  · exact b4_lt _ x hx
theorem hOf_hB {h : Hd} (k : IsHd h) : hOf (hB h) = h := by
  have d4 : (hB h).drop 4 = h.p ++ (h.r ++ (b4 h.t ++ (b4 h.b ++ b4 h.n))) := rfl
  have d36 : (hB h).drop 36 = h.r ++ (b4 h.t ++ (b4 h.b ++ b4 h.n)) := by
    rw [show 36 = 4 + 32 from rfl, ← List.drop_drop, d4, List.drop_left' k.pl]
  have d68 : (hB h).drop 68 = b4 h.t ++ (b4 h.b ++ b4 h.n) := by
    rw [show 68 = 36 + 32 from rfl, ← List.drop_drop, d36, List.drop_left' k.rl]
  have d72 : (hB h).drop 72 = b4 h.b ++ b4 h.n := by
    rw [show 72 = 68 + 4 from rfl, ← List.drop_drop, d68]; rfl
  have d76 : (hB h).drop 76 = b4 h.n := by
    rw [show 76 = 72 + 4 from rfl, ← List.drop_drop, d72]; rfl
  unfold hOf
  rw [d4, d36, d68, d72, d76, List.take_left' k.pl, List.take_left' k.rl, n4_b4 _ k.t, n4_b4 _ k.b, n4_b4' _ k.n]
  have e : n4 (hB h) = h.v := n4_b4 _ k.v _
  rw [e]
theorem nth_mem_lt {l : List Nat} (h : ∀ x ∈ l, x < 256) (i : Nat) : nth l i < 256 := nth_lt l i 256 (by omega) h
theorem n4_lt {l : List Nat} (h : ∀ x ∈ l, x < 256) : n4 l < 4294967296 := by
  have h0 := nth_mem_lt h 0
  have h1 := nth_mem_lt h 1
  have h2 := nth_mem_lt h 2
  have h3 := nth_mem_lt h 3
  unfold n4
  omega
theorem drop_lt {l : List Nat} (h : ∀ x ∈ l, x < 256) (k : Nat) : ∀ x ∈ l.drop k, x < 256 := fun x hx => h x (List.mem_of_mem_drop hx)
theorem hOf_is {l : List Nat} (hl : l.length = 80) (h : ∀ x ∈ l, x < 256) : IsHd (hOf l) where
  v := n4_lt h
  pl := by show ((l.drop 4).take 32).length = 32; rw [List.length_take, List.length_drop]; omega
  px := fun x hx => h x (List.mem_of_mem_drop (List.mem_of_mem_take hx))
  rl := by show ((l.drop 36).take 32).length = 32; rw [List.length_take, List.length_drop]; omega
  rx := fun x hx => h x (List.mem_of_mem_drop (List.mem_of_mem_take hx))
  t := n4_lt (drop_lt h _)
  b := n4_lt (drop_lt h _)
  n := n4_lt (drop_lt h _)
theorem b4_n4 {l : List Nat} (h : ∀ x ∈ l, x < 256) (hl : 4 ≤ l.length) : b4 (n4 l) = l.take 4 := by
  match l, hl with
  | a :: b :: c :: d :: r, _ =>
    have h0 := h a (by simp)
    have h1 := h b (by simp)
    have h2 := h c (by simp)
    have h3 := h d (by simp)
    show b4 (a + 256 * b + 65536 * c + 16777216 * d) = [a, b, c, d]
    unfold b4
    simp only [List.cons.injEq, and_true]
    omega
theorem hB_hOf {l : List Nat} (hl : l.length = 80) (h : ∀ x ∈ l, x < 256) : hB (hOf l) = l := by
  show b4 (n4 l) ++ ((l.drop 4).take 32 ++ ((l.drop 36).take 32 ++ (b4 (n4 (l.drop 68)) ++ (b4 (n4 (l.drop 72)) ++ b4 (n4 (l.drop 76)))))) = l
  rw [b4_n4 h (by omega), b4_n4 (drop_lt h _) (by rw [List.length_drop]; omega), b4_n4 (drop_lt h _) (by rw [List.length_drop]; omega), b4_n4 (drop_lt h _) (by rw [List.length_drop]; omega)]
  have t76 : (l.drop 76).take 4 = l.drop 76 := List.take_of_length_le (by rw [List.length_drop]; omega)
  have e72 : (l.drop 72).take 4 ++ l.drop 76 = l.drop 72 := by rw [show 76 = 72 + 4 from rfl, ← List.drop_drop]; exact List.take_append_drop _ _
  have e68 : (l.drop 68).take 4 ++ l.drop 72 = l.drop 68 := by rw [show 72 = 68 + 4 from rfl, ← List.drop_drop]; exact List.take_append_drop _ _
  have e36 : (l.drop 36).take 32 ++ l.drop 68 = l.drop 36 := by rw [show 68 = 36 + 32 from rfl, ← List.drop_drop]; exact List.take_append_drop _ _
  have e4 : (l.drop 4).take 32 ++ l.drop 36 = l.drop 4 := by rw [show 36 = 4 + 32 from rfl, ← List.drop_drop]; exact List.take_append_drop _ _
  rw [t76, e72, e68, e36, e4]
  exact List.take_append_drop _ _
theorem hB_inj {g h : Hd} (kg : IsHd g) (kh : IsHd h) (e : hB g = hB h) : g = h := by rw [← hOf_hB kg, ← hOf_hB kh, e]
theorem hd0_is : IsHd hd0 := by
  constructor <;> first | decide | exact zeros_lt 32
theorem hdL_length {h : Hd} (k : IsHd h) : (hdL h).length = 68 := by simp [hdL, k.pl, k.rl]
theorem hdA_size {h : Hd} (k : IsHd h) : (hdA h).size = 68 := by unfold hdA; rw [List.size_toArray, hdL_length k]
theorem hdA_v (h : Hd) : (hdA h)[0]? = some (u32V h.v) := rfl
theorem hdA_p {h : Hd} (k : IsHd h) (i : Nat) (hi : i < 32) : (hdA h)[1 + i]? = some (.int .u8 ((nth h.p i : Nat) : Int)) := by
  have hp := k.pl
  unfold hdA hdL
  rw [List.getElem?_toArray, Nat.add_comm 1 i, List.getElem?_cons_succ, List.getElem?_append_left (by rw [List.length_map]; omega), List.getElem?_map, List.getElem?_eq_getElem (by omega)]
  unfold nth byteV
  simp [List.getD, List.getElem?_eq_getElem (show i < h.p.length by omega)]
theorem hdA_r {h : Hd} (k : IsHd h) (i : Nat) (hi : i < 32) : (hdA h)[33 + i]? = some (.int .u8 ((nth h.r i : Nat) : Int)) := by
  have hp := k.pl
  have hr := k.rl
  unfold hdA hdL
  rw [List.getElem?_toArray, show 33 + i = (32 + i) + 1 by omega, List.getElem?_cons_succ, List.getElem?_append_right (by rw [List.length_map]; omega), List.length_map, hp, show 32 + i - 32 = i by omega, List.getElem?_append_left (by rw [List.length_map]; omega), List.getElem?_map, List.getElem?_eq_getElem (by omega)]
  unfold nth byteV
  simp [List.getD, List.getElem?_eq_getElem (show i < h.r.length by omega)]
theorem hdA_end {h : Hd} (k : IsHd h) (i : Nat) : (hdA h)[65 + i]? = [u32V h.t, u32V h.b, u32V h.n][i]? := by
  have hp := k.pl
  have hr := k.rl
  unfold hdA hdL
  rw [List.getElem?_toArray, show 65 + i = (64 + i) + 1 by omega, List.getElem?_cons_succ, List.getElem?_append_right (by rw [List.length_map]; omega), List.length_map, hp, List.getElem?_append_right (by rw [List.length_map]; omega), List.length_map, hr, show 64 + i - 32 - 32 = i by omega]
theorem hdA_t {h : Hd} (k : IsHd h) : (hdA h)[65]? = some (.int .u32 (h.t : Int)) := hdA_end k 0
theorem hdA_b {h : Hd} (k : IsHd h) : (hdA h)[66]? = some (.int .u32 (h.b : Int)) := hdA_end k 1
theorem hdA_n {h : Hd} (k : IsHd h) : (hdA h)[67]? = some (.int .u32 (h.n : Int)) := hdA_end k 2
theorem hdA_one (h : Hd) : (hdA h).all (·.oneCell') = true := all_oneCell_toArray (by
  intro v hv
  simp only [hdL, List.mem_cons, List.mem_append, List.mem_map, List.not_mem_nil, or_false] at hv
  rcases hv with rfl | ⟨x, _, rfl⟩ | ⟨x, _, rfl⟩ | rfl | rfl | rfl <;> rfl)
end Go.Proofs.YtljfhabhenaapaaDoor
namespace Go.Proofs.YtljfhabhenaapaaDoor
open Go.RowKit
set_option linter.unusedVariables false

def byR : RowT Nat := ⟨5, 100, 1, 1, fun x => [.int .u8 (x : Int)], 0⟩
theorem byR_ok : byR.Ok where
  ht := Tryd.underlying100
  info := by
    obtain ⟨i, h1, h2, h3, h4⟩ := byte_info
    exact ⟨i, _, h1, h2, h3, h4, rfl⟩
  len := fun _ => rfl
  one := fun x v hv => by simp only [byR, List.mem_singleton] at hv; subst hv; rfl
  pos := by decide
  bys := by decide
theorem bs_byR {w : World} {B : Nat} {v : Value} {xs : List Nat} (h : BsV w B v xs) : RowV byR w B v xs := by
  obtain ⟨s, cap, rfl, h1, h2, h3, h4⟩ := h
  refine ⟨s, cap, rfl, h1, h2, fun hne => ?_⟩
  obtain ⟨b, o, e, hb, hc⟩ := h4 hne
  refine ⟨b, o, e, hb, fun i x hx j u hu => ?_⟩
  have hi := (List.getElem?_eq_some_iff.1 hx).1
  have e1 : nth xs i = x := by unfold nth; rw [List.getD, hx]; rfl
  match j, hu with
  | 0, hu =>
    have hv : some (Value.int .u8 (x : Int)) = some u := hu
    have h := hc i hi
    rw [e1, hv] at h
    rw [show byR.k = 1 from rfl, Nat.mul_one, Nat.add_zero]
    exact h
theorem byR_bs {w : World} {B : Nat} {v : Value} {xs : List Nat} (h : RowV byR w B v xs) (hx : ∀ x ∈ xs, x < 256) : BsV w B v xs := by
  obtain ⟨s, cap, rfl, h1, h2, h4⟩ := h
  refine ⟨s, cap, rfl, h1, h2, hx, fun hne => ?_⟩
  obtain ⟨b, o, e, hb, hc⟩ := h4 hne
  refine ⟨b, o, e, hb, fun i hi => ?_⟩
  have hg := List.getElem?_eq_getElem hi
  have h := hc i _ hg 0 (.int .u8 ((xs[i] : Nat) : Int)) rfl
  rw [show byR.k = 1 from rfl, Nat.mul_one, Nat.add_zero] at h
  have e1 : nth xs i = xs[i] := by unfold nth; rw [List.getD, hg]; rfl
  rw [h, e1]
theorem wpList_appR {ops : Array Oper} {rest : List Oper} {o : Oper} {a : Act} {w W : World} {Q : Exit → Act → World → Prop} {v1 v2 v : Value} (t : TypeId) (hg : o.guard = none) (s x : Operand)
    (hop : o.op = Op.call { callee := Callee.builtin Builtin.append, args := #[s, x], argTypes := #[t, t] }) (hty : o.type = t) (hs : a.eval s = v1) (hx : a.eval x = v2)
    (hrun : (Builtin.append_ #[t, t] t #[v1, v2]).run Tryd.prog w = .ok v W) (hK : wpList Tryd.prog ops Q rest (a.put o.dst v) W) : wpList Tryd.prog ops Q (o :: rest) a w := by
  refine wpList_plain hg fun K hK' => ?_
  unfold Oper.wp
  simp [execOp, hop, resolve, invoke, builtin, hs, hx, hty, hrun, Result.andThen]
  exact hK' _ _ hK

/-- Blocks of other types than a byte's are as they were. -/
def Kept (w W : World) : Prop := ∀ b t cs, t ≠ byR.e → Bk w b t cs → Bk W b t cs
theorem Kept.refl (w : World) : Kept w w := fun _ _ _ _ h => h
theorem Kept.trans {a b c : World} (h : Kept a b) (k : Kept b c) : Kept a c := fun i t cs ht hb => k i t cs ht (h i t cs ht hb)
theorem Kept.of {w W : World} (h : Below w.heap.size w W) : Kept w W := fun _ _ _ _ hb => hb.keep h
theorem Kept.app {w W : World} {lo : Nat} {v : Value} {xs : List Nat} (hm : MineR byR w lo v xs) (hb : ButR v w W) : Kept w W := fun b t cs ht hk => hb.2 _ _ _ hk fun o n c he => by
  rcases hm with ⟨rfl, rfl⟩ | ⟨T, cap, z, rfl, _, _, _, K⟩
  · cases he
  · cases he
    exact ht (Bk.type_eq hk K)
theorem kept_hd : (32 : Nat) ≠ byR.e := by decide
theorem kept_u32 : (28 : Nat) ≠ byR.e := by decide
theorem kept_id : (30 : Nat) ≠ byR.e := by decide
theorem byR_flat (xs : List Nat) : byR.flat xs = xs.map byteV := by
  unfold RowT.flat
  induction xs with
  | nil => rfl
  | cons x r ih => rw [List.flatMap_cons, ih]; rfl
theorem MineR.mine {W : World} {lo : Nat} {v : Value} {xs : List Nat} (h : MineR byR W lo v xs) : Mine W lo v xs := by
  rcases h with h | ⟨T, cap, z, e, hc, hc2, hT, K⟩
  · exact .inl h
  · refine .inr ⟨T, cap, z, e, hc, hc2, hT, ?_⟩
    rw [byR_flat] at K
    exact K
theorem MineR.bs {W : World} {lo : Nat} {v : Value} {xs : List Nat} (h : MineR byR W lo v xs) (hx : ∀ x ∈ xs, x < 256) : BsV W W.heap.size v xs := h.mine.bs hx
/-- A row that is made, with nothing in it yet. -/
theorem run_makeR {α : Type} {R : RowT α} (h : R.Ok) (w : World) (m : Nat) (hm : m ≤ 1000000) :
    (Instr.makeSlice R.t (.int .i64 0) (.int .i64 (m : Int))).run Tryd.prog w = .ok (.slice (some ⟨w.heap.size, 0, none⟩) 0 m) (w.alloc (.cells (R.flat (List.replicate m R.z)).toArray R.e)) := by
  obtain ⟨i, zv, hi, hz, hs, hby, hzc⟩ := h.info
  have hb := h.bys
  have hle : m * R.by_ ≤ 1000000 * 4096 := Nat.mul_le_mul hm hb
  have h1 := run_make (P := Tryd.prog) w R.t R.e i _ h.ht hi hz .i64 .i64 0 (m : Int) (by omega) (by omega) (by
    rw [hby]
    have e : ((R.by_ : Nat) : Int) * (m : Int) = ((m * R.by_ : Nat) : Int) := by rw [Int.natCast_mul, Int.mul_comm]
    rw [e]
    omega) (by omega)
  have hcs : zv.cells.size = R.k := by rw [hzc, List.size_toArray, h.len]
  have e : madeCells zv.cells (m * R.k) = (R.flat (List.replicate m R.z)).toArray := by rw [← hcs]; exact zero_rows h zv hzc m
  rw [Int.toNat_natCast, hs, e] at h1
  exact h1
theorem mine_made {α : Type} {R : RowT α} (w : World) (m : Nat) (hm : m ≤ 1000000) (lo : Nat) (hlo : lo ≤ w.heap.size) : MineR R (w.alloc (.cells (R.flat (List.replicate m R.z)).toArray R.e)) lo (.slice (some ⟨w.heap.size, 0, none⟩) 0 m) [] :=
  .inr ⟨w.heap.size, m, m, rfl, by simp, by omega, hlo, heap_alloc_new w _⟩
theorem wpList_mkR {ops : Array Oper} {rest : List Oper} {o : Oper} {a : Act} {w W : World} {Q : Exit → Act → World → Prop} {v1 v2 v : Value} (t : TypeId) (hg : o.guard = none) (l c : Operand)
    (hop : o.op = Op.makeSlice t l c) (hs : a.eval l = v1) (hx : a.eval c = v2)
    (hrun : (Instr.makeSlice t v1 v2).run Tryd.prog w = .ok v W) (hK : wpList Tryd.prog ops Q rest (a.put o.dst v) W) : wpList Tryd.prog ops Q (o :: rest) a w := by
  refine wpList_plain hg fun K hK' => ?_
  unfold Oper.wp
  simp [execOp, hop, hs, hx, hrun, Result.andThen]
  exact hK' _ _ hK
end Go.Proofs.YtljfhabhenaapaaDoor
namespace Go.Proofs.YtljfhabhenaapaaDoor
open Go.RowKit
set_option linter.unusedVariables false

theorem u8_of (n k : Nat) (h : n < 4294967296) : IntKind.u8.wrap ((n / k : Nat) : Int) = ((n / k % 256 : Nat) : Int) := by
  rw [IntKind.wrap_u8]; omega
def u32s (ns : List Nat) : Array Value := (ns.map u32V).toArray
theorem u32s_get (ns : List Nat) (k : Nat) (h : k < ns.length) : (u32s ns)[k]? = some (.int .u32 ((nth ns k : Nat) : Int)) := by
  unfold u32s u32V
  rw [List.getElem?_toArray, List.getElem?_map, List.getElem?_eq_getElem h]
  unfold nth
  simp [List.getD, List.getElem?_eq_getElem h]
def b4s (ns : List Nat) : List Nat := (ns.map b4).flatten
theorem b4s_succ (ns : List Nat) (k : Nat) (h : k < ns.length) : b4s (ns.take (k + 1)) = b4s (ns.take k) ++ b4 (nth ns k) := by
  unfold b4s nth
  rw [List.take_add_one, List.getElem?_eq_getElem h, List.map_append, List.flatten_append]
  simp [List.getD, List.getElem?_eq_getElem h]
theorem b4s_length (ns : List Nat) : (b4s ns).length = 4 * ns.length := by
  unfold b4s
  induction ns with
  | nil => rfl
  | cons x r ih => rw [List.map_cons, List.flatten_cons, List.length_append, ih, b4_length, List.length_cons]; omega
theorem b4_cells (x : Nat) (h : x < 4294967296) : (byR.flat (b4 x)).toArray = #[.int .u8 ((x : Int) % 256), .int .u8 ((x : Int) / 256 % 256), .int .u8 ((x : Int) / 65536 % 256), .int .u8 ((x : Int) / 16777216)] := by
  have e1 : ((x % 256 : Nat) : Int) = (x : Int) % 256 := by omega
  have e2 : ((x / 256 % 256 : Nat) : Int) = (x : Int) / 256 % 256 := by omega
  have e3 : ((x / 65536 % 256 : Nat) : Int) = (x : Int) / 65536 % 256 := by omega
  have e4 : ((x / 16777216 % 256 : Nat) : Int) = (x : Int) / 16777216 := by omega
  rw [byR_flat, ← e1, ← e2, ← e3, ← e4]
  rfl
set_option maxRecDepth 100000 in
set_option maxHeartbeats 2000000 in
theorem put_any (xs ns : List Nat) (v : Value) (b lo n : Nat) (w : World) (hn : n = ns.length) (hm : MineR byR w lo v xs) (hlo : lo ≤ w.heap.size) (hl : Bk w b 28 (u32s ns)) (hlt : ∀ x ∈ ns, x < 4294967296) (hlen : xs.length + 4 * n ≤ 100000) :
    Calls Tryd.prog 66 #[v, .slice (some ⟨b, 0, none⟩) n n] w fun e w' => ∃ v', e = .returned v' ∧ MineR byR w' lo v' (xs ++ b4s ns) ∧ Below lo w w' ∧ Kept w w' := by
  have HM := Lib.hid hm
  have HL := Lib.hid hl
  have HLT := Lib.hid hlt
  have HN := Lib.hid hn
  obtain ⟨s0, c0, rfl⟩ := hm.slice
  clear hm hl hlt hn
  go_enter Tryd.func66, Tryd.ntmps66
  go_wp2_with fail
  go_loopw [0, 9] (fun a i wr => ∃ k : Nat, k ≤ n ∧ i = .int .i64 k ∧ Hid (MineR byR wr lo a (xs ++ b4s (ns.take k))) ∧ Hid (Below lo w wr) ∧ Hid (Kept w wr)) (fun _ i _ => n - (intOf i).toNat)
  case atStart => exact ⟨0, Nat.zero_le _, rfl, by rw [List.take_zero]; show MineR _ _ _ _ (xs ++ []); rw [List.append_nil]; exact HM.out, Below.refl _ _, Kept.refl _⟩
  case round =>
    obtain ⟨k, hk, rfl, HMk, HB, HK⟩ := hrel
    by_cases hlt : k < n
    · have K := HK.out _ _ _ kept_u32 HL.out
      have hc := (K.cell k).trans (u32s_get ns k (by rw [← HN.out]; exact hlt))
      have hz := K.lt
      have hx : nth ns k < 4294967296 := nth_lt ns k _ (by omega) HLT.out
      have hst := b4s_succ ns k (by rw [← HN.out]; exact hlt)
      have HST := Lib.hid hst
      have hkl : (b4s (ns.take k)).length ≤ 4 * n := by rw [b4s_length, List.length_take]; omega
      have hdk : decide ((k : Int) < (n : Int)) = true := decide_eq_true (by omega)
      generalize nth ns k = x at *
      clear hst
      obtain ⟨Z, hZ⟩ : ∃ Z, Z = xs ++ b4s (ns.take k) := ⟨_, rfl⟩
      have hzl : Z.length ≤ xs.length + 4 * n := by rw [hZ, List.length_append]; omega
      rw [← hZ] at HMk
      have HBE : Hid (Z ++ b4 x = xs ++ b4s (ns.take (k + 1))) := by
        show _ = _
        rw [hZ, HST.out, List.append_assoc]
      obtain ⟨sa, ca, rfl⟩ := HMk.out.slice
      clear hZ hkl HST
      go_upto_region 4 with fail
      have hbc := b4_cells x hx
      have hA := (Below.refl wr.heap.size wr).alloc (Nat.le_refl _) (.cells (byR.flat (b4 x)).toArray 5)
      have M4 := HMk.out.keep hA
      obtain ⟨v5, W5, hrun5, M5, hb5, hbut5⟩ := appR byR_ok Z (b4 x) _ _ lo _ M4 (by have := HB.out.size; have := hA.size; omega) (row_built byR_ok (L := b4 x) (n := 4) (t := 5) (Bk.new wr 5 _) rfl (by decide)) (by rw [b4_length]; omega)
      have HK5 := Lib.hid ((HK.out.trans (Kept.of hA)).trans (Kept.app M4 hbut5))
      have HB5 := Lib.hid ((HB.out.trans (hA.mono (Nat.le_trans hlo HB.out.size))).trans hb5)
      rw [HBE.out] at M5
      have HM5 := Lib.hid M5
      rw [hbc] at hrun5
      clear hA M4 hb5 hbut5 hbc M5
      go_wp2_with (refine wpList_appR (v1 := .slice sa Z.length ca) (v2 := .slice (some ⟨wr.heap.size, 0, none⟩) 4 4) 100 rfl (.tmp 13) (.tmp 25) rfl rfl rfl rfl hrun5 ?_)
      go_roundw
      case rel => exact ⟨k + 1, by omega, by go_num, HM5.out, HB5.out, HK5.out⟩
      case measure => simp [intOf]; omega
    · obtain rfl : k = n := by omega
      have hdk : decide ((k : Int) < (k : Int)) = false := decide_eq_false (by omega)
      rw [HN.out, List.take_length] at HMk
      clear hlt
      go_wp2_with fail
      go_ret
      exact ⟨_, rfl, HMk.out, HB.out, HK.out⟩
end Go.Proofs.YtljfhabhenaapaaDoor
namespace Go.Proofs.YtljfhabhenaapaaDoor
open Go.RowKit
set_option linter.unusedVariables false

theorem hd_info : (Tryd.prog.info? 32).map (·.size) = some 68 := by kernel_rfl
theorem bs_hd {W : World} {g : Nat} {h : Hd} (k : IsHd h) (K : Bk W g 32 (hdA h)) : BsV W W.heap.size (.slice (some ⟨g, 1, none⟩) 32 32) h.p ∧ BsV W W.heap.size (.slice (some ⟨g, 33, none⟩) 32 32) h.r :=
  ⟨⟨some ⟨g, 1, none⟩, 32, by rw [k.pl], by rw [k.pl]; omega, by omega, k.px, fun _ => ⟨g, 1, rfl, K.lt, fun i hi => (K.cell (1 + i)).trans (hdA_p k i (by rw [← k.pl]; exact hi))⟩⟩,
    some ⟨g, 33, none⟩, 32, by rw [k.rl], by rw [k.rl]; omega, by omega, k.rx, fun _ => ⟨g, 33, rfl, K.lt, fun i hi => (K.cell (33 + i)).trans (hdA_r k i (by rw [← k.rl]; exact hi))⟩⟩
set_option maxRecDepth 100000 in
set_option maxHeartbeats 2000000 in
theorem hbytes_any (h : Hd) (w : World) (k : IsHd h) :
    Calls Tryd.prog 49 #[hdv h] w fun e w' => ∃ v', e = .returned v' ∧ MineR byR w' w.heap.size v' (hB h) ∧ Below w.heap.size w w' := by
  have HK := Lib.hid k
  have hv := k.v
  have ht := k.t
  have hb := k.b
  have hn := k.n
  have hpl := k.pl
  have hrl := k.rl
  obtain ⟨A, hA⟩ : ∃ A, A = hdA h := ⟨_, rfl⟩
  have HA := Lib.hid hA
  show Calls Tryd.prog _ #[.agg (hdA h)] w _
  rw [← hA]
  clear k hA
  have hcv : A[0]? = some (.int .u32 (h.v : Int)) := by rw [HA.out]; exact hdA_v h
  have hct : A[65]? = some (.int .u32 (h.t : Int)) := by rw [HA.out]; exact hdA_t HK.out
  have hcb : A[66]? = some (.int .u32 (h.b : Int)) := by rw [HA.out]; exact hdA_b HK.out
  have hcn : A[67]? = some (.int .u32 (h.n : Int)) := by rw [HA.out]; exact hdA_n HK.out
  have hrun1 := run_makeR byR_ok (w.alloc (.cells A 32)) 80 (by omega)
  have hM1 := mine_made (R := byR) (w.alloc (.cells A 32)) 80 (by omega) w.heap.size (by simp)
  have hB1 : Below w.heap.size w ((w.alloc (.cells A 32)).alloc (.cells (byR.flat (List.replicate 80 byR.z)).toArray byR.e)) := ((Below.refl _ _).alloc (Nat.le_refl _) _).alloc (by simp) _
  have hK1 : Bk ((w.alloc (.cells A 32)).alloc (.cells (byR.flat (List.replicate 80 byR.z)).toArray byR.e)) w.heap.size 32 A := (Bk.new _ _ _).alloc _
  generalize byR.flat (List.replicate 80 byR.z) = F at *
  have HPUT := Lib.hid (fun (xs ns : List Nat) v n W (hn : n = ns.length) (hm : MineR byR W w.heap.size v xs) (hlo : w.heap.size ≤ W.heap.size) hx hl => put_any xs ns v W.heap.size w.heap.size n (W.alloc (.cells (u32s ns) 28)) hn (hm.keep ((Below.refl _ _).alloc (Nat.le_refl _) _)) (by simp; omega) (Bk.new _ _ _) hx hl)
  go_enter Tryd.func49, Tryd.ntmps49
  go_upto_region 2 with (refine wpList_mkR (v1 := .int .i64 0) (v2 := .int .i64 80) 100 rfl _ _ rfl rfl rfl hrun1 ?_)
  rw [show (w.alloc (.cells A 32)).heap.size = w.heap.size + 1 by simp] at hM1
  refine wp_any (fun W => MineR byR W w.heap.size (.slice (some ⟨w.heap.size + 1, 0, none⟩) 0 80) [] ∧ Below w.heap.size w W ∧ Bk W w.heap.size 32 A) ⟨hM1, hB1, hK1⟩ ?_
  clear hrun1 hM1 hB1 hK1
  rintro W ⟨M, hW, K⟩
  have c0 := (K.cell 0).trans hcv
  have z0 := K.lt
  have HP1 := Lib.hid (HPUT.out [] [h.v] _ 1 W rfl M hW.size (by intro x hx; rw [List.mem_singleton] at hx; omega) (by decide))
  change Hid (Calls _ _ _ (W.alloc (.cells #[.int .u32 (h.v : Int)] 28)) _) at HP1
  clear M
  go_upto_region 3 with fail
  refine HP1.out.mono ?_
  rintro e W2 ⟨v2, rfl, M2, hb2, hk2⟩
  have hW2 := (hW.alloc hW.size (.cells #[.int .u32 (h.v : Int)] 28)).trans hb2
  have K2 := hk2 _ _ _ kept_hd (K.alloc _)
  clear hb2 hk2 c0 z0 K hW HP1
  have z2 := K2.lt
  have hbs := (bs_hd HK.out (W := W2) (g := w.heap.size) (by rw [← HA.out]; exact K2)).1
  rw [List.nil_append] at M2
  obtain ⟨Z, hZ⟩ : ∃ Z, Z = b4s [h.v] := ⟨_, rfl⟩
  rw [← hZ] at M2
  have hz4 : Z.length = 4 := by rw [hZ, b4s_length]; rfl
  obtain ⟨s2, c2, rfl⟩ := M2.slice
  obtain ⟨v3, W3, hrun3, M3, hb3, hbut3⟩ := appR byR_ok Z h.p _ _ w.heap.size W2 M2 hW2.size (bs_byR hbs) (by omega)
  have K3 := Kept.app M2 hbut3 _ _ _ kept_hd K2
  have hW3 := hW2.trans hb3
  have HZ := Lib.hid hZ
  clear hZ
  obtain ⟨Y, hY⟩ : ∃ Y, Y = Z ++ h.p := ⟨_, rfl⟩
  rw [← hY] at M3
  have hyl : Y.length = 36 := by rw [hY, List.length_append]; omega
  have HY := Lib.hid hY
  obtain ⟨s3, c3, rfl⟩ := M3.slice
  rw [hz4] at hrun3
  clear hY M2 hbs hb3 hbut3 hW2
  go_upto_region 4 with (refine wpList_appR (v1 := .slice s2 4 c2) (v2 := .slice (some ⟨w.heap.size, 1, none⟩) 32 32) 100 rfl (.tmp 10) (.tmp 12) rfl rfl rfl rfl hrun3 ?_)
  clear hrun3 K2 z2
  have z3 := K3.lt
  have hbs := (bs_hd HK.out (W := W3) (g := w.heap.size) (by rw [← HA.out]; exact K3)).2
  obtain ⟨v4, W4, hrun4, M4, hb4, hbut4⟩ := appR byR_ok Y h.r _ _ w.heap.size W3 M3 hW3.size (bs_byR hbs) (by omega)
  have K4 := Kept.app M3 hbut4 _ _ _ kept_hd K3
  have hW4 := hW3.trans hb4
  obtain ⟨X, hX⟩ : ∃ X, X = Y ++ h.r := ⟨_, rfl⟩
  rw [← hX] at M4
  have hxl : X.length = 68 := by rw [hX, List.length_append]; omega
  have HX := Lib.hid hX
  obtain ⟨s4, c4, rfl⟩ := M4.slice
  rw [hyl] at hrun4
  clear hX M3 hbs hb4 hbut4 hW3
  go_upto_region 5 with (refine wpList_appR (v1 := .slice s3 36 c3) (v2 := .slice (some ⟨w.heap.size, 33, none⟩) 32 32) 100 rfl (.tmp 14) (.tmp 16) rfl rfl rfl rfl hrun4 ?_)
  clear hrun4 K3 z3
  have z4 := K4.lt
  have c65 := (K4.cell 65).trans hct
  have c66 := (K4.cell 66).trans hcb
  have c67 := (K4.cell 67).trans hcn
  have HP2 := Lib.hid (HPUT.out X [h.t, h.b, h.n] _ 3 W4 rfl M4 hW4.size (by intro x hx; simp only [List.mem_cons, List.not_mem_nil, or_false] at hx; omega) (by omega))
  change Hid (Calls _ _ _ (W4.alloc (.cells #[.int .u32 (h.t : Int), .int .u32 (h.b : Int), .int .u32 (h.n : Int)] 28)) _) at HP2
  have hWE := Lib.hid (hW4.alloc hW4.size (.cells #[.int .u32 (h.t : Int), .int .u32 (h.b : Int), .int .u32 (h.n : Int)] 28))
  have HEND : Hid (X ++ b4s [h.t, h.b, h.n] = hB h) := by
    show _ = _
    rw [HX.out, HY.out, HZ.out]
    unfold b4s hB
    simp
  rw [hxl] at HP2
  clear M4 hW4 K4 HPUT
  go_wp2_with fail
  refine HP2.out.mono ?_
  rintro e W5 ⟨v5, rfl, M5, hb5, _⟩
  have hW5 := hWE.out.trans hb5
  rw [HEND.out] at M5
  clear HP2 hWE hb5
  go_wp2_with fail
  go_ret
  exact ⟨_, rfl, M5, hW5⟩
end Go.Proofs.YtljfhabhenaapaaDoor
namespace Go.Proofs.YtljfhabhenaapaaDoor
open Go.RowKit
set_option linter.unusedVariables false

/-- What names a header. -/
def hID (h : Hd) : List Nat := sha (sha (hB h))
theorem hID_length (h : Hd) : (hID h).length = 32 := sha_length _
theorem hID_lt (h : Hd) : ∀ x ∈ hID h, x < 256 := sha_lt _
set_option maxRecDepth 100000 in
set_option maxHeartbeats 2000000 in
theorem hid_any (h : Hd) (w : World) (k : IsHd h) (hL : Laid w) :
    Calls Tryd.prog 29 #[hdv h] w fun e w' => e = .returned (idv (hID h)) ∧ Below w.heap.size w w' := by
  have HBY := Lib.hid (fun W => hbytes_any h W k)
  have hll := hB_length k
  have HXL := Lib.hid (hB_lt k)
  have has := hdA_size k
  have hil := hID_length h
  change Hid (∀ W, Calls Tryd.prog 49 #[.agg (hdA h)] W _) at HBY
  show Calls Tryd.prog _ #[.agg (hdA h)] w _
  have HTW := Lib.hid (fun sp W h1 h2 => twice1 (hB h) sp 1 W h1 (by omega) h2)
  change Hid (∀ sp W, Laid W → PartsV W sp [hB h] → Calls Tryd.prog _ _ W fun e w' => e = .returned (idv (hID h)) ∧ _) at HTW
  have HL := Lib.hid hL
  generalize hdA h = A at *
  generalize hID h = O at *
  generalize hB h = xs at *
  clear k hL
  go_enter Tryd.func29, Tryd.ntmps29
  have hK0 : Bk ((w.alloc (.cells A 32)).alloc (.cells (idA (zeros 32)) 30)) w.heap.size 32 A := (Bk.new _ _ _).alloc _
  go_wp2_with (refine wpList_load_row rfl 32 (.tmp 1) rfl w.heap.size rfl 32 A (0, 0) _ hK0 Tryd.underlying32 rfl (by rw [has]; exact hd_info) ?_)
  refine (HBY.out _).mono ?_
  rintro e w1 ⟨v1, rfl, M1, hb1⟩
  have hA : Below w.heap.size w ((w.alloc (.cells A 32)).alloc (.cells (idA (zeros 32)) 30)) := ((Below.refl _ _).alloc (Nat.le_refl _) _).alloc (by simp) _
  have hW1 := below_step hA (by simp; omega) hb1
  have R1 : Bk w1 (w.heap.size + 1) 30 (idA (zeros 32)) := Bk.keep (Bk.new' _ _ _ (by simp)) hb1
  have hbs := M1.bs HXL.out
  obtain ⟨s1, c1, rfl⟩ := M1.slice
  clear hK0 hA hb1 M1
  have hB2 := hW1.alloc hW1.size (.cells #[.slice s1 xs.length c1] 100)
  have hP2 := parts_bs (u := 100) (hbs.keep ((Below.refl w1.heap.size w1).alloc (Nat.le_refl _) _) (Nat.le_refl _)) (by simp) (Bk.new w1 100 #[.slice s1 xs.length c1])
  have hT := HTW.out _ _ (HL.out.keep hB2) hP2
  rw [hll] at hT hB2
  have R2 := R1.alloc (.cells #[.slice s1 80 c1] 100)
  clear hbs hP2 R1
  go_wp2_with fail
  refine hT.mono ?_
  rintro e w5 ⟨rfl, hb5⟩
  have R5 := R2.keep hb5
  have hW5 := below_step hB2 (by have := hW1.size; simp; omega) hb5
  clear hb5 R2 hT hB2
  go_wp2_with (refine wpList_store_mid rfl 30 (.tmp 2) (.tmp 6) rfl (w.heap.size + 1) 0 (idA O) rfl rfl (by rw [idA_size, hil]; exact R5.there 32 (by rw [idA_size]; decide)) (by rw [idA_size, hil]; exact id_info') (all_oneCell_toArray (by intro v hv; simp only [List.mem_map] at hv; obtain ⟨x, _, rfl⟩ := hv; rfl)) ?_)
  refine bodyPost_ret (results_cell_row rfl _ _ (w.heap.size + 1) 30 (idA O) (0, 0) _ rfl (R5.setAll (by rw [idA_size, idA_size, hil]; rfl)) Tryd.underlying30 rfl (by rw [idA_size, hil]; exact id_info')) rfl ⟨?_, Below.setCells (Nat.le_succ _) _ _ _ hW5⟩
  rfl
end Go.Proofs.YtljfhabhenaapaaDoor
