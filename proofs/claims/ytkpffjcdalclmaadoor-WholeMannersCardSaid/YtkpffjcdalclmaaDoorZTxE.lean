/- Steps for slices of any kind in a region that draws; what is read of a transaction. -/
import Derived.Test.YtkpffjcdalclmaaDoorZTxD
import Derived.Deep.RegionLaw
namespace Go.Proofs.YtkpffjcdalclmaaDoor
open Go.RowKit
set_option linter.unusedVariables false
set_option linter.unusedSimpArgs false
set_option maxRecDepth 100000
theorem step_bsR1 {α : Type} {R : RowT α} (h : R.Ok) (hk : R.k ≤ 1000) {ops : Array Oper} {o : Oper} {a : Act} {w : World} {K : Act → World → Prop} {Q : Exit → Act → World → Prop} {E : Prop} (hg : o.guard = none) (k : Operand) (ho : o.op = .buildSlice R.t 1 #[(0, k)])
    (x : α) (hev : a.eval k = .agg (R.c x).toArray) (hK : K (a.put o.dst (.slice (some ⟨w.heap.size, 0, none⟩) 1 1)) (w.alloc (.cells (R.flat [x]).toArray R.e))) :
    if Region.wanted o (yielded ops a.tmps) = true then Oper.wp Tryd.prog o a w K Q else E := by
  have hw : Region.wanted o (yielded ops a.tmps) = true := by simp [Region.wanted, hg]
  rw [if_pos hw]
  obtain ⟨i, v, hi, hz, hs, hby, _⟩ := h.info
  have hb := h.bys
  refine wp_buildSlice R.t R.e 1 #[(0, k)] ho _ i _ h.ht hi hz (by rw [hs]; omega) (by rw [hs]; have := h.pos; omega) ?_ hK
  have e1 : ((#[(0, k)] : Array (Nat × Operand)).map fun (i, x) => (i, a.eval x)).toList = (([x].map fun x => Value.agg (R.c x).toArray).zipIdx 0).map fun x => (x.2, x.1) := by
    rw [Array.toList_map]
    simp [hev]
  have e2 : (R.flat [x]).toArray = (([x].map fun x => Value.agg (R.c x).toArray).flatMap fun v => v.cells.toList).toArray := by
    unfold RowT.flat
    simp [Value.cells]
  rw [e1, hs, e2]
  refine Great.fill_whole (by have := h.pos; omega) _ _ ?_ ?_
  · intro v hv
    simp only [List.map_cons, List.map_nil, List.mem_singleton] at hv
    subst hv
    show (R.c x).toArray.size = R.k
    rw [List.size_toArray, h.len]
  · simp
theorem step_appR {α : Type} {R : RowT α} (h : R.Ok) {ops : Array Oper} {o : Oper} {a : Act} {w : World} {K : Act → World → Prop} {Q : Exit → Act → World → Prop} {E : Prop} {v1 v2 : Value} (xs ys : List α) (lo : Nat)
    (hg : o.guard = none) (s y : Operand) (hop : o.op = Op.call { callee := Callee.builtin Builtin.append, args := #[s, y], argTypes := #[R.t, R.t] }) (hty : o.type = R.t)
    (hs : a.eval s = v1) (hy : a.eval y = v2) (hm : MineR R w lo v1 xs) (hlo : lo ≤ w.heap.size) (hu : RowV R w w.heap.size v2 ys) (hlt : xs.length + ys.length ≤ 1500000)
    (hK : ∀ v W, MineR R W lo v (xs ++ ys) → Below lo w W → ButR v1 w W → K (a.put o.dst v) W) :
    if Region.wanted o (yielded ops a.tmps) = true then Oper.wp Tryd.prog o a w K Q else E := by
  obtain ⟨v, W, hrun, hM, hb, hbut⟩ := appR h xs ys v1 v2 lo w hm hlo hu hlt
  have hw : Region.wanted o (yielded ops a.tmps) = true := by simp [Region.wanted, hg]
  rw [if_pos hw]
  unfold Oper.wp
  simp [execOp, hop, resolve, invoke, builtin, hs, hy, hty, hrun, Result.andThen]
  exact hK v W hM hb hbut
def KeptR {α : Type} (R : RowT α) (w W : World) : Prop := ∀ b t cs, t ≠ R.e → Bk w b t cs → Bk W b t cs
theorem KeptR.app {α : Type} {R : RowT α} {w W : World} {lo : Nat} {v : Value} {xs : List α} (hm : MineR R w lo v xs) (hb : ButR v w W) : KeptR R w W := fun b t cs ht hk => hb.2 _ _ _ hk fun o n c he => by
  rcases hm with ⟨rfl, rfl⟩ | ⟨T, cap, z, rfl, _, _, _, K⟩
  · cases he
  · cases he
    exact ht (Bk.type_eq hk K)
theorem Mine.keptR {α : Type} {R : RowT α} {w W : World} {lo : Nat} {v : Value} {xs : List Nat} (h : Mine w lo v xs) (hk : KeptR R w W) (ht : 5 ≠ R.e) : Mine W lo v xs := by
  rcases h with h | ⟨T, cap, z, e, hc, hc2, hT, K⟩
  · exact .inl h
  · exact .inr ⟨T, cap, z, e, hc, hc2, hT, hk _ _ _ ht K⟩
theorem MineR.keptR {α β : Type} {R : RowT α} {S : RowT β} {w W : World} {lo : Nat} {v : Value} {xs : List β} (h : MineR S w lo v xs) (hk : KeptR R w W) (ht : S.e ≠ R.e) : MineR S W lo v xs := by
  rcases h with h | ⟨T, cap, z, e, hc, hc2, hT, K⟩
  · exact .inl h
  · exact .inr ⟨T, cap, z, e, hc, hc2, hT, hk _ _ _ ht K⟩
theorem Mine.but' {W W' : World} {lo g : Nat} {t : TypeId} {cs : Array Value} {v : Value} {xs : List Nat} (h : Mine W lo v xs) (hb : But (fun k => k = g) W W') (K : Bk W g t cs) (ht : t ≠ 5) : Mine W' lo v xs := h.but hb (fun k hk e => h.apart K ht (e ▸ hk))
theorem MineR.but' {α : Type} {R : RowT α} {W W' : World} {lo g : Nat} {t : TypeId} {cs : Array Value} {v : Value} {xs : List α} (h : MineR R W lo v xs) (hb : But (fun k => k = g) W W') (K : Bk W g t cs) (ht : t ≠ R.e) : MineR R W' lo v xs := by
  rcases h with h | ⟨T, cap, z, e, hc, hc2, hT, K2⟩
  · exact .inl h
  · exact .inr ⟨T, cap, z, e, hc, hc2, hT, hb.keep K2 (fun e => by subst e; exact ht (Bk.type_eq K K2))⟩
theorem one_rowR {α : Type} {R : RowT α} (h : R.Ok) {w : World} {g : Nat} {t : TypeId} {x : α} (hg : Bk w g t (R.flat [x]).toArray) : RowV R w w.heap.size (.slice (some ⟨g, 0, none⟩) 1 1) [x] := row_built h hg rfl (by omega)
theorem fold_all (Z : Array Value) (L : List Value) (h : Z.size = L.length) : List.foldl (fun (cs : Array Value) (x : Value × Nat) => cs.setIfInBounds x.snd x.fst) Z L.zipIdx = L.toArray := by
  have h1 := Great.foldl_set 0 L 0 Z
  simp only [Nat.zero_add] at h1
  obtain ⟨h2, h3⟩ := h1
  apply Array.ext_getElem?
  intro k
  rw [h3]
  by_cases hk : k < L.length
  · rw [if_pos ⟨by omega, by omega, by omega⟩]
    simp
  · rw [if_neg (by omega), Array.getElem?_eq_none (by omega), List.getElem?_toArray, List.getElem?_eq_none (by omega)]
theorem in_fold (x : InM) : List.foldl (fun (cs : Array Value) (x : Value × Nat) => cs.setIfInBounds x.snd x.fst) #[.int .u8 0, .int .u8 0, .int .u8 0, .int .u8 0, .int .u8 0, .int .u8 0, .int .u8 0, .int .u8 0, .int .u8 0, .int .u8 0, .int .u8 0, .int .u8 0, .int .u8 0, .int .u8 0, .int .u8 0, .int .u8 0, .int .u8 0, .int .u8 0, .int .u8 0, .int .u8 0, .int .u8 0, .int .u8 0, .int .u8 0, .int .u8 0, .int .u8 0, .int .u8 0, .int .u8 0, .int .u8 0, .int .u8 0, .int .u8 0, .int .u8 0, .int .u8 0, .int .u32 0, .slice none 0 0] (inL x).zipIdx = (inL x).toArray := fold_all _ _ (by rw [inL_len]; rfl)
theorem out_fold (x : OutM) : List.foldl (fun (cs : Array Value) (x : Value × Nat) => cs.setIfInBounds x.snd x.fst) #[.int .i64 0, .int .u8 0, .int .u8 0, .int .u8 0, .int .u8 0, .int .u8 0, .int .u8 0, .int .u8 0, .int .u8 0, .int .u8 0, .int .u8 0, .int .u8 0, .int .u8 0, .int .u8 0, .int .u8 0, .int .u8 0, .int .u8 0, .int .u8 0, .int .u8 0, .int .u8 0, .int .u8 0, .int .u8 0, .int .u8 0, .int .u8 0, .int .u8 0, .int .u8 0, .int .u8 0, .int .u8 0, .int .u8 0, .int .u8 0, .int .u8 0, .int .u8 0, .int .u8 0] (ouL x).zipIdx = (ouL x).toArray := fold_all _ _ (by rw [ouL_len]; rfl)
theorem flat_sing {α : Type} {R : RowT α} (x : α) : R.flat [x] = R.c x := by simp [RowT.flat]
theorem one_rowR' {α : Type} {R : RowT α} (h : R.Ok) {w : World} {g : Nat} {t : TypeId} {x : α} (hg : Bk w g t (R.c x).toArray) : RowV R w w.heap.size (.slice (some ⟨g, 0, none⟩) 1 1) [x] := one_rowR h (by rw [flat_sing]; exact hg)
def inSts : Nat → St → St
  | 0, s => s
  | k + 1, s => inSt (inSts k s)
def outSts : Nat → St → St
  | 0, s => s
  | k + 1, s => outSt (outSts k s)
theorem inSts_inv (k : Nat) (s : St) (h : StI s) : StI (inSts k s) := by
  induction k with
  | zero => exact h
  | succ k ih => exact inSt_inv _ ih
theorem outSts_inv (k : Nat) (s : St) (h : StI s) : StI (outSts k s) := by
  induction k with
  | zero => exact h
  | succ k ih => exact outSt_inv _ ih
theorem inSts_shr (k : Nat) (s : St) : (inSts k s).1.length ≤ s.1.length := by
  induction k with
  | zero => exact Nat.le_refl _
  | succ k ih => exact Nat.le_trans (inSt_shr _) ih
theorem outSts_shr (k : Nat) (s : St) : (outSts k s).1.length ≤ s.1.length := by
  induction k with
  | zero => exact Nat.le_refl _
  | succ k ih => exact Nat.le_trans (outSt_shr _) ih
def nxN (s : St) : Nat := (rdCount s 32).1
def nxS1 (s : St) : St := (rdCount s 32).2
def nxS2 (s : St) : St := inSts (nxN s) (nxS1 s)
def nxM (s : St) : Nat := (rdCount (nxS2 s) 32).1
def nxS3 (s : St) : St := (rdCount (nxS2 s) 32).2
def nxSt (s : St) : St := outSts (nxM s) (nxS3 s)
theorem nxS1_inv (s : St) (h : StI s) : StI (nxS1 s) := count_inv s 32 h
theorem nxS2_inv (s : St) (h : StI s) : StI (nxS2 s) := inSts_inv (nxN s) (nxS1 s) (nxS1_inv s h)
theorem nxS3_inv (s : St) (h : StI s) : StI (nxS3 s) := by
  have h2 := count_inv (nxS2 s) 32 (nxS2_inv s h)
  unfold nxS3
  exact h2
theorem nxSt_inv (s : St) (h : StI s) : StI (nxSt s) := by
  have h2 := outSts_inv (nxM s) (nxS3 s) (nxS3_inv s h)
  unfold nxSt
  exact h2
theorem nxS1_shr (s : St) : (nxS1 s).1.length ≤ s.1.length := count_shr s 32
theorem nxS2_shr (s : St) : (nxS2 s).1.length ≤ s.1.length := Nat.le_trans (inSts_shr (nxN s) (nxS1 s)) (nxS1_shr s)
theorem nxS3_shr (s : St) : (nxS3 s).1.length ≤ s.1.length := by
  have h := count_shr (nxS2 s) 32
  have h2 := nxS2_shr s
  unfold nxS3
  omega
theorem nxSt_shr (s : St) : (nxSt s).1.length ≤ s.1.length := by
  have h := outSts_shr (nxM s) (nxS3 s)
  have h2 := nxS3_shr s
  unfold nxSt
  omega
theorem nxN_le (s : St) : nxN s ≤ 32 := rdCount_le s 32
theorem nxM_le (s : St) : nxM s ≤ 32 := by
  have h := rdCount_le (nxS2 s) 32
  unfold nxM
  exact h
def InsSay (s : St) (l : List InM) : Prop := ∀ k x, l[k]? = some x → InSays (inSts k s) x
def OutsSay (s : St) (l : List OutM) : Prop := ∀ k x, l[k]? = some x → OutSays (outSts k s) x
theorem InsSay.snoc {s : St} {l : List InM} {x : InM} (h : InsSay s l) (hx : InSays (inSts l.length s) x) : InsSay s (l ++ [x]) := by
  intro k y hk
  rcases Nat.lt_or_ge k l.length with hlt | hge
  · rw [List.getElem?_append_left hlt] at hk
    exact h k y hk
  · rw [List.getElem?_append_right hge] at hk
    match hj : k - l.length, hk with
    | 0, hk =>
      obtain rfl : x = y := by simpa using hk
      rw [show k = l.length by omega]
      exact hx
theorem OutsSay.snoc {s : St} {l : List OutM} {x : OutM} (h : OutsSay s l) (hx : OutSays (outSts l.length s) x) : OutsSay s (l ++ [x]) := by
  intro k y hk
  rcases Nat.lt_or_ge k l.length with hlt | hge
  · rw [List.getElem?_append_left hlt] at hk
    exact h k y hk
  · rw [List.getElem?_append_right hge] at hk
    match hj : k - l.length, hk with
    | 0, hk =>
      obtain rfl : x = y := by simpa using hk
      rw [show k = l.length by omega]
      exact hx
def NextSays (s : St) (t : TxM) : Prop := t.ins.length = nxN s ∧ InsSay (nxS1 s) t.ins ∧ t.outs.length = nxM s ∧ OutsSay (nxS3 s) t.outs
def MineT (W : World) (lo : Nat) (t : TxM) : Prop := MineR inR W lo t.iv t.ins ∧ (∀ x ∈ t.ins, Mine W lo x.kv x.key) ∧ MineR outR W lo t.ov t.outs
theorem MineT.keep {W W' : World} {lo : Nat} {t : TxM} (h : MineT W lo t) (hb : Below W.heap.size W W') : MineT W' lo t := ⟨h.1.keep hb, fun x hx => (h.2.1 x hx).keep hb, h.2.2.keep hb⟩
theorem ne_in_tx : (89 : Nat) ≠ inR.e := by decide
theorem ne_out_tx : (89 : Nat) ≠ outR.e := by decide
theorem ne_in_u8 : (5 : Nat) ≠ inR.e := by decide
theorem ne_out_u8 : (5 : Nat) ≠ outR.e := by decide
theorem ne_in_out : inR.e ≠ outR.e := by decide
end Go.Proofs.YtkpffjcdalclmaaDoor
