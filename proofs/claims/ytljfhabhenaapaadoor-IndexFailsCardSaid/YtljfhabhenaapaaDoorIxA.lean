/-
  A tree of headers in memory: its rules, its nodes as rows of cells, and the map of its names.
-/
import Derived.Test.YtljfhabhenaapaaDoorIxM
import Derived.Test.YtljfhabhenaapaaDoorMapX
import Derived.Test.YtljfhabhenaapaaDoorHeaG
namespace Go.Proofs.YtljfhabhenaapaaDoor
open Go.RowKit
set_option linter.unusedVariables false
set_option linter.unusedSimpArgs false
set_option maxRecDepth 100000

theorem row_at {α : Type} {R : RowT α} {w : World} {B : Nat} {s : Option Addr} {n c : Nat} {L : List α} (h : RowV R w B (.slice s n c) L) : ∀ k, k < L.length → ∃ x b o, L[k]? = some x ∧ s = some ⟨b, o, none⟩ ∧ b < B ∧ w.rangeAt b (o + k * R.k) (R.c x) := by
  intro k hk
  obtain ⟨b, o, e, hb, _, hc⟩ := h.at_ (fun e => by rw [e] at hk; simp at hk)
  exact ⟨_, b, o, List.getElem?_eq_getElem hk, e, hb, hc k _ (List.getElem?_eq_getElem hk)⟩
/-- The rules: numbers, the genesis' header, and its transactions' slice. -/
structure Ru where
  lim : Nat
  ev : Int
  sp : Int
  sub : Int
  wk : Int
  g : Hd
  tx : Value
structure IsRu (r : Ru) : Prop where
  lim : r.lim < 4294967296
  g : IsHd r.g
  tx : ∃ s n c, r.tx = .slice s n c
def ruL (r : Ru) : List Value := u32V r.lim :: .int .i64 r.ev :: .int .i64 r.sp :: .int .i64 r.sub :: .int .i64 r.wk :: (hdL r.g ++ [r.tx])
theorem ruL_len {r : Ru} (h : IsRu r) : (ruL r).length = 74 := by simp [ruL, hdL_length h.g]
theorem u32V_one (x : Nat) : (u32V x).oneCell' = true := rfl
theorem hdL_one (h : Hd) : ∀ v ∈ hdL h, v.oneCell' = true := by
  have := hdA_one h
  unfold hdA at this
  intro v hv
  exact Array.all_eq_true'.1 this v (by simpa using hv)
theorem ruL_one {r : Ru} (h : IsRu r) : ∀ v ∈ ruL r, v.oneCell' = true := by
  intro v hv
  unfold ruL at hv
  simp only [List.mem_cons, List.mem_append, List.not_mem_nil, or_false] at hv
  rcases hv with rfl | rfl | rfl | rfl | rfl | hv | rfl
  any_goals rfl
  · exact hdL_one _ v hv
  · obtain ⟨s, n, c, e⟩ := h.tx; rw [e]; rfl
/-- A node's cells. -/
def ndT (x : Nd) : List Value := [.int .i64 x.pr, .int .i64 x.sk, .int .i64 x.ht, .int .u64 (wd0 x.wk), .int .u64 (wd1 x.wk), .int .u64 (wd2 x.wk), .int .u64 (wd3 x.wk), .bool x.fl]
def ndL (x : Nd) : List Value := hdL x.h ++ ((hID x.h).map byteV ++ ndT x)
theorem ndL_len {x : Nd} (h : IsHd x.h) : (ndL x).length = 108 := by simp [ndL, ndT, hdL_length h, hID_length]
theorem ndL_one (x : Nd) : ∀ v ∈ ndL x, v.oneCell' = true := by
  intro v hv
  unfold ndL ndT at hv
  simp only [List.mem_append, List.mem_map, List.mem_cons, List.not_mem_nil, or_false] at hv
  rcases hv with hv | ⟨b, _, rfl⟩ | rfl | rfl | rfl | rfl | rfl | rfl | rfl | rfl
  · exact hdL_one _ v hv
  all_goals rfl
abbrev N108 := {l : List Value // l.length = 108 ∧ ∀ v ∈ l, v.oneCell' = true}
def nz : List Value := hdL hd0 ++ ((zeros 32).map byteV ++ [.int .i64 0, .int .i64 0, .int .i64 0, .int .u64 0, .int .u64 0, .int .u64 0, .int .u64 0, .bool false])
theorem nz_ok : nz.length = 108 ∧ ∀ v ∈ nz, v.oneCell' = true := by
  refine ⟨by kernel_rfl, ?_⟩
  have : nz.all (·.oneCell') = true := by kernel_rfl
  exact fun v hv => List.all_eq_true.1 this v hv
def ndC (x : Nd) : N108 := if h : (ndL x).length = 108 then ⟨ndL x, h, ndL_one x⟩ else ⟨nz, nz_ok⟩
theorem ndC_val {x : Nd} (h : IsHd x.h) : (ndC x).1 = ndL x := by unfold ndC; rw [dif_pos (ndL_len h)]
def ndR : RowT N108 := ⟨45, 74, 108, 176, fun x => x.1, ⟨nz, nz_ok⟩⟩
theorem nd_facts : (Tryd.prog.info? 45).map (fun i => (i.zero.map (·.cells), i.size, i.bytes)) = some (some nz.toArray, 108, 176) := by kernel_rfl
theorem nd_info : ∃ i v, Tryd.prog.info? 45 = some i ∧ i.zero = some v ∧ i.size = 108 ∧ i.bytes = 176 ∧ v.cells = nz.toArray := by
  obtain ⟨i, hi, hs⟩ := Option.map_eq_some_iff.1 nd_facts
  simp only [Prod.mk.injEq, Option.map_eq_some_iff] at hs
  obtain ⟨⟨v, hv, hc⟩, h1, h2⟩ := hs
  exact ⟨i, v, hi, hv, h1, h2, hc⟩
theorem ndR_ok : ndR.Ok where
  ht := Tryd.underlying74
  info := nd_info
  len := fun x => x.2.1
  one := fun x => x.2.2
  pos := by decide
  bys := by decide
theorem nd_size : (Tryd.prog.info? 45).map (·.size) = some 108 := by kernel_rfl
theorem nd_sizeL {x : Nd} (h : IsHd x.h) : (Tryd.prog.info? 45).map (·.size) = some (ndL x).length := by rw [ndL_len h]; exact nd_size
theorem ndL_t {x : Nd} (h : IsHd x.h) : (ndL x)[65]? = some (.int .u32 (x.h.t : Int)) ∧ (ndL x)[66]? = some (.int .u32 (x.h.b : Int)) := by
  have e1 := hdA_t h
  have e2 := hdA_b h
  unfold hdA at e1 e2
  rw [List.getElem?_toArray] at e1 e2
  unfold ndL
  constructor
  · rw [List.getElem?_append_left (by rw [hdL_length h]; decide)]; exact e1
  · rw [List.getElem?_append_left (by rw [hdL_length h]; decide)]; exact e2
theorem ndL_tail {x : Nd} (h : IsHd x.h) (k : Nat) : (ndL x)[100 + k]? = (ndT x)[k]? := by
  unfold ndL
  rw [← List.append_assoc, List.getElem?_append_right (by simp [hdL_length h, hID_length])]
  congr 1
  simp [hdL_length h, hID_length]
theorem ndL_id {x : Nd} (h : IsHd x.h) (k : Nat) (hk : k < 32) : (ndL x)[68 + k]? = ((hID x.h).map byteV)[k]? := by
  unfold ndL
  rw [List.getElem?_append_right (by rw [hdL_length h]; omega), hdL_length h, Nat.add_sub_cancel_left, List.getElem?_append_left (by simp [hID_length]; omega)]
theorem ndL_wk {x : Nd} (h : IsHd x.h) (k : Nat) (hk : k < 4) : (ndL x)[103 + k]? = ([.int .u64 (wd0 x.wk), .int .u64 (wd1 x.wk), .int .u64 (wd2 x.wk), .int .u64 (wd3 x.wk)] : List Value)[k]? := by
  rw [show 103 + k = 100 + (3 + k) by omega, ndL_tail h]
  unfold ndT
  rcases k with _ | _ | _ | _ | k
  any_goals rfl
  omega
/-- A node's cells where they lie. -/
structure NdAt (w : World) (b o : Nat) (x : Nd) : Prop where
  r : w.rangeAt b o (ndL x)
  t : w.cell? ⟨b, o + 65, none⟩ = some (.int .u32 (x.h.t : Int))
  bt : w.cell? ⟨b, o + 66, none⟩ = some (.int .u32 (x.h.b : Int))
  pr : w.cell? ⟨b, o + 100, none⟩ = some (.int .i64 x.pr)
  sk : w.cell? ⟨b, o + 101, none⟩ = some (.int .i64 x.sk)
  ht : w.cell? ⟨b, o + 102, none⟩ = some (.int .i64 x.ht)
  fl : w.cell? ⟨b, o + 107, none⟩ = some (.bool x.fl)
theorem NdAt.of {w : World} {b o : Nat} {x : Nd} (h : IsHd x.h) (r : w.rangeAt b o (ndL x)) : NdAt w b o x :=
  ⟨r, r 65 _ (ndL_t h).1, r 66 _ (ndL_t h).2, r 100 _ (ndL_tail h 0), r 101 _ (ndL_tail h 1), r 102 _ (ndL_tail h 2), r 107 _ (ndL_tail h 7)⟩
/-- What the map of names holds. -/
def fnd (L : List Nd) (x : I32) : Option Int := (findI L x.1).map fun i => (i : Int)
def F0 (p : Nat) (v : Value) (m : Nat) (k : Nat) : Prop := k = p ∨ slb v k ∨ k = m
/-- The tree at p: its nodes L, by the rules r; its blocks are those of F, none below lo. -/
structure TreV (w : World) (p lo : Nat) (r : Ru) (L : List Nd) (v : Value) (m : Nat) : Prop where
  ok : TreeOk L
  hr : IsRu r
  blk : Bk w p 76 (ruL r ++ [v, .map (some m)]).toArray
  row : MineR ndR w lo v (L.map ndC)
  mp : MapG akE w m L.length (fnd L)
  lp : lo ≤ p
  lm : lo ≤ m
def Tre (w : World) (p lo : Nat) (F : Nat → Prop) (r : Ru) (L : List Nd) : Prop := ∃ v m, TreV w p lo r L v m ∧ F = F0 p v m
theorem Tre.ok {w : World} {p lo : Nat} {F : Nat → Prop} {r : Ru} {L : List Nd} (h : Tre w p lo F r L) : TreeOk L := by obtain ⟨_, _, h, _⟩ := h; exact h.ok
theorem Tre.hr {w : World} {p lo : Nat} {F : Nat → Prop} {r : Ru} {L : List Nd} (h : Tre w p lo F r L) : IsRu r := by obtain ⟨_, _, h, _⟩ := h; exact h.hr
theorem Tre.but {w w' : World} {p lo : Nat} {F S : Nat → Prop} {r : Ru} {L : List Nd} (h : Tre w p lo F r L) (hb : But S w w') (hs : ∀ k, F k → ¬ S k) : Tre w' p lo F r L := by
  obtain ⟨v, m, h, rfl⟩ := h
  exact ⟨v, m, ⟨h.ok, h.hr, hb.keep h.blk (hs p (.inl rfl)), h.row.but_ hb (fun k hk => hs k (.inr (.inl hk))), h.mp.but hb (hs m (.inr (.inr rfl))), h.lp, h.lm⟩, rfl⟩
theorem Tre.keep {w w' : World} {p lo : Nat} {F : Nat → Prop} {r : Ru} {L : List Nd} (h : Tre w p lo F r L) (hb : Below w.heap.size w w') : Tre w' p lo F r L := h.but (But.of (S := fun _ => False) hb) (fun _ _ h => h)
theorem Tre.lt {w : World} {p lo : Nat} {F : Nat → Prop} {r : Ru} {L : List Nd} (h : Tre w p lo F r L) {k : Nat} (hk : F k) : lo ≤ k ∧ k < w.heap.size := by
  obtain ⟨v, m, h, rfl⟩ := h
  rcases hk with rfl | hk | rfl
  · exact ⟨h.lp, h.blk.lt⟩
  · have := h.row.slb_lo hk; exact ⟨this.1, this.2.1⟩
  · exact ⟨h.lm, h.mp.lt⟩
namespace TreV
variable {w : World} {p lo : Nat} {r : Ru} {L : List Nd} {v : Value} {m : Nat}
theorem cell (h : TreV w p lo r L v m) (i : Nat) : w.cell? ⟨p, i, none⟩ = (ruL r ++ [v, .map (some m)])[i]? := by rw [h.blk.cell, List.getElem?_toArray]
theorem c74 (h : TreV w p lo r L v m) : w.cell? ⟨p, 74, none⟩ = some v := by
  rw [h.cell, List.getElem?_append_right (by rw [ruL_len h.hr]; decide), ruL_len h.hr]; rfl
theorem c75 (h : TreV w p lo r L v m) : w.cell? ⟨p, 75, none⟩ = some (.map (some m)) := by
  rw [h.cell, List.getElem?_append_right (by rw [ruL_len h.hr]; decide), ruL_len h.hr]; rfl
theorem c0 (h : TreV w p lo r L v m) : w.cell? ⟨p, 0, none⟩ = some (.int .u32 (r.lim : Int)) := by
  rw [h.cell, List.getElem?_append_left (by rw [ruL_len h.hr]; decide)]; rfl
theorem c1 (h : TreV w p lo r L v m) : w.cell? ⟨p, 1, none⟩ = some (.int .i64 r.ev) := by
  rw [h.cell, List.getElem?_append_left (by rw [ruL_len h.hr]; decide)]; rfl
theorem rows (h : TreV w p lo r L v m) : ∃ b c, v = .slice (some ⟨b, 0, none⟩) L.length c ∧ b < w.heap.size ∧ lo ≤ b ∧ (∀ i, i < L.length → NdAt w b (i * 108) (ndA L i)) ∧ ∃ T, Bk w b 45 T := by
  have hp := h.ok.pos
  have hr := h.row
  rcases hr with ⟨_, e⟩ | ⟨T, cap, z, e, hc, hc2, hT, K⟩
  · rw [List.map_eq_nil_iff] at e
    rw [e] at hp
    exact absurd hp (Nat.lt_irrefl _)
  · rw [List.length_map] at e
    refine ⟨T, cap, e, K.lt, hT, fun i hi => ?_, _, K⟩
    have h1 := h.row.rows ndR_ok
    rw [e] at h1
    obtain ⟨x, b, o, hx, hs, _, hrg⟩ := row_at h1 i (by rw [List.length_map]; exact hi)
    have e2 : b = T ∧ o = 0 := by injection hs with hs; injection hs with h1 h2; exact ⟨h1.symm, h2.symm⟩
    obtain ⟨rfl, rfl⟩ := e2
    rw [List.getElem?_map, ndA_get hi] at hx
    injection hx with hx
    have hi2 := h.ok.hd _ (ndA_mem hi)
    subst hx
    rw [Nat.zero_add] at hrg
    have hrg : w.rangeAt b (i * 108) (ndC (ndA L i)).1 := hrg
    rw [ndC_val hi2] at hrg
    exact NdAt.of hi2 hrg
end TreV
def nodeV (x : Nd) : Value := .agg (ndL x).toArray
def pv (p : Nat) : Value := .pointer (some ⟨p, 0, none⟩)
set_option maxHeartbeats 4000000 in
theorem tlen_any {w : World} {p lo : Nat} {F : Nat → Prop} {r : Ru} {L : List Nd} (h : Tre w p lo F r L) :
    Calls Tryd.prog 14 #[pv p] w fun e w' => e = .returned (.int .i64 (L.length : Int)) ∧ w' = w := by
  unfold pv
  obtain ⟨v, m, h, _⟩ := h
  obtain ⟨b, c, rfl, _⟩ := h.rows
  have c1 := h.c74
  have z := h.blk.lt
  clear h
  go_enter Tryd.func14, Tryd.ntmps14
  go_wp2_with fail
  go_ret
  exact ⟨rfl, rfl⟩
def hasB (L : List Nd) (i : Int) : Bool := decide (0 ≤ i ∧ i < (L.length : Int))
set_option maxHeartbeats 4000000 in
theorem has_any {w : World} {p lo : Nat} {F : Nat → Prop} {r : Ru} {L : List Nd} (h : Tre w p lo F r L) (i : Int) :
    Calls Tryd.prog 32 #[pv p, .int .i64 i] w fun e w' => e = .returned (.bool (hasB L i)) ∧ w' = w := by
  unfold pv
  obtain ⟨v, m, h, _⟩ := h
  obtain ⟨b, c, rfl, _⟩ := h.rows
  have c1 := h.c74
  have z := h.blk.lt
  clear h
  unfold hasB
  by_cases h0 : 0 ≤ i
  · have d0 : decide (0 ≤ i) = true := decide_eq_true h0
    by_cases h1 : i < (L.length : Int)
    · have d1 : decide (i < (L.length : Int)) = true := decide_eq_true h1
      rw [decide_eq_true ⟨h0, h1⟩]
      clear h0 h1
      generalize L.length = n at *
      go_enter Tryd.func32, Tryd.ntmps32
      go_wp2_with fail
      go_ret
      exact ⟨rfl, rfl⟩
    · have d1 : decide (i < (L.length : Int)) = false := decide_eq_false h1
      rw [decide_eq_false (fun hc => h1 hc.2)]
      clear h0 h1
      generalize L.length = n at *
      go_enter Tryd.func32, Tryd.ntmps32
      go_wp2_with fail
      go_ret
      exact ⟨rfl, rfl⟩
  · have d0 : decide (0 ≤ i) = false := decide_eq_false h0
    rw [decide_eq_false (fun hc => h0 hc.1)]
    clear h0
    generalize L.length = n at *
    go_enter Tryd.func32, Tryd.ntmps32
    go_wp2_with fail
    go_ret
    exact ⟨rfl, rfl⟩
end Go.Proofs.YtljfhabhenaapaaDoor
