/-
  Package trace's laws: what is heard and said, told one by one, and by the book.
-/
import Derived.Test.YtcedljfdnbenoaaTrO
import Derived.Deep.CutBlock
namespace Go.Proofs.Ytcedljfdnbenoaa
open Go.RowKit
set_option linter.unusedVariables false
set_option linter.unusedSimpArgs false
set_option maxRecDepth 100000

theorem set_same {L : List OneP} {k : Nat} {o : OneP} (hk : L[k]? = some o) : L.set k o = L := by
  obtain ⟨hkl, hko⟩ := List.getElem?_eq_some_iff.1 hk
  rw [← hko]
  exact List.set_getElem_self hkl
/-- What one hears. -/
def heardP (o : OneP) (kd : Int) (N : List Nat) : OneP :=
  if kd = 1 then { o with t := true } else if kd = 2 then { o with r := o.r || o.t } else if kd = 7 then { o with ak := o.ak.filter fun x => !decide (x ∈ [N.headD 0]) } else if kd = 8 then { o with ak := o.ak.filter fun x => !decide (x ∈ N) } else o
structure Freed (M M' : BkM) (id : Int) (G : List I32) : Prop where
  T : M'.T = M.T
  n : M'.n = M.n
  L : ∀ j, j ≠ id → M'.L j = M.L j
  K : M'.L id = (M.L id).filter fun z => !decide (z ∈ G)
  a : AskOk M'
theorem free_freed {M : BkM} (ha : AskOk M) (id : Int) (x : I32) : Freed M (freeM M id x) id [x] := by
  unfold freeM
  by_cases hx : M.A x = some id
  · rw [if_pos hx]
    refine ⟨rfl, rfl, fun j hj => if_neg hj, ?_, fun z j => ?_⟩
    · show (if id = id then (M.L id).filter (fun z => !decide (z = x)) else M.L id) = _
      rw [if_pos rfl]
      congr 1
      funext z
      simp
    · show upd M.A x none z = some j ↔ z ∈ (if j = id then (M.L id).filter (fun z => !decide (z = x)) else M.L j)
      by_cases ez : z = x
      · subst ez
        rw [upd_same]
        refine ⟨fun e => (by cases e), fun e => ?_⟩
        by_cases ej : j = id
        · rw [if_pos ej] at e
          have := (List.mem_filter.1 e).2
          simp at this
        · rw [if_neg ej] at e
          have := (ha z j).2 e
          rw [hx] at this
          exact absurd (Option.some.inj this).symm ej
      · rw [upd_other _ _ ez, ha z j]
        by_cases ej : j = id
        · rw [if_pos ej, ej, List.mem_filter]
          simp [ez]
        · rw [if_neg ej]
  · rw [if_neg hx]
    refine ⟨rfl, rfl, fun j hj => rfl, ?_, ha⟩
    refine (List.filter_eq_self.2 fun z hz => ?_).symm
    have : z ≠ x := fun e => hx ((ha x id).2 (e ▸ hz))
    simp [this]
theorem frees_freed {id : Int} : ∀ (G : List I32) {M : BkM}, AskOk M → Freed M (G.foldl (fun M z => freeM M id z) M) id G
  | [], M, ha => ⟨rfl, rfl, fun _ _ => rfl, (List.filter_eq_self.2 fun z hz => by simp).symm, ha⟩
  | x :: r, M, ha => by
    have h1 := free_freed ha id x
    have h2 := frees_freed (id := id) r h1.a
    refine ⟨h2.T.trans h1.T, h2.n.trans h1.n, fun j hj => (h2.L j hj).trans (h1.L j hj), ?_, h2.a⟩
    show (List.foldl (fun M z => freeM M id z) (freeM M id x) r).L id = _
    rw [h2.K, h1.K, List.filter_filter]
    congr 1
    funext z
    simp [Bool.and_comm]
theorem map_free {ak : List Nat} {N : List Nat} (hk : ∀ x ∈ ak, x < 256) (hN : ∀ x ∈ N, x < 256) : (ak.map idN).filter (fun z => !decide (z ∈ N.map idN)) = (ak.filter fun x => !decide (x ∈ N)).map idN := by
  rw [List.filter_map]
  congr 1
  refine List.filter_congr fun x hx => ?_
  show (!decide (idN x ∈ N.map idN)) = !decide (x ∈ N)
  have : idN x ∈ N.map idN ↔ x ∈ N := by
    constructor
    · intro h
      obtain ⟨y, hy, e⟩ := List.mem_map.1 h
      rw [← idN_inj (hN y hy) (hk x hx) e]
      exact hy
    · exact fun h => List.mem_map.2 ⟨x, h, rfl⟩
  simp only [this]
theorem InvP.freed {L : List OneP} {M M' : BkM} (h : InvP L M) {k : Nat} {o : OneP} (hk : L[k]? = some o) {N : List Nat} (hN : ∀ x ∈ N, x < 256) (hf : Freed M M' o.id (N.map idN)) : InvP (L.set k { o with ak := o.ak.filter fun x => !decide (x ∈ N) }) M' := by
  have ho := List.mem_of_getElem? hk
  have hb := h.b o ho
  refine h.set hk rfl hf.n (by rw [hf.T]; exact h.T o ho) (fun j _ => by rw [hf.T]) ?_ hf.L ⟨fun x hx => hb.1 x (List.mem_filter.1 hx).1, Nat.le_trans (List.length_filter_le _ _) hb.2.1, hb.2.2.2.1, hb.2.2.2.2⟩
  rw [hf.K, h.K o ho]
  exact map_free hb.1 hN
theorem InvP.heard {L : List OneP} {M : BkM} (h : InvP L M) (ha : AskOk M) {k : Nat} {o : OneP} (hk : L[k]? = some o) (kd : Int) {N : List Nat} (hN : ∀ x ∈ N, x < 256) : InvP (L.set k (heardP o kd N)) (heardM M o.id kd (idN (N.headD 0)) (N.map idN)) := by
  have ho := List.mem_of_getElem? hk
  have hb := h.b o ho
  unfold heardM heardP
  rw [h.T o ho]
  show InvP _ (if kd = 1 then setT M o.id ⟨true, o.r, o.v, o.a⟩ else if kd = 2 then setT M o.id ⟨o.t, o.t, o.v, o.a⟩ else if kd = 7 then freeM M o.id (idN (N.headD 0)) else if kd = 8 then (N.map idN).foldl (fun M z => freeM M o.id z) M else M)
  by_cases e1 : kd = 1
  · rw [if_pos e1, if_pos e1]
    exact h.set hk rfl rfl (updT_same _ _ _) (fun j hj => if_neg hj) (h.K o ho) (fun j _ => rfl) ⟨hb.1, hb.2.1, fun _ => rfl, fun e => ⟨(hb.2.2.2.2 e).1, rfl⟩⟩
  rw [if_neg e1, if_neg e1]
  by_cases e2 : kd = 2
  · rw [if_pos e2, if_pos e2]
    have hr : (o.r || o.t) = o.t := by
      have := hb.2.2.2.1
      cases hr : o.r <;> cases ht : o.t <;> first | rfl | (rw [hr, ht] at this; exact absurd (this rfl) (by decide))
    exact h.set hk rfl rfl (by show updT _ _ _ _ = some ⟨o.t, (o.r || o.t), o.v, o.a⟩; rw [hr]; exact updT_same _ _ _) (fun j hj => if_neg hj) (h.K o ho) (fun j _ => rfl) ⟨hb.1, hb.2.1, fun e => by rw [← hr]; exact e, hb.2.2.2.2⟩
  rw [if_neg e2, if_neg e2]
  by_cases e7 : kd = 7
  · rw [if_pos e7, if_pos e7]
    have hy : ∀ x ∈ [N.headD 0], x < 256 := by
      intro x hx
      rw [List.mem_singleton.1 hx]
      cases N with
      | nil => decide
      | cons y r => exact hN y List.mem_cons_self
    exact h.freed hk hy (free_freed ha o.id (idN (N.headD 0)))
  rw [if_neg e7, if_neg e7]
  by_cases e8 : kd = 8
  · rw [if_pos e8, if_pos e8]
    exact h.freed hk hN (frees_freed _ ha)
  rw [if_neg e8, if_neg e8, set_same hk]
  exact h
theorem InvP.heard_new {L : List OneP} {M : BkM} (h : InvP L M) {i : Int} (hn : ∀ o ∈ L, o.id ≠ i) (kd : Int) (x : I32) (G : List I32) : heardM M i kd x G = M := by
  unfold heardM
  rw [h.T0 i hn]
theorem InvP.said_new {L : List OneP} {M : BkM} (h : InvP L M) {i : Int} (hn : ∀ o ∈ L, o.id ≠ i) (kd : Int) (G : List I32) : saidE M i kd G = 4 ∧ saidM M i kd G = M := by
  unfold saidE saidM
  rw [h.T0 i hn]
  exact ⟨rfl, rfl⟩
theorem tw_ok (A : I32 → Option Int) : ∀ (L seen : List I32), (∀ x ∈ L, x ∉ seen ∧ A x = none) → L.Nodup → twB A seen L = false
  | [], seen, _, _ => rfl
  | x :: r, seen, h, hn => by
    obtain ⟨n1, n2⟩ := List.nodup_cons.1 hn
    have hx := h x List.mem_cons_self
    unfold twB
    rw [hx.2, decide_eq_false hx.1]
    exact tw_ok A r _ (fun z hz => ⟨by
      rw [List.mem_append, List.mem_singleton]
      rintro (h' | h')
      · exact (h z (List.mem_cons_of_mem _ hz)).1 h'
      · exact n1 (h' ▸ hz), (h z (List.mem_cons_of_mem _ hz)).2⟩) n2
theorem InvP.none {L : List OneP} {M : BkM} (h : InvP L M) (ha : AskOk M) {x : Nat} (hx : x < 256) : M.A (idN x) = none ↔ ∀ o ∈ L, x ∉ o.ak := by
  constructor
  · intro e o ho hm
    have : idN x ∈ M.L o.id := by rw [h.K o ho]; exact List.mem_map.2 ⟨x, hm, rfl⟩
    rw [(ha _ _).2 this] at e
    cases e
  · intro hn
    cases e : M.A (idN x) with
    | none => rfl
    | some i =>
      have hm := (ha _ _).1 e
      by_cases hp : ∀ o ∈ L, o.id ≠ i
      · rw [h.L0 i hp] at hm; cases hm
      · have : ∃ o ∈ L, o.id = i := Classical.byContradiction fun hc => hp fun o ho e => hc ⟨o, ho, e⟩
        obtain ⟨o, ho, rfl⟩ := this
        rw [h.K o ho] at hm
        obtain ⟨y, hy, e⟩ := List.mem_map.1 hm
        have := idN_inj ((h.b o ho).1 y hy) hx e
        subst this
        exact absurd hy (hn o ho)
theorem InvP.clean {L : List OneP} {M : BkM} (h : InvP L M) (ha : AskOk M) {N : List Nat} (hN : ∀ x ∈ N, x < 256) : twB M.A [] (N.map idN) = false ↔ Clean L N := by
  constructor
  · intro ht
    obtain ⟨h1, h2⟩ := twB_false _ _ _ ht
    exact ⟨(List.pairwise_map.1 h2).imp (fun {a b} hne e => hne (by rw [e])), fun x hx => (h.none ha (hN x hx)).1 (h1 _ (List.mem_map.2 ⟨x, hx, rfl⟩)).2⟩
  · rintro ⟨h1, h2⟩
    refine tw_ok _ _ _ (fun z hz => ?_) (List.pairwise_map.2 (h1.imp_of_mem (fun {a b} ha hb hne e => hne (idN_inj (hN a ha) (hN b hb) e))))
    obtain ⟨x, hx, rfl⟩ := List.mem_map.1 hz
    exact ⟨by simp, (h.none ha (hN x hx)).2 (h2 x hx)⟩
open Classical in
theorem InvP.said {L : List OneP} {M : BkM} (h : InvP L M) (ha : AskOk M) {k : Nat} {o : OneP} (hk : L[k]? = some o) (kd : Int) {N : List Nat} (hN : ∀ x ∈ N, x < 256) :
    saidE M o.id kd (N.map idN) = mayE L o kd N ∧ InvP (L.set k (mayP L o kd N)) (saidM M o.id kd (N.map idN)) := by
  have ho := List.mem_of_getElem? hk
  have hb := h.b o ho
  have hT := h.T o ho
  have hE : saidE M o.id kd (N.map idN) = if kd = 1 then (greet1 ⟨o.t, o.r, o.v, o.a⟩).1 else if kd = 2 then (greet2 ⟨o.t, o.r, o.v, o.a⟩).1 else if (!o.a || !o.r) = true then 7 else if kd = 6 then askE M o.id (N.map idN) else 0 := by unfold saidE; rw [hT]
  have hM : saidM M o.id kd (N.map idN) = if kd = 1 then setT M o.id (greet1 ⟨o.t, o.r, o.v, o.a⟩).2 else if kd = 2 then setT M o.id (greet2 ⟨o.t, o.r, o.v, o.a⟩).2 else if (!o.a || !o.r) = true then M else if kd = 6 then askM M o.id (N.map idN) else M := by unfold saidM; rw [hT]
  have hP : mayP L o kd N = if mayE L o kd N = 0 then (if kd = 1 then { o with v := true } else if kd = 2 then { o with a := true } else if kd = 6 then { o with ak := o.ak ++ N } else o) else o := rfl
  have stay : ∀ M', M' = M → InvP (L.set k o) M' := fun M' e => by rw [e, set_same hk]; exact h
  have tsame : ∀ k', k' = (⟨o.t, o.r, o.v, o.a⟩ : TkM) → setT M o.id k' = M := fun k' e => by
    have : updT M.T o.id (some k') = M.T := by
      funext j
      unfold updT
      by_cases ej : j = o.id
      · rw [if_pos ej, ej, hT, e]
      · rw [if_neg ej]
    unfold setT
    rw [this]
  rw [hE, hM, hP]
  by_cases e1 : kd = 1
  · have hmE : mayE L o kd N = if o.v = true then 5 else 0 := by unfold mayE; rw [if_pos e1]
    rw [hmE, if_pos e1, if_pos e1, if_pos e1]
    refine ⟨rfl, ?_⟩
    cases hv : o.v with
    | true =>
      rw [if_neg (by simp)]
      refine stay _ (tsame _ ?_)
      show (⟨o.t, o.r, true, o.a⟩ : TkM) = _
      rw [hv]
    | false =>
      rw [if_pos (by simp)]
      exact h.set hk rfl rfl (updT_same _ _ _) (fun j hj => if_neg hj) (h.K o ho) (fun j _ => rfl) ⟨hb.1, hb.2.1, hb.2.2.2.1, fun e => ⟨rfl, (hb.2.2.2.2 e).2⟩⟩
  have hm1 : mayE L o kd N = if kd = 2 then (if o.a = true then 5 else if (!o.v || !o.t) = true then 7 else 0)
      else if (!o.v || !o.a || !o.t || !o.r) = true then 7 else if kd ≠ 6 then 0 else if N.length = 0 then 6 else if ¬ Clean L N then 5 else if 16 < o.ak.length + N.length then 3 else 0 := by unfold mayE; rw [if_neg e1]
  rw [if_neg e1, if_neg e1, if_neg e1]
  by_cases e2 : kd = 2
  · rw [if_pos e2] at hm1
    rw [hm1, if_pos e2, if_pos e2, if_pos e2]
    unfold greet2
    cases hv : o.a with
    | true =>
      refine ⟨rfl, ?_⟩
      rw [if_neg (by simp)]
      exact stay _ (tsame _ (by rw [if_pos rfl, hv]))
    | false =>
      by_cases hvt : (!o.v || !o.t) = true
      · simp only [hvt, if_true, Bool.false_eq_true, if_false]
        refine ⟨trivial, ?_⟩
        rw [if_neg (by simp)]
        exact stay _ (tsame _ (by simp only [hv]))
      · simp only [hvt, Bool.false_eq_true, if_false]
        refine ⟨trivial, ?_⟩
        rw [if_pos trivial]
        have hvv : o.v = true ∧ o.t = true := by
          cases h1 : o.v <;> cases h3 : o.t <;> rw [h1, h3] at hvt <;> first | exact ⟨rfl, rfl⟩ | exact absurd (by decide) hvt
        exact h.set hk rfl rfl (updT_same _ _ _) (fun j hj => if_neg hj) (h.K o ho) (fun j _ => rfl) ⟨hb.1, hb.2.1, hb.2.2.2.1, fun _ => hvv⟩
  rw [if_neg e2] at hm1
  rw [if_neg e2, if_neg e2, if_neg e2]
  by_cases hall : (!o.a || !o.r) = true
  · have : (!o.v || !o.a || !o.t || !o.r) = true := by
      cases h1 : o.v <;> cases h2 : o.a <;> cases h3 : o.t <;> cases h4 : o.r <;> rw [h2, h4] at hall <;> first | rfl | exact absurd hall (by decide)
    rw [if_pos this] at hm1
    rw [hm1, if_pos hall, if_pos hall]
    exact ⟨rfl, by rw [if_neg (by decide)]; exact stay _ rfl⟩
  have hno : ¬ (!o.v || !o.a || !o.t || !o.r) = true := by
    have h1 := hb.2.2.2.1
    have h2 := hb.2.2.2.2
    cases v : o.v <;> cases a : o.a <;> cases t : o.t <;> cases r : o.r <;> rw [v, a, t] at h2 <;> rw [t, r] at h1 <;> rw [a, r] at hall <;> first | decide | exact absurd (by decide) hall | exact absurd (h1 rfl) (by decide) | exact absurd (h2 rfl).1 (by decide) | exact absurd (h2 rfl).2 (by decide)
  rw [if_neg hno] at hm1
  rw [if_neg hall, if_neg hall]
  by_cases e6 : kd = 6
  · rw [if_neg (by simp [e6])] at hm1
    rw [if_pos e6, if_pos e6, if_pos e6]
    have hA : askE M o.id (N.map idN) = mayE L o kd N := by
      rw [hm1]
      unfold askE
      rw [List.length_map, h.K o ho, List.length_map]
      by_cases hn : N.length = 0
      · rw [if_pos hn, if_pos hn]
      · rw [if_neg hn, if_neg hn]
        have hc := h.clean ha hN
        cases ht : twB M.A [] (N.map idN) with
        | true => rw [if_pos rfl, if_pos (show ¬ Clean L N from fun c => by rw [hc.2 c] at ht; cases ht)]
        | false => rw [if_neg (by decide), if_neg (fun c : ¬ Clean L N => c (hc.1 ht))]
    rw [hA]
    refine ⟨rfl, ?_⟩
    unfold askM
    rw [hA]
    by_cases h0 : mayE L o kd N = 0
    · rw [if_pos h0, if_pos h0]
      have h16 : o.ak.length + N.length ≤ 16 := by
        rw [hm1] at h0
        by_cases hn : N.length = 0
        · rw [if_pos hn] at h0; cases h0
        · rw [if_neg hn] at h0
          by_cases hc : ¬ Clean L N
          · rw [if_pos hc] at h0; cases h0
          · rw [if_neg hc] at h0
            by_cases h6 : 16 < o.ak.length + N.length
            · rw [if_pos h6] at h0; cases h0
            · omega
      refine h.set hk rfl rfl hT (fun j _ => rfl) ?_ (fun j hj => if_neg hj) ⟨fun x hx => (List.mem_append.1 hx).elim (hb.1 x) (hN x), by rw [List.length_append]; exact h16, hb.2.2.2.1, hb.2.2.2.2⟩
      show (if o.id = o.id then M.L o.id ++ N.map idN else M.L o.id) = (o.ak ++ N).map idN
      rw [if_pos rfl, h.K o ho, List.map_append]
    · rw [if_neg h0, if_neg h0]
      exact stay _ rfl
  · rw [if_pos e6] at hm1
    rw [hm1, if_neg e6, if_neg e6, if_neg e6, if_pos rfl]
    exact ⟨rfl, stay _ rfl⟩
end Go.Proofs.Ytcedljfdnbenoaa
