/-
  Package ban: the addresses of a table are unlike; what that gives.
-/
import Derived.Test.YtckmkbnmbleegaaBanH
namespace Go.Proofs.Ytckmkbnmbleegaa
open Go.RowKit
set_option linter.unusedVariables false
set_option linter.unusedSimpArgs false
set_option maxRecDepth 100000

def ads (M : List BanM) : List Int := M.map (·.addr)
theorem raise_ads (a u : Int) (M : List BanM) : ads (raise a u M) = ads M := by
  induction M with
  | nil => rfl
  | cons x r ih =>
    unfold raise
    split
    · rfl
    · unfold ads at *
      rw [List.map_cons, List.map_cons, ih]
theorem find_none_iff (a : Int) (M : List BanM) : M.find? (isA a) = none ↔ a ∉ ads M := by
  rw [List.find?_eq_none]
  unfold ads
  constructor
  · intro h hm
    obtain ⟨x, hx, e⟩ := List.mem_map.1 hm
    exact h x hx (by rw [← e]; simp [isA])
  · intro h x hx hp
    exact h (List.mem_map.2 ⟨x, hx, by simpa [isA] using hp⟩)
theorem ads_filter_sub (M : List BanM) (p : BanM → Bool) : (ads (M.filter p)).Sublist (ads M) := List.Sublist.map _ List.filter_sublist
theorem ads_app (M N : List BanM) : ads (M ++ N) = ads M ++ ads N := by unfold ads; rw [List.map_append]
theorem banF_nodup {M : List BanM} (a u : Int) (h : (ads M).Nodup) : (ads (banF M a u)).Nodup := by
  cases hf : M.find? (isA a) with
  | some x => rw [banF_hit u hf, raise_ads]; exact h
  | none =>
    have hn := (find_none_iff a M).1 hf
    have happ : (ads (M ++ [(⟨a, u⟩ : BanM)])).Nodup := by
      rw [ads_app]
      exact List.nodup_append.2 ⟨h, by simp [ads], fun x hx y hy e => by
        simp [ads] at hy
        subst hy
        subst e
        exact hn hx⟩
    by_cases h32 : M.length < 32
    · rw [banF_room u hf h32]; exact happ
    · rw [banF_full u hf h32]; exact List.Nodup.sublist (ads_filter_sub _ _) happ
theorem banF_sub {M : List BanM} (a u : Int) : ∀ x ∈ ads (banF M a u), x ∈ ads M ∨ x = a := by
  intro x hx
  cases hf : M.find? (isA a) with
  | some y => rw [banF_hit u hf, raise_ads] at hx; exact .inl hx
  | none =>
    have h1 : x ∈ ads (M ++ [(⟨a, u⟩ : BanM)]) := by
      by_cases h32 : M.length < 32
      · rw [banF_room u hf h32] at hx; exact hx
      · rw [banF_full u hf h32] at hx; exact (ads_filter_sub _ _).subset hx
    rw [ads_app] at h1
    rcases List.mem_append.1 h1 with h | h
    · exact .inl h
    · exact .inr (by simpa [ads] using h)
theorem til_filter {M : List BanM} (h : (ads M).Nodup) (p : BanM → Bool) (a : Int) : til (M.filter p) a = match M.find? (isA a) with | some x => if p x = true then (x.til, true) else (0, false) | none => (0, false) := by
  induction M with
  | nil => rfl
  | cons x r ih =>
    have hr : (ads r).Nodup := (List.nodup_cons.1 h).2
    have hxr : x.addr ∉ ads r := (List.nodup_cons.1 h).1
    by_cases hx : isA a x = true
    · rw [List.find?_cons_of_pos hx]
      by_cases hp : p x = true
      · rw [List.filter_cons_of_pos hp, til_some (List.find?_cons_of_pos hx)]
        simp [hp]
      · rw [List.filter_cons_of_neg hp]
        have ha : a = x.addr := by have : x.addr = a := by simpa [isA] using hx
                                   exact this.symm
        rw [til_none ((find_none_iff a _).2 (fun hm => hxr (by rw [← ha]; exact (ads_filter_sub _ _).subset hm)))]
        simp [hp]
    · rw [List.find?_cons_of_neg hx]
      by_cases hp : p x = true
      · rw [List.filter_cons_of_pos hp, ← ih hr]
        unfold til
        rw [List.find?_cons_of_neg hx]
      · rw [List.filter_cons_of_neg hp, ih hr]
def bnd (M : List BanM) (now a : Int) : Bool := (til M a).2 && decide (now < (til M a).1)
def liv (now : Int) (x : BanM) : Bool := !decide (x.til ≤ now)
theorem liv_lt (now : Int) (x : BanM) : liv now x = decide (now < x.til) := by
  unfold liv
  by_cases h : x.til ≤ now
  · rw [decide_eq_true h, decide_eq_false (by omega)]; rfl
  · rw [decide_eq_false h, decide_eq_true (by omega)]; rfl
theorem swept_ok {M : List BanM} (h : (ads M).Nodup) (now a : Int) : (til (M.filter (liv now)) a).2 = bnd M now a ∧ bnd (M.filter (liv now)) now a = bnd M now a := by
  have e := til_filter h (liv now) a
  unfold bnd
  cases hf : M.find? (isA a) with
  | none =>
    rw [hf] at e
    rw [e, til_none hf]
    exact ⟨rfl, rfl⟩
  | some x =>
    rw [hf] at e
    simp only [] at e
    rw [e, til_some hf, liv_lt]
    by_cases hn : now < x.til
    · rw [if_pos (decide_eq_true hn)]
      simp [hn]
    · rw [if_neg (by rw [decide_eq_false hn]; decide)]
      simp [hn]
/-- The addresses that are kept aside. -/
def kept (M : List BanM) (now : Int) (L : List OpM) : List Int := (L.map (·.addr)).filter (bnd M now)
theorem kept_any (M : List BanM) (now : Int) (L : List OpM) (a : Int) (h : a ∈ L.map (·.addr)) : (kept M now L).any (fun x => x == a) = bnd M now a := by
  unfold kept
  cases hb : bnd M now a with
  | true => exact List.any_eq_true.2 ⟨a, List.mem_filter.2 ⟨h, hb⟩, by simp⟩
  | false =>
    refine List.any_eq_false.2 (fun x hx => ?_)
    have hx2 := (List.mem_filter.1 hx).2
    intro e
    have : x = a := by simpa using e
    subst this
    rw [hb] at hx2
    cases hx2
theorem nodup_le : ∀ (A B : List Int), A.Nodup → (∀ x ∈ A, x ∈ B) → A.length ≤ B.length := by
  intro A
  induction A with
  | nil => intro B _ _; exact Nat.zero_le _
  | cons x r ih =>
    intro B hn hs
    have hx : x ∈ B := hs x List.mem_cons_self
    have h1 := ih (B.erase x) (List.nodup_cons.1 hn).2 (fun y hy => by
      refine (List.mem_erase_of_ne (fun e => ?_)).2 (hs y (List.mem_cons_of_mem _ hy))
      subst e
      exact (List.nodup_cons.1 hn).1 hy)
    have h2 := List.length_erase_of_mem hx
    have h3 : 0 < B.length := List.length_pos_of_mem hx
    rw [List.length_cons]
    omega
theorem swept_le {M : List BanM} (h : (ads M).Nodup) (now : Int) (L : List OpM) (hs : ∀ x ∈ ads M, x ∈ L.map (·.addr)) : (M.filter (liv now)).length ≤ (kept M now L).length := by
  have e : (M.filter (liv now)).length = (ads (M.filter (liv now))).length := by unfold ads; rw [List.length_map]
  rw [e]
  refine nodup_le _ _ (List.Nodup.sublist (ads_filter_sub _ _) h) (fun x hx => ?_)
  have hxM := (ads_filter_sub _ _).subset hx
  refine List.mem_filter.2 ⟨hs x hxM, ?_⟩
  rw [← (swept_ok h now x).1]
  have : (M.filter (liv now)).find? (isA x) ≠ none := fun hn => (find_none_iff x _).1 hn hx
  cases hf : (M.filter (liv now)).find? (isA x) with
  | none => exact absurd hf this
  | some y => rw [til_some hf]
theorem kept_snoc {M : List BanM} {now : Int} {L : List OpM} {k : Nat} {x : OpM} (h : L[k]? = some x) : kept M now (L.take (k + 1)) = if bnd M now x.addr = true then kept M now (L.take k) ++ [x.addr] else kept M now (L.take k) := by
  unfold kept
  rw [List.take_add_one, h, List.map_append, List.filter_append]
  show _ ++ List.filter (bnd M now) [x.addr] = _
  cases hb : bnd M now x.addr with
  | true => rw [if_pos rfl, List.filter_cons_of_pos hb]; rfl
  | false => rw [if_neg (by decide), List.filter_cons_of_neg (by rw [hb]; decide)]; simp
theorem Tab.app {w W : World} {T : Nat} {v : Value} {lo lo2 : Nat} {M : List BanM} {v8 : Value} {KL : List Int} (h : Tab w T v lo M) (hK : MineR intR w lo2 v8 KL) (hb : But (slb v8) w W) : Tab W T v lo M :=
  ⟨hb.keep h.G (hK.apart h.G (by decide)), h.M.but_ hb (fun k hk hk8 => by
    obtain ⟨_, _, ys, K⟩ := h.M.slb_lo hk
    exact (hK.apart K (by decide)) hk8)⟩
theorem MineR.turned {w W : World} {T : Nat} {v : Value} {lo lo2 : Nat} {M : List BanM} {v8 : Value} {KL : List Int} (hK : MineR intR w lo2 v8 KL) (h : Tab w T v lo M) (hb : But (fun k => k = T ∨ slb v k) w W) : MineR intR W lo2 v8 KL :=
  hK.but_ hb (fun k hk hs => by
    rcases hs with rfl | hs
    · exact (hK.apart h.G (by decide)) hk
    · obtain ⟨_, _, ys, K⟩ := h.M.slb_lo hs
      exact (hK.apart K (by decide)) hk)
theorem liv_twice (M : List BanM) (now : Int) : (M.filter (liv now)).filter (liv now) = M.filter (liv now) := List.filter_eq_self.2 (fun x hx => (List.mem_filter.1 hx).2)
end Go.Proofs.Ytckmkbnmbleegaa
