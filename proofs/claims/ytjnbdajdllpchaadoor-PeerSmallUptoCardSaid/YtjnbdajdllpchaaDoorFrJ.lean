/-
  The contracts of a Feed's Held and Err, and of the law's word frames.
-/
import Derived.Test.YtjnbdajdllpchaaDoorFrB
import Derived.Test.YtjnbdajdllpchaaDoorFrI
import Derived.Lib.SlBytesConst
namespace Go.Proofs.YtjnbdajdllpchaaDoor
open Go.RowKit
set_option linter.unusedVariables false
set_option linter.unusedSimpArgs false
set_option maxRecDepth 100000
theorem fheld_any {FT : TypeId} {FR : Array Value} {fo : Nat} [hfd : FdOk FT FR fo] (p lo n c e : Nat) (s : Option Addr) (h : List Nat) (w : World) (hF : FeedM FT FR fo w p lo (.slice s n c) h e) :
    Calls Tryd.prog 25 #[.pointer (some ⟨p, fo, none⟩)] w fun r w' => r = .returned (.int .i64 (n : Int)) ∧ w' = w := by
  have c0 := fd0 hF.1
  have z0 := hF.1.lt
  clear hF
  go_enter Tryd.func25, Tryd.ntmps25
  go_wp2_with fail
  go_ret
  exact ⟨rfl, rfl⟩
theorem ferr_any {FT : TypeId} {FR : Array Value} {fo : Nat} [hfd : FdOk FT FR fo] (p lo e : Nat) (v : Value) (h : List Nat) (w : World) (hF : FeedM FT FR fo w p lo v h e) :
    Calls Tryd.prog 32 #[.pointer (some ⟨p, fo, none⟩)] w fun r w' => r = .returned (.int .i64 (e : Int)) ∧ w' = w := by
  have c0 := fd1 hF.1
  have z0 := hF.1.lt
  clear hF
  go_enter Tryd.func32, Tryd.ntmps32
  go_wp2_with fail
  go_ret
  exact ⟨rfl, rfl⟩
theorem str_eqb (x y : List Nat) (hx : ∀ b ∈ x, b < 256) (hy : ∀ b ∈ y, b < 256) : ((strN x).toList == (strN y).toList) = decide (x = y) := by
  rw [strN_toList, strN_toList]
  by_cases h : x = y
  · subst h
    simp
  · rw [decide_eq_false h, beq_eq_false_iff_ne]
    intro e
    apply h
    have hl : x.length = y.length := by have := congrArg List.length e; simpa using this
    apply List.ext_getElem hl
    intro i h1 h2
    have e1 : (x.map UInt8.ofNat)[i]? = (y.map UInt8.ofNat)[i]? := by rw [e]
    rw [List.getElem?_map, List.getElem?_map, List.getElem?_eq_getElem h1, List.getElem?_eq_getElem h2] at e1
    have e2 : UInt8.ofNat x[i] = UInt8.ofNat y[i] := by simpa using e1
    have e3 := congrArg UInt8.toNat e2
    rw [UInt8.toNat_ofNat', UInt8.toNat_ofNat'] at e3
    have a1 := hx _ (List.getElem_mem h1)
    have a2 := hy _ (List.getElem_mem h2)
    omega
theorem wordOk_dec (l : List Nat) (h1 : 1 ≤ l.length) (h2 : l.length ≤ 12) (h : ∀ x ∈ l, 97 ≤ x ∧ x ≤ 122) : WordOk l := ⟨h1, h2, fun i hi => h _ (by
  unfold nth
  rw [List.getD_eq_getElem?_getD, List.getElem?_eq_getElem hi]
  exact List.getElem_mem hi)⟩
def pingL : List Nat := [112, 105, 110, 103]
def hiL : List Nat := [104, 105]
theorem ping_ok : WordOk pingL := wordOk_dec _ (by decide) (by decide) (by decide)
/-- A frame's bytes make that frame. -/
theorem feed_one_enc (wd da : List Nat) (h : WordOk wd) (hd : da.length ≤ 16384) (hx : ∀ x ∈ da, x < 256) : feedL ⟨[], 0, []⟩ (encL wd da) = ⟨[], 0, [(wd, da)]⟩ := by
  have h1 := feed_enc wd da [] [] h hd hx (by simp)
  rw [List.append_nil] at h1
  exact h1
theorem map_one {L : List FrM} {a b : List Nat} (h : L.map FrM.pr = [(a, b)]) : ∃ s c, L = [⟨a, s, c, b⟩] := by
  match L, h with
  | [x], h =>
    obtain ⟨wd, s, c, da⟩ := x
    simp [FrM.pr] at h
    obtain ⟨rfl, rfl⟩ := h
    exact ⟨s, c, rfl⟩
  | [], h => simp at h
  | _ :: _ :: _, h => simp at h
theorem new_feed {FT : TypeId} {FR : Array Value} {fo : Nat} [hfd : FdOk FT FR fo] {W : World} {B : Nat} (h : Bk W B FT (fdA FR fo (.slice none 0 0) (.int .i64 0))) (lo : Nat) : FeedM FT FR fo W B lo (.slice none 0 0) [] 0 := ⟨h, .inl ⟨rfl, rfl⟩⟩
theorem FOk0 : FOk ⟨[], 0, []⟩ := FOk.zero []
/-- A slice of one's own that is not the feed's. -/
theorem bsn_new {w W : World} {B p : Nat} {v : Value} {xs : List Nat} (h : BsV W B v xs) (hB : B ≤ W.heap.size) (hp : B ≤ p) : BsN W (fun k => k = p ∨ slb (.slice none 0 0) k) v xs :=
  BsN.of_bs h hB (fun k hk hc => by
    rcases hc with hc | hc
    · omega
    · exact slb_none _ _ _ hc)
/-- The one frame that is there, in memory. -/
theorem made_one {W : World} {lo : Nat} {v rv : Value} {x : FrM} (h : MadeM W lo v rv [x]) : ∃ b c, rv = .slice (some ⟨b, 0, none⟩) 1 c ∧ b < W.heap.size ∧ W.cell? ⟨b, 0, none⟩ = some (.string (strN x.wd)) ∧ W.cell? ⟨b, 1, none⟩ = some x.dv ∧ 1 ≤ c := by
  have hm := h.1
  rcases hm with ⟨_, hc⟩ | ⟨T, cap, z, rfl, hc, hc2, hT, K⟩
  · cases hc
  · refine ⟨T, cap, rfl, K.lt, ?_, ?_, by rw [hc]; simp⟩
    · have h1 := rowr_row frR_ok (L := [x]) (M := List.replicate z frR.z) K 0 x rfl 0 _ rfl
      simpa using h1
    · have h1 := rowr_row frR_ok (L := [x]) (M := List.replicate z frR.z) K 0 x rfl 1 _ rfl
      simpa using h1
end Go.Proofs.YtjnbdajdllpchaaDoor
