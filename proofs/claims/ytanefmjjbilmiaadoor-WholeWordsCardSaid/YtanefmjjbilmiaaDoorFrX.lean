/-
  Words for the laws of package frame.
-/
import Derived.Test.YtanefmjjbilmiaaDoorFrJ
import Derived.Stop.Joined
namespace Go.Proofs.YtanefmjjbilmiaaDoor
open Go.ChangeShapes Go.WideShapes Go.ChangeAt Go.RowKit
set_option linter.unusedVariables false
set_option linter.unusedSimpArgs false
set_option maxRecDepth 100000
/-- What a new feed makes of bytes. -/
def FZ (B : List Nat) : FS := feedL ⟨[], 0, []⟩ B
theorem FZ_ok (B : List Nat) : FOk (FZ B) := feedL_ok _ FOk0
theorem FZ_app (A B : List Nat) : FZ (A ++ B) = feedL (FZ A) B := feedL_app _ _ _
theorem FZ_nil : FZ [] = ⟨[], 0, []⟩ := rfl
theorem tell_len (h : List Nat) (o) : (tell h o).h.length ≤ h.length := by
  unfold tell
  split
  · exact Nat.zero_le _
  · split
    · exact Nat.zero_le _
    · exact Nat.le_refl _
theorem feedL_len (b : List Nat) : ∀ s, (feedL s b).h.length ≤ s.h.length + b.length := by
  induction b with
  | nil => intro s; exact Nat.le_refl _
  | cons x b ih =>
    intro s
    have h1 := ih (feed1 s x)
    have h2 : (feed1 s x).h.length ≤ s.h.length + 1 := by
      unfold feed1
      split
      · omega
      · have := tell_len (s.h ++ [x]) s.out
        rw [List.length_append, List.length_singleton] at this
        exact this
    show (feedL (feed1 s x) b).h.length ≤ _
    rw [List.length_cons]
    omega
theorem tell_sub (h : List Nat) (o) (hx : ∀ x ∈ h, x < 256) : ∀ x ∈ (tell h o).h, x < 256 := by
  unfold tell
  split
  · intro x hx; cases hx
  · split
    · intro x hx; cases hx
    · exact hx
theorem feedL_lt (b : List Nat) : ∀ s, (∀ x ∈ s.h, x < 256) → (∀ x ∈ b, x < 256) → ∀ x ∈ (feedL s b).h, x < 256 := by
  induction b with
  | nil => intro s h _; exact h
  | cons y b ih =>
    intro s h hb
    refine ih (feed1 s y) ?_ (fun x hx => hb x (List.mem_cons_of_mem _ hx))
    unfold feed1
    split
    · exact h
    · refine tell_sub _ _ (fun x hx => ?_)
      rcases List.mem_append.1 hx with h1 | h1
      · exact h x h1
      · rw [List.mem_singleton.1 h1]; exact hb y List.mem_cons_self
theorem FZ_lt (B : List Nat) (h : ∀ x ∈ B, x < 256) : ∀ x ∈ (FZ B).h, x < 256 := feedL_lt B _ (by simp) h
theorem FZ_len (B : List Nat) : (FZ B).h.length ≤ B.length := by have := feedL_len B ⟨[], 0, []⟩; simpa [FZ] using this
theorem FZ_room (B : List Nat) : (FZ B).h.length < 16408 := by
  by_cases he : (FZ B).e = 0
  · exact hOk_len ((FZ_ok B).2.1 he)
  · rw [(FZ_ok B).1 he]; decide
theorem fs_eta (s : FS) : s = ⟨s.h, s.e, s.out⟩ := rfl
theorem feed_from (s : FS) (B : List Nat) : (feedL ⟨s.h, s.e, []⟩ B).h = (feedL s B).h ∧ (feedL ⟨s.h, s.e, []⟩ B).e = (feedL s B).e ∧ s.out ++ (feedL ⟨s.h, s.e, []⟩ B).out = (feedL s B).out := by
  have h := feedL_out B s.h s.e s.out
  rw [← fs_eta s] at h
  rw [h]
  exact ⟨rfl, rfl, rfl⟩
/-- Add to a feed that stands, in the words of the whole. -/
theorem fadd_on (p lo m cb : Nat) (sb : Option Addr) (v : Value) (A B : List Nat) (W : World) (hL : Laid W) (hLo : 3 + 1 ≤ lo) (hpl : lo ≤ p) (hlo : lo ≤ W.heap.size) (hF : FeedM W p lo v (FZ A).h (FZ A).e) (hA : ∀ x ∈ A, x < 256) (hb : BsN W (fun k => k = p ∨ slb v k) (.slice sb m cb) B) (hl : B.length ≤ 1000000) :
    Calls Tryd.prog 21 #[.pointer (some ⟨p, 0, none⟩), .slice sb m cb] W fun r w' => ∃ rv v' L, r = .returned rv ∧ FeedM w' p lo v' (FZ (A ++ B)).h (FZ (A ++ B)).e ∧ MadeM w' W.heap.size v' rv L ∧ (FZ A).out ++ L.map FrM.pr = (FZ (A ++ B)).out ∧ But (fun k => k = p ∨ slb v k) W w' ∧ (∀ k, slb v' k → slb v k ∨ W.heap.size ≤ k) ∧ Below lo W w' := by
  have hok : FOk ⟨(FZ A).h, (FZ A).e, []⟩ := FZ_ok A
  refine (fadd_any p lo (FZ A).e m cb sb v (FZ A).h B W hL hLo hpl hF (FZ_lt A hA) hok hlo hb hl).mono ?_
  rintro r w' ⟨rv, rfl, v', L, h1, h2, h3, h4, h5⟩
  have hf := feed_from (FZ A) B
  rw [← FZ_app] at hf
  rw [hf.1, hf.2.1] at h1
  refine ⟨rv, v', L, rfl, h1, h2, by rw [h3]; exact hf.2.2, h4, h5, h4.below hlo (fun k hk => ?_)⟩
  rcases hk with rfl | hk
  · exact hpl
  · exact (hF.2.slb_lo hk).1
/-- Bytes that were there before are none of the feed's. -/
theorem bsn_old {W : World} {B0 p : Nat} {u v : Value} {xs h : List Nat} (hb : BsV W B0 u xs) (hB : B0 ≤ W.heap.size) (hp : B0 ≤ p) (hv : Mine W B0 v h) : BsN W (fun k => k = p ∨ slb v k) u xs :=
  BsN.of_bs hb hB (fun k hk hc => by
    rcases hc with hc | hc
    · omega
    · have := (hv.slb_lo hc).1; omega)
theorem str_arg {H : Type} {enc : TypeId × Value → H} {w : World} {base b0 : Nat} {spare : Nat → Bool} {held : Bool} {r : Reach} {v : Value} {d : DataW H} {p : List MemPlace}
    (hv : Value.okWide Tryd.prog w r b0 9 v) (h : DataW.Trod enc Tryd.prog w base spare held 9 v d p) : ∃ l : List Nat, (∀ x ∈ l, x < 256) ∧ v = .string (strN l) := by
  obtain ⟨s, rfl⟩ := okWide_string Tryd.underlying9 hv
  refine ⟨s.data.toList.map (·.toNat), fun x hx => ?_, ?_⟩
  · obtain ⟨b, _, rfl⟩ := List.mem_map.1 hx
    exact b.toNat_lt
  · congr 1
    apply byteArray_ext
    rw [strN_list, List.map_map]
    have : ((UInt8.ofNat ∘ fun x : UInt8 => x.toNat)) = id := by
      funext x
      simp
    rw [this, List.map_id]
end Go.Proofs.YtanefmjjbilmiaaDoor
