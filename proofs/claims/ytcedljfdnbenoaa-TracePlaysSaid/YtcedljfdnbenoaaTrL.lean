/-
  Package trace's laws: a map that counts; what stays.
-/
import Derived.Test.YtcedljfdnbenoaaTrK
namespace Go.Proofs.Ytcedljfdnbenoaa
open Go.RowKit
set_option linter.unusedVariables false
set_option linter.unusedSimpArgs false
set_option maxRecDepth 100000

def ciE : MpT Int Int := ⟨kInt, 53, 3, litI, fun j => .lit (.int .i64 j), fun j => .int .i64 j, .int .i64 0, .lit (.int .i64 0)⟩
theorem ciE_ok : ciE.Ok where
  hk := kInt_ok
  ht := Try.underlying53
  zero := fun w => by kernel_rfl
  rz := rfl
  inv0 := akE_ok.inv0
  rd := fun x => rfl
  inv := akE_ok.inv
theorem MapG.look0 {κ β : Type} {E : MpT κ β} (hE : E.Ok) {w : World} {b n : Nat} {f : κ → Option β} (h : MapG E w b n f) {x : κ} (hx : E.K.ok x) :
    (Instr.lookup E.t (.map (some b)) (E.K.kv x) false).run Try.prog w = .ok (valO E (f x)) w := by
  obtain ⟨D, h, _, hf⟩ := h
  obtain ⟨kl, hk⟩ := hE.hk.key x hx
  obtain ⟨v, ps, hrun, hv⟩ := h.lookup hE.hk.law hE.ht (hE.zero w) hE.rz hk
  rw [hrun]
  cases hfx : f x with
  | none =>
    have := hf.no x kl hx hk hfx
    rw [Go.Maps.atKey_of_not_has this] at hv
    rw [hE.inv0 v ps hv]
    rfl
  | some y =>
    rw [(hf.yes x kl y hx hk hfx).2] at hv
    rw [hE.inv v y ps hv]
    rfl
theorem MapG.same {κ β : Type} {E : MpT κ β} {w w' : World} {b n : Nat} {f : κ → Option β} (h : MapG E w b n f) (hs : w'.heap[b]? = w.heap[b]?) : MapG E w' b n f := by
  obtain ⟨D, ⟨es, clock, h1, h2⟩, h3⟩ := h
  exact ⟨D, ⟨es, clock, hs.trans h1, h2⟩, h3⟩
theorem MineR.same {α : Type} {R : RowT α} {W W' : World} {F : Nat → Prop} {lo : Nat} {v : Value} {L : List α} (h : MineR R W lo v L) (hs : SameF F W W') (hF : ∀ k, slb v k → F k) : MineR R W' lo v L := by
  rcases h with h | ⟨T, cap, z, rfl, h1, h2, h3, K⟩
  · exact .inl h
  · exact .inr ⟨T, cap, z, rfl, h1, h2, h3, hs.keep (hF T (slb_mk T 0 _ _)) K⟩
theorem HasF.app {w W W' : World} {F F' G : Nat → Prop} {g N : Nat} {M : BkM} (h : HasF w W F g N M) (hb : But G W W') (hG : ∀ k, G k → k < W.heap.size → F k ∧ w.heap.size ≤ k) (hF : ∀ k, F' k → F k ∨ (W.heap.size ≤ k ∧ k < W'.heap.size)) : HasF w W' F' g N M := by
  obtain ⟨S, r1, r2, r3, r4⟩ := h
  refine ⟨_, r1.tight.but hb (fun k hk hs hg => (r3 k (hG k hg hk).1).2 hs.1), fun k hk => r2 k hk.1, fun k hk => ?_, r4.trans ?_⟩
  · rcases hF k hk with h | ⟨h1, h2⟩
    · exact ⟨Nat.lt_of_lt_of_le (r3 k h).1 hb.size, fun hk => (r3 k h).2 hk.1⟩
    · exact ⟨h2, fun hk => by have := hk.2; omega⟩
  · exact ⟨hb.os, hb.tape, hb.output, hb.size, fun k hk => hb.block k (Nat.lt_of_lt_of_le hk r4.size) (fun hg => by have := (hG k hg (Nat.lt_of_lt_of_le hk r4.size)).2; omega)⟩
theorem setT_nM (T : Int → Option TkM) (n : Nat) (id : Int) (a b : TkM) : setT ⟨updT T id (some a), n, fun _ => none, fun _ => []⟩ id b = ⟨updT T id (some b), n, fun _ => none, fun _ => []⟩ := by
  unfold setT
  simp only [updT_two]
end Go.Proofs.Ytcedljfdnbenoaa
