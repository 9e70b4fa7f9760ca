/-
  Texts in one: FrX, Fed.
-/
import Derived.Test.YtfflgimbgmbpaaaDoorFrJ
import Derived.Stop.Joined
namespace Go.Proofs.YtfflgimbgmbpaaaDoor
open Go.ChangeShapes Go.WideShapes Go.ChangeAt Go.RowKit
set_option linter.unusedVariables false
set_option linter.unusedSimpArgs false
set_option maxRecDepth 100000
/-- What a new feed makes of bytes. -/
def FZ (B : List Nat) : FS := feedL ⟨[], 0, []⟩ B
theorem FZ_ok (B : List Nat) : FOk (FZ B) := feedL_ok _ FOk0
theorem FZ_app (A B : List Nat) : FZ (A ++ B) = feedL (FZ A) B := feedL_app _ _ _
theorem FZ_nil : FZ [] = ⟨[], 0, []⟩ := rfl
theorem tell_len (h : List Nat) (o) : (tell h o).h.length ≤ h.length := by
  unfold tell
  split
  · exact Nat.zero_le _
  · split
    · exact Nat.zero_le _
    · exact Nat.le_refl _
theorem feedL_len (b : List Nat) : ∀ s, (feedL s b).h.length ≤ s.h.length + b.length := by
  induction b with
  | nil => intro s; exact Nat.le_refl _
  | cons x b ih =>
    intro s
    have h1 := ih (feed1 s x)
    have h2 : (feed1 s x).h.length ≤ s.h.length + 1 := by
      unfold feed1
      split
      · omega
      · have := tell_len (s.h ++ [x]) s.out
        rw [List.length_append, List.length_singleton] at this
        exact this
    show (feedL (feed1 s x) b).h.length ≤ _
    rw [List.length_cons]
    omega
theorem tell_sub (h : List Nat) (o) (hx : ∀ x ∈ h, x < 256) : ∀ x ∈ (tell h o).h, x < 256 := by
  unfold tell
  split
  · intro x hx; cases hx
  · split
    · intro x hx; cases hx
    · exact hx
theorem feedL_lt (b : List Nat) : ∀ s, (∀ x ∈ s.h, x < 256) → (∀ x ∈ b, x < 256) → ∀ x ∈ (feedL s b).h, x < 256 := by
  induction b with
  | nil => intro s h _; exact h
  | cons y b ih =>
    intro s h hb
    refine ih (feed1 s y) ?_ (fun x hx => hb x (List.mem_cons_of_mem _ hx))
    unfold feed1
    split
    · exact h
    · refine tell_sub _ _ (fun x hx => ?_)
      rcases List.mem_append.1 hx with h1 | h1
      · exact h x h1
      · rw [List.mem_singleton.1 h1]; exact hb y List.mem_cons_self
theorem FZ_lt (B : List Nat) (h : ∀ x ∈ B, x < 256) : ∀ x ∈ (FZ B).h, x < 256 := feedL_lt B _ (by simp) h
theorem FZ_len (B : List Nat) : (FZ B).h.length ≤ B.length := by have := feedL_len B ⟨[], 0, []⟩; simpa [FZ] using this
theorem FZ_room (B : List Nat) : (FZ B).h.length < 16408 := by
  by_cases he : (FZ B).e = 0
  · exact hOk_len ((FZ_ok B).2.1 he)
  · rw [(FZ_ok B).1 he]; decide
theorem fs_eta (s : FS) : s = ⟨s.h, s.e, s.out⟩ := rfl
theorem feed_from (s : FS) (B : List Nat) : (feedL ⟨s.h, s.e, []⟩ B).h = (feedL s B).h ∧ (feedL ⟨s.h, s.e, []⟩ B).e = (feedL s B).e ∧ s.out ++ (feedL ⟨s.h, s.e, []⟩ B).out = (feedL s B).out := by
  have h := feedL_out B s.h s.e s.out
  rw [← fs_eta s] at h
  rw [h]
  exact ⟨rfl, rfl, rfl⟩
/-- Add to a feed that stands, in the words of the whole. -/
theorem fadd_on (p lo m cb : Nat) (sb : Option Addr) (v : Value) (A B : List Nat) (W : World) (hL : Laid W) (hLo : 3 + 1 ≤ lo) (hpl : lo ≤ p) (hlo : lo ≤ W.heap.size) (hF : FeedM W p lo v (FZ A).h (FZ A).e) (hA : ∀ x ∈ A, x < 256) (hb : BsN W (fun k => k = p ∨ slb v k) (.slice sb m cb) B) (hl : B.length ≤ 1000000) :
    Calls Tryd.prog 31 #[.pointer (some ⟨p, 0, none⟩), .slice sb m cb] W fun r w' => ∃ rv v' L, r = .returned rv ∧ FeedM w' p lo v' (FZ (A ++ B)).h (FZ (A ++ B)).e ∧ MadeM w' W.heap.size v' rv L ∧ (FZ A).out ++ L.map FrM.pr = (FZ (A ++ B)).out ∧ But (fun k => k = p ∨ slb v k) W w' ∧ (∀ k, slb v' k → slb v k ∨ W.heap.size ≤ k) ∧ Below lo W w' := by
  have hok : FOk ⟨(FZ A).h, (FZ A).e, []⟩ := FZ_ok A
  refine (fadd_any p lo (FZ A).e m cb sb v (FZ A).h B W hL hLo hpl hF (FZ_lt A hA) hok hlo hb hl).mono ?_
  rintro r w' ⟨rv, rfl, v', L, h1, h2, h3, h4, h5⟩
  have hf := feed_from (FZ A) B
  rw [← FZ_app] at hf
  rw [hf.1, hf.2.1] at h1
  refine ⟨rv, v', L, rfl, h1, h2, by rw [h3]; exact hf.2.2, h4, h5, h4.below hlo (fun k hk => ?_)⟩
  rcases hk with rfl | hk
  · exact hpl
  · exact (hF.2.slb_lo hk).1
/-- Bytes that were there before are none of the feed's. -/
theorem bsn_old {W : World} {B0 p : Nat} {u v : Value} {xs h : List Nat} (hb : BsV W B0 u xs) (hB : B0 ≤ W.heap.size) (hp : B0 ≤ p) (hv : Mine W B0 v h) : BsN W (fun k => k = p ∨ slb v k) u xs :=
  BsN.of_bs hb hB (fun k hk hc => by
    rcases hc with hc | hc
    · omega
    · have := (hv.slb_lo hc).1; omega)
theorem str_arg {H : Type} {enc : TypeId × Value → H} {w : World} {base b0 : Nat} {spare : Nat → Bool} {held : Bool} {r : Reach} {v : Value} {d : DataW H} {p : List MemPlace}
    (hv : Value.okWide Tryd.prog w r b0 9 v) (h : DataW.Trod enc Tryd.prog w base spare held 9 v d p) : ∃ l : List Nat, (∀ x ∈ l, x < 256) ∧ v = .string (strN l) := by
  obtain ⟨s, rfl⟩ := okWide_string Tryd.underlying9 hv
  refine ⟨s.data.toList.map (·.toNat), fun x hx => ?_, ?_⟩
  · obtain ⟨b, _, rfl⟩ := List.mem_map.1 hx
    exact b.toNat_lt
  · congr 1
    apply byteArray_ext
    rw [strN_list, List.map_map]
    have : ((UInt8.ofNat ∘ fun x : UInt8 => x.toNat)) = id := by
      funext x
      simp
    rw [this, List.map_id]
end Go.Proofs.YtfflgimbgmbpaaaDoor
namespace Go.Proofs.YtfflgimbgmbpaaaDoor
open Go.ChangeShapes Go.WideShapes Go.ChangeAt Go.RowKit
set_option linter.unusedVariables false
set_option linter.unusedSimpArgs false
set_option maxRecDepth 100000
def intR : RowT Int := ⟨3, 90, 1, 8, fun z => [.int .i64 z], 0⟩
theorem int_facts : (Tryd.prog.info? 3).map (fun i => (i.zero.map (·.cells), i.size, i.bytes)) = some (some #[.int .i64 0], 1, 8) := by kernel_rfl
theorem int_info : ∃ i v, Tryd.prog.info? 3 = some i ∧ i.zero = some v ∧ i.size = 1 ∧ i.bytes = 8 ∧ v.cells = #[.int .i64 0] := by
  obtain ⟨i, hi, hs⟩ := Option.map_eq_some_iff.1 int_facts
  simp only [Prod.mk.injEq, Option.map_eq_some_iff] at hs
  obtain ⟨⟨v, hv, hc⟩, h1, h2⟩ := hs
  exact ⟨i, v, hi, hv, h1, h2, hc⟩
theorem intR_ok : intR.Ok where
  ht := Tryd.underlying90
  info := int_info
  len := fun x => rfl
  one := fun x v hv => by
    rw [List.mem_singleton.1 hv]
    rfl
  pos := by decide
  bys := by decide
theorem wpList_appG {ops : Array Oper} {rest : List Oper} {o : Oper} {a : Act} {w W : World} {Q : Exit → Act → World → Prop} {v1 v2 v : Value} (t : TypeId) (hg : o.guard = none) (s x : Operand)
    (hop : o.op = Op.call { callee := Callee.builtin Builtin.append, args := #[s, x], argTypes := #[t, t] }) (hty : o.type = t) (hs : a.eval s = v1) (hx : a.eval x = v2)
    (hrun : (Builtin.append_ #[t, t] t #[v1, v2]).run Tryd.prog w = .ok v W) (hK : wpList Tryd.prog ops Q rest (a.put o.dst v) W) : wpList Tryd.prog ops Q (o :: rest) a w := by
  refine wpList_plain hg fun K hK' => ?_
  unfold Oper.wp
  simp [execOp, hop, resolve, invoke, builtin, hs, hx, hty, hrun, Result.andThen]
  exact hK' _ _ hK
/-- A part of a slice of bytes. -/
theorem mid_slice {w : World} {B0 m cb : Nat} {sb : Option Addr} {B : List Nat} (h : BsV w B0 (.slice sb m cb) B) (k q : Nat) (hk : k + q ≤ B.length) :
    ∃ s2 c2, (∀ W, (Instr.slice 40 (.slice sb m cb) (some (.int .i64 (k : Int))) (some (.int .i64 ((k : Int) + (q : Int)))) none).run Tryd.prog W = .ok (.slice s2 q c2) W) ∧ BsV w B0 (.slice s2 q c2) ((B.drop k).take q) := by
  have hcp : m = B.length ∧ m ≤ cb ∧ cb < 9223372036854775808 := by
    obtain ⟨s, cap, e, h1, h2, h3, h4⟩ := h
    cases e
    exact ⟨rfl, h1, h2⟩
  have hlen : ((B.drop k).take q).length = q := by rw [List.length_take, List.length_drop]; omega
  have h1 : (0 : Int) ≤ (k : Int) := by omega
  have h2 : (k : Int) ≤ (k : Int) + (q : Int) := by omega
  have h3 : (k : Int) + (q : Int) ≤ (cb : Int) := by omega
  have h5 : ((k : Int) + (q : Int)).toNat = k + q := by omega
  have h6 : (0 : Int) ≤ (k : Int) + (q : Int) := by omega
  have h7 : k + q - k = q := by omega
  cases sb with
  | none =>
    have hm : m = 0 := by
      obtain ⟨s, cap, e, g1, g2, g3, g4⟩ := h
      cases e
      rcases Nat.eq_zero_or_pos B.length with hz | hz
      · exact hz
      · obtain ⟨b, o, e1, _⟩ := g4 (by rintro rfl; cases hz)
        cases e1
    have hk0 : k = 0 := by omega
    have hq0 : q = 0 := by omega
    subst hk0 hq0
    refine ⟨none, cb, fun W => ?_, ⟨none, cb, rfl, Nat.zero_le _, hcp.2.2, by simp, fun h => absurd rfl h⟩⟩
    by_cases hc : cb = 0
    · subst hc
      go_simp
    · go_simp
  | some a =>
    by_cases hne : B = []
    · subst hne
      have hk0 : k = 0 := by simp at hk; omega
      have hq0 : q = 0 := by simp at hk; omega
      have hm : m = 0 := hcp.1
      subst hk0 hq0 hm
      refine ⟨some a, cb, fun W => ?_, ⟨some a, cb, rfl, Nat.zero_le _, hcp.2.2, by simp, fun h => absurd rfl h⟩⟩
      clear h h1 h2 h3 h5 h6 h7 hlen hk hcp
      by_cases hc : cb = 0
      · subst hc
        go_simp
      · go_simp
    · obtain ⟨b, o, rfl⟩ : ∃ b o, a = ⟨b, o, none⟩ := by
        obtain ⟨s, cap, e, g1, g2, g3, g4⟩ := h
        obtain ⟨b, o, e1, _⟩ := g4 hne
        cases e
        cases e1
        exact ⟨_, _, rfl⟩
      have hp := bsv_part k q h hk
      rw [Go.WideShapes.add_plain] at hp
      by_cases hc : cb = k
      · have hq0 : q = 0 := by omega
        subst hq0
        subst hc
        refine ⟨some ⟨b, o, none⟩, 0, fun W => ?_, ⟨_, _, rfl, Nat.zero_le _, by omega, by simp, fun h => absurd rfl h⟩⟩
        go_simp
      · refine ⟨some ⟨b, o + k, none⟩, cb - k, fun W => ?_, hp⟩
        go_simp
theorem slice_int {w : World} {T n : Nat} {L : List Int} (K : Bk w T 3 (intR.flat (L ++ List.replicate n 0)).toArray) (i : Nat) (z : Int) (h : L[i]? = some z) : w.cell? ⟨T, i, none⟩ = some (.int .i64 z) := by
  have h1 := rowr_row intR_ok K i z h 0 _ rfl
  simpa [intR] using h1
/-- What holds in each round of fed. -/
structure FedInv (w wr : World) (p : Nat) (B : List Nat) (k : Nat) (rv dv : Value) (L : List FrM) (ds : List Int) : Prop where
  feed : ∃ v1, FeedM wr p w.heap.size v1 (FZ (B.take k)).h (FZ (B.take k)).e ∧ MadeM wr w.heap.size v1 rv L
  out : L.map FrM.pr = (FZ (B.take k)).out
  bel : Below w.heap.size w wr
  row : MineR intR wr w.heap.size dv ds
  few : L.length ≤ B.length
theorem out_few (B : List Nat) : (FZ B).out.length ≤ B.length := by
  have h : ∀ (b : List Nat) (s : FS), (feedL s b).out.length ≤ s.out.length + b.length := by
    intro b
    induction b with
    | nil => intro s; exact Nat.le_refl _
    | cons x b ih =>
      intro s
      have h1 := ih (feed1 s x)
      have h2 : (feed1 s x).out.length ≤ s.out.length + 1 := by
        unfold feed1
        split
        · omega
        · unfold tell
          split
          · exact Nat.le_succ _
          · split
            · simp
            · exact Nat.le_succ _
      show (feedL (feed1 s x) b).out.length ≤ _
      rw [List.length_cons]
      omega
  have h1 := h B ⟨[], 0, []⟩
  simpa [FZ] using h1
theorem MineR.butI {w W : World} {p lo lo2 e : Nat} {v dv : Value} {h : List Nat} {ds : List Int} (hd : MineR intR w lo dv ds) (hF : FeedM w p lo2 v h e) (hb : But (fun k => k = p ∨ slb v k) w W) : MineR intR W lo dv ds := by
  rcases hd with h1 | ⟨T, cap, z, e1, h1, h2, h3, K⟩
  · exact .inl h1
  · refine .inr ⟨T, cap, z, e1, h1, h2, h3, hb.keep K (fun hc => ?_)⟩
    rcases hc with rfl | hc
    · exact absurd (K.type_eq hF.1) (by decide)
    · obtain ⟨_, _, ys, K2⟩ := hF.2.slb_lo hc
      exact absurd (K.type_eq K2) (by decide)
def FedPost (w w' : World) (B : List Nat) (r : Ending) : Prop := ∃ rv p v' L, r = .returned (.tuple #[rv, .pointer (some ⟨p, 0, none⟩), .bool true]) ∧ w.heap.size ≤ p ∧ FeedM w' p w.heap.size v' (FZ B).h (FZ B).e ∧ MadeM w' w.heap.size v' rv L ∧ L.map FrM.pr = (FZ B).out ∧ Below w.heap.size w w'
end Go.Proofs.YtfflgimbgmbpaaaDoor
