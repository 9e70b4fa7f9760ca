/-
  What is proved: for every two whole numbers the law FrameBig returns true, and its arguments read behind the call as they read before it; the two listed tables of package hash are taken to hold what the program's text lays in them, and the card ties them to it.
-/
import Derived.Test.YtanefmjjbilmiaaDoorFed
import Derived.Test.YtanefmjjbilmiaaDoorTie
import Derived.Test.YtanefmjjbilmiaaDoorCards
import Derived.Stop.Joined
namespace Go.Proofs.YtanefmjjbilmiaaDoor.frameBig
open Go.ChangeShapes Go.WideShapes Go.ChangeAt Go.RowKit
set_option linter.unusedVariables false

theorem own : ownKnob Tryd.prog.godebug = none := by kernel_rfl
theorem laidOut : laidOutB Tryd.prog = true := by kernel_rfl
theorem wf_i64 {z : Int} (h : (Lit.int .i64 z).wf = true) : -9223372036854775808 ≤ z ∧ z ≤ 9223372036854775807 := by
  simp [Lit.wf, IntKind.min, IntKind.max, IntKind.signed, IntKind.bits] at h
  omega
set_option maxRecDepth 100000
set_option linter.unusedSimpArgs false
theorem made_zeros (m : Nat) : madeCells (Value.int IntKind.u8 0).cells (m * 1) = idA (zeros m) := by
  apply Array.ext_getElem?
  intro i
  unfold madeCells zeros
  rw [Array.getElem?_map, Array.getElem?_range, Nat.mul_one, idA_opt, List.getElem?_replicate]
  by_cases h : i < m
  · rw [if_pos h, if_pos h]
    show some (#[Value.int IntKind.u8 0][i % 1]!) = some (byteV 0)
    rw [Nat.mod_one]
    rfl
  · rw [if_neg h, if_neg h]
    rfl
theorem run_makeB (w : World) (m : Nat) (hm : m ≤ 1000000) :
    (Instr.makeSlice 22 (.int .i64 (m : Int)) (.int .i64 (m : Int))).run Tryd.prog w = .ok (.slice (some ⟨w.heap.size, 0, none⟩) m m) (w.alloc (.cells (idA (zeros m)) 5)) := by
  obtain ⟨i, hi, hz, hs, hby⟩ := byte_info
  have h := run_make (P := Tryd.prog) w 22 5 i _ Tryd.underlying22 hi hz .i64 .i64 (m : Int) (m : Int) (by omega) (by omega) (by rw [hby]; show (1 : Int) * (m : Int) ≤ _; omega) (by omega)
  rw [Int.toNat_natCast, hs, made_zeros m] at h
  exact h
def blockL : List Nat := [98, 108, 111, 99, 107]
theorem block_ok : WordOk blockL := wordOk_dec _ (by decide) (by decide) (by decide)
/-- A part of a slice of bytes that is not the feed's. -/
theorem mid_sliceN {w : World} {S : Nat → Prop} {T m c : Nat} {B : List Nat} (h : BsN w S (.slice (some ⟨T, 0, none⟩) m c) B) (k q : Nat) (mn : Int) (hmn : mn = (k : Int) + (q : Int)) (hk : k + q ≤ B.length) (hkl : k < B.length) :
    (∀ W, (Instr.slice 22 (.slice (some ⟨T, 0, none⟩) m c) (some (.int .i64 (k : Int))) (some (.int .i64 mn)) none).run Tryd.prog W = .ok (.slice (some ⟨T, k, none⟩) q (c - k)) W) ∧ BsN w S (.slice (some ⟨T, k, none⟩) q (c - k)) ((B.drop k).take q) := by
  have hcp : m = B.length ∧ m ≤ c ∧ c < 9223372036854775808 := by
    obtain ⟨s, cap, e, h1, h2, h3, h4⟩ := h
    cases e
    exact ⟨rfl, h1, h2⟩
  have hr := bsn_rest k h (by omega)
  have hd : dropA ⟨T, 0, none⟩ c k = some ⟨T, k, none⟩ := by
    unfold dropA
    rw [if_neg (by omega), Go.WideShapes.add_plain, Nat.zero_add]
  rw [hd] at hr
  have hb := bsn_front q hr (by rw [List.length_drop]; omega)
  refine ⟨fun W => ?_, hb⟩
  have h1 : (0 : Int) ≤ (k : Int) := by omega
  have h2 : (k : Int) ≤ mn := by omega
  have h3 : mn ≤ (c : Int) := by omega
  have h5 : mn.toNat = k + q := by omega
  have h6 : ¬ c = k := by omega
  have h7 : k + q - k = q := by omega
  clear hb hr hd hcp h hmn hk hkl
  go_simp
theorem enc_big (n : Nat) : FZ (encL blockL (zeros n) ++ encL blockL (zeros n)) = (if n ≤ 16384 then ⟨[], 0, [(blockL, zeros n), (blockL, zeros n)]⟩ else FZ (encL blockL (zeros n) ++ encL blockL (zeros n))) := by
  by_cases h : n ≤ 16384
  · rw [if_pos h]
    have hz := zeros_lt n
    have hl : (zeros n).length ≤ 16384 := by rw [zeros_length]; exact h
    have h1 := feed_enc blockL (zeros n) [] (encL blockL (zeros n)) block_ok hl hz (encL_lt _ _ (fun x hx => (word_lt block_ok x hx).1) hz)
    have h2 := feed_enc blockL (zeros n) [(blockL, zeros n)] [] block_ok hl hz (by simp)
    rw [List.append_nil] at h2
    show feedL _ _ = _
    rw [h1]
    exact h2
  · rw [if_neg h]
/-- A head whose length is too great is told. -/
theorem big_head (m : Nat) (Z : List Nat) (hz : Z.length = 16384) (h1 : 1 ≤ m) (h2 : m ≤ 2) : (FZ (((encL blockL Z).set 16 m).take 24)).e = 2 := by
  have e1 : toL Z.length 4 = [0, 64, 0, 0] := by rw [hz]; decide
  have hsplit : ((encL blockL Z).set 16 m).take 24 = ((magL ++ (blockL ++ zeros 7) ++ [0, 64, 0, 0]).set 16 m) ++ sum4 Z := by
    have e0 : encL blockL Z = (magL ++ (blockL ++ zeros 7) ++ [0, 64, 0, 0]) ++ (sum4 Z ++ Z) := by
      unfold encL
      rw [e1]
      simp only [List.append_assoc]
      rfl
    have hS4 := sum4_length Z
    rw [e0]
    generalize sum4 Z = S at *
    have e2 : (magL ++ (blockL ++ zeros 7) ++ [0, 64, 0, 0]).length = 20 := by decide
    generalize (magL ++ (blockL ++ zeros 7) ++ [0, 64, 0, 0]) = P at *
    rw [List.set_append_left _ _ (by omega), List.take_append, List.take_of_length_le (by rw [List.length_set]; omega), List.length_set, e2, List.take_left' hS4]
  rw [hsplit]
  have hs4 := sum4_length Z
  have hsx := sum4_lt Z
  generalize sum4 Z = S at *
  clear hsplit e1
  have hm : m = 1 ∨ m = 2 := by omega
  have key : ∀ P : List Nat, P.length = 20 → (∀ x ∈ P, x < 256) → P.take 4 = magL → headE P = 2 → (FZ (P ++ S)).e = 2 := by
    intro P hP hPx hP4 hPh
    have hlen : (P ++ S).length = 24 := by rw [List.length_append]; omega
    have hh : headE (P ++ S) = 2 := by
      have h := headE_take (P ++ S) 20 (by omega)
      rw [List.take_left' hP] at h
      rw [← h, hPh]
    have h := deco_bad (P ++ S) [] (by omega) (fun x hx => by
      rcases List.mem_append.1 hx with h | h
      · exact hPx x h
      · exact hsx x h) (by rw [List.take_append_of_le_length (by omega)]; exact hP4) (by rw [hh]; decide)
    show (feedL _ _).e = 2
    rw [h]
    exact hh
  rcases hm with rfl | rfl
  · exact key _ (by decide) (by decide) (by decide) (by decide)
  · exact key _ (by decide) (by decide) (by decide) (by decide)
theorem enc16 (Z : List Nat) (hz : Z.length = 16384) : nth (encL blockL Z) 16 = 0 := by
  have e1 : toL Z.length 4 = [0, 64, 0, 0] := by rw [hz]; decide
  unfold encL
  rw [e1]
  generalize sum4 Z = S
  have e0 : magL ++ (blockL ++ zeros (12 - blockL.length)) ++ [0, 64, 0, 0] ++ S ++ Z = (magL ++ (blockL ++ zeros 7) ++ [0, 64, 0, 0]) ++ (S ++ Z) := by simp only [List.append_assoc]; rfl
  rw [e0]
  unfold nth
  rw [List.getD_eq_getElem?_getD, List.getElem?_append_left (by decide)]
  rfl
theorem mineBsn {W : World} {lo : Nat} {S : Nat → Prop} {v : Value} {xs : List Nat} (h : Mine W lo v xs) (hS : ∀ k, slb v k → ¬ S k) (hx : ∀ x ∈ xs, x < 256) : BsN W S v xs := by
  rcases h with ⟨rfl, rfl⟩ | ⟨T, cap, z, rfl, hc, hc2, hT, K⟩
  · exact ⟨none, 0, rfl, Nat.le_refl _, by omega, by simp, fun h => absurd rfl h⟩
  · have h1 := bsn_row (S := S) (n := cap) (cap := cap) K (hS T ⟨_, _, _, rfl, rfl⟩) (by rw [List.length_append, zeros_length]; exact hc) (Nat.le_refl _) hc2 (fun y hy => by
      rcases List.mem_append.1 hy with h | h
      · exact hx y h
      · exact zeros_lt _ y h)
    have h2 := bsn_front xs.length h1 (by rw [List.length_append]; omega)
    rw [List.take_left' rfl] at h2
    exact h2
theorem wpList_appH {ops : Array Oper} {rest : List Oper} {o : Oper} {a : Act} {w W : World} {Q : Exit → Act → World → Prop} {v1 v2 v : Value} (t : TypeId) (hg : o.guard = none) (s x : Operand)
    (hop : o.op = Op.call { callee := Callee.builtin Builtin.append, args := #[s, x], argTypes := #[t, t] }) (hty : o.type = t) (hs : a.eval s = v1) (hx : a.eval x = v2)
    (hrun : (Builtin.append_ #[t, t] t #[v1, v2]).run Tryd.prog w = .ok v W) (hK : wpList Tryd.prog ops Q rest (a.put o.dst v) W) : wpList Tryd.prog ops Q (o :: rest) a w := wpList_appG t hg s x hop hty hs hx hrun hK
structure BigInv (w wr : World) (p : Nat) (B : List Nat) (vB : Value) (a : Nat) (v1 : Value) : Prop where
  feed : FeedM wr p w.heap.size v1 (FZ (B.take a)).h (FZ (B.take a)).e
  row : BsN wr (fun k => k = p ∨ slb v1 k) vB B
  bel : Below w.heap.size w wr
set_option maxHeartbeats 16000000 in
theorem walk (more piece : Int) (w : World) (hL : Laid w) (hm : -9223372036854775808 ≤ more ∧ more ≤ 9223372036854775807) (hp : -9223372036854775808 ≤ piece ∧ piece ≤ 9223372036854775807) :
    Calls Tryd.prog 8 #[.int .i64 more, .int .i64 piece] w fun e w' => e = .returned (.bool true) ∧ Below w.heap.size w w' := by
  have HFR := Lib.hid (frames_any w hL)
  have HL := Lib.hid hL
  have hu : strN blockL = ⟨#[98, 108, 111, 99, 107]⟩ := by decide +kernel
  have HEN : Hid (∀ W s n c m, Below w.heap.size w W → m ≤ 20000 → n = m → BsV W W.heap.size (.slice s n c) (zeros m) → Calls Tryd.prog 17 #[.agg #[.string ⟨#[98, 108, 111, 99, 107]⟩, .slice s n c]] W fun r w' => EncPost W w' blockL (zeros m) r) := fun W s n c m hb hm hn hs => by
    have h := fencode_any blockL (zeros m) s n c W (hL.below hb hL.size) (fun x hx => (word_lt block_ok x hx).1) hs (by rw [zeros_length]; omega)
    rw [hu] at h
    exact h
  clear hu hL
  go_enter Tryd.func8, Tryd.ntmps8
  go_wp2_with fail
  refine HFR.out.mono ?_
  rintro e w1 ⟨rfl, hb1⟩
  have HW1 := Lib.hid hb1
  clear hb1 HFR
  by_cases h1 : more < -2
  · have q1 : decide (more < -2) = true := decide_eq_true h1
    clear hm hp
    go_wp2_with fail
    go_ret
    exact ⟨rfl, HW1.out⟩
  have q1 : decide (more < -2) = false := decide_eq_false h1
  by_cases h2 : 2 < more
  · have q2 : decide (2 < more) = true := decide_eq_true h2
    clear hm hp
    go_wp2_with fail
    go_ret
    exact ⟨rfl, HW1.out⟩
  have q2 : decide (2 < more) = false := decide_eq_false h2
  by_cases h3 : piece < 100
  · have q3 : decide (piece < 100) = true := decide_eq_true h3
    clear hm hp
    go_wp2_with fail
    go_ret
    exact ⟨rfl, HW1.out⟩
  have q3 : decide (piece < 100) = false := decide_eq_false h3
  by_cases h4 : 1048576 < piece
  · have q4 : decide (1048576 < piece) = true := decide_eq_true h4
    clear hm hp
    go_wp2_with fail
    go_ret
    exact ⟨rfl, HW1.out⟩
  have q4 : decide (1048576 < piece) = false := decide_eq_false h4
  obtain ⟨n, hn⟩ : ∃ n : Nat, n = (16384 + more).toNat := ⟨_, rfl⟩
  have hn1 : IntKind.i64.wrap (16384 + more) = (n : Int) := by
    simp [IntKind.wrap, IntKind.signed, IntKind.bits]
    omega
  have HNM : Hid ((n : Int) = 16384 + more ∧ n ≤ 16386) := ⟨by omega, by omega⟩
  have HPC : Hid (100 ≤ piece ∧ piece ≤ 1048576) := ⟨by omega, by omega⟩
  have HMO : Hid (-2 ≤ more ∧ more ≤ 2) := ⟨by omega, by omega⟩
  have hmk := run_makeB w1 n (by omega)
  have hA : Below w1.heap.size w1 (w1.alloc (.cells (idA (zeros n)) 5)) := (Below.refl _ _).alloc (Nat.le_refl _) _
  clear hn hm hp h1 h2 h3 h4
  go_upto_region 6 with (refine wpList_mkI (v1 := .int .i64 (n : Int)) (v2 := .int .i64 (n : Int)) (v := .slice (some ⟨w1.heap.size, 0, none⟩) n n) 22 rfl (.tmp 31) (.tmp 31) rfl rfl rfl hmk ?_)
  refine wp_any (fun W => Below w.heap.size w W ∧ Bk W w1.heap.size 5 (idA (zeros n))) ⟨below_step HW1.out HW1.out.size hA, Bk.new _ _ _⟩ ?_
  generalize w1.heap.size = g at *
  clear hA hmk hn1 HW1
  rintro W2 ⟨hW2, KD⟩
  have HW2 := Lib.hid hW2
  have HKD := Lib.hid KD
  have HE1 := Lib.hid (HEN.out W2 (some ⟨g, 0, none⟩) n n n hW2 (by have := HNM.out.2; omega) rfl (by
    have h := bs_row (ys := zeros n) KD (n := n) (cap := n) (by rw [zeros_length]; exact Nat.le_refl _) (Nat.le_refl _) (by have := HNM.out.2; omega) (zeros_lt n)
    rw [List.take_of_length_le (by rw [zeros_length]; exact Nat.le_refl _)] at h
    exact h))
  clear hW2 KD
  go_wp2_with fail
  refine HE1.out.mono ?_
  rintro r w3 ⟨v3, rfl, hb3, hM3, hN3⟩
  have HW3 := Lib.hid (below_step HW2.out HW2.out.size hb3)
  have HKD3 := Lib.hid (HKD.out.keep hb3)
  clear hb3 HE1 HKD
  by_cases hmo : 0 < more
  · have q5 : decide (0 < more) = true := decide_eq_true hmo
    have he : encE blockL (zeros n) = 2 := by
      unfold encE
      rw [if_neg (by rw [wordE_ok block_ok]; simp), if_pos (by rw [zeros_length]; have := HNM.out.1; omega)]
    have hv3 := hN3 (by rw [he]; decide)
    subst hv3
    rw [he]
    clear hM3 hN3 he HW2
    obtain ⟨mo, hmo2⟩ : ∃ mo : Nat, mo = more.toNat := ⟨_, rfl⟩
    have hw1 : IntKind.u8.wrap more = (mo : Int) := by
      have := HMO.out
      simp [IntKind.wrap, IntKind.signed, IntKind.bits]
      omega
    have hw2 : IntKind.u8.wrap (mo : Int) = (mo : Int) := by
      have := HMO.out
      simp [IntKind.wrap, IntKind.signed, IntKind.bits]
      omega
    have HMOO : Hid (1 ≤ mo ∧ mo ≤ 2) := by
      have := HMO.out
      exact ⟨by omega, by omega⟩
    have hnk : 16384 ≤ n := by have := HNM.out.1; omega
    obtain ⟨kk, hkk⟩ : ∃ kk : Nat, kk = 16384 := ⟨_, rfl⟩
    have HKK := Lib.hid hkk
    have HNK : Hid (kk ≤ n) := by show _ ≤ _; rw [hkk]; exact hnk
    clear hmo hmo2 hnk
    go_upto_region 9 with fail
    have hA : Below w3.heap.size w3 (w3.alloc (.cells #[.slice none 0 0, .int .i64 0] 36)) := (Below.refl _ _).alloc (Nat.le_refl _) _
    refine wp_any (fun W => Below w.heap.size w W ∧ Bk W w3.heap.size 36 #[.slice none 0 0, .int .i64 0] ∧ Bk W g 5 (idA (zeros n))) ⟨below_step HW3.out HW3.out.size hA, Bk.new _ _ _, HKD3.out.keep hA⟩ ?_
    obtain ⟨p, hp⟩ : ∃ p, p = w3.heap.size := ⟨_, rfl⟩
    have HP : Hid (w.heap.size ≤ p) := by show _ ≤ _; rw [hp]; exact HW3.out.size
    rw [← hp]
    clear hA hp HW3 HKD3
    rintro W4 ⟨hW4, KP, KD⟩
    have HW4 := Lib.hid hW4
    have HKP := Lib.hid KP
    have hsl : ∀ W, (Instr.slice 22 (.slice (some ⟨g, 0, none⟩) n n) none (some (.int .i64 16384)) none).run Tryd.prog W = .ok (.slice (some ⟨g, 0, none⟩) kk n) W := fun W => by
      have h := slice_front g 0 n n kk HNK.out W
      rw [HKK.out] at h ⊢
      exact h
    have HE2 := Lib.hid (HEN.out W4 (some ⟨g, 0, none⟩) kk n kk hW4 (by have := HKK.out; omega) rfl (by
      have h := bs_row (ys := zeros n) KD (n := kk) (cap := n) (by rw [zeros_length]; exact HNK.out) HNK.out (by have := HNM.out.2; omega) (zeros_lt n)
      have e : (zeros n).take kk = zeros kk := by unfold zeros; rw [List.take_replicate, Nat.min_eq_left HNK.out]
      rw [e] at h
      exact h))
    clear hW4 KP KD HEN hkk
    go_wp2_with fail
    refine HE2.out.mono ?_
    rintro r w5 ⟨v5, rfl, hb5, hM5, _⟩
    have he0 : encE blockL (zeros kk) = 0 := encE_of block_ok (by rw [zeros_length, HKK.out]; exact Nat.le_refl _)
    have hM5 := hM5 he0
    rw [he0]
    have hle : (encL blockL (zeros kk)).length = 16408 := by rw [encL_len _ _ (by decide), zeros_length, HKK.out]
    have h16 : nth (encL blockL (zeros kk)) 16 = 0 := enc16 (zeros kk) (by rw [zeros_length, HKK.out])
    have hbig : (FZ (((encL blockL (zeros kk)).set 16 mo).take 24)).e = 2 := big_head mo (zeros kk) (by rw [zeros_length, HKK.out]) HMOO.out.1 HMOO.out.2
    have hex : ∀ x ∈ encL blockL (zeros kk), x < 256 := encL_lt _ _ (fun x hx => (word_lt block_ok x hx).1) (zeros_lt kk)
    obtain ⟨E, hE⟩ : ∃ E, E = encL blockL (zeros kk) := ⟨_, rfl⟩
    rw [← hE] at hM5 hle h16 hbig hex
    obtain ⟨T, cap, z, rfl, hcz, hcm, hTlo, KT⟩ : ∃ T cap z, v5 = .slice (some ⟨T, 0, none⟩) E.length cap ∧ cap = E.length + z ∧ cap < 9223372036854775808 ∧ W4.heap.size ≤ T ∧ Bk w5 T 5 (idA (E ++ zeros z)) := by
      rcases hM5 with ⟨_, h⟩ | h
      · rw [h] at hle; cases hle
      · exact h
    have HW5 := Lib.hid (below_step HW4.out HW4.out.size hb5)
    have HKP5 := Lib.hid (HKP.out.keep hb5)
    have HTP : Hid (w.heap.size ≤ T ∧ T ≠ p) := ⟨Nat.le_trans HW4.out.size hTlo, fun h => by subst h; have := HKP.out.lt; omega⟩
    have c16 : w5.cell? ⟨T, 16, none⟩ = some (.int .u8 0) := by
      rw [KT.cell, idA_opt, List.getElem?_append_left (by omega)]
      have : E[16]? = some (nth E 16) := by unfold nth; rw [List.getD_eq_getElem?_getD, List.getElem?_eq_getElem (by omega)]; rfl
      rw [this, h16]
      rfl
    have f16 := KT.frozen 16
    have zT := KT.lt
    have HKT := Lib.hid KT
    have HLE := Lib.hid hle
    have HCZ := Lib.hid hcz
    have HCM := Lib.hid hcm
    have HEX := Lib.hid hex
    have HBG := Lib.hid hbig
    obtain ⟨nE, hnE⟩ : ∃ nE, nE = E.length := ⟨_, rfl⟩
    rw [← hnE]
    have q6 : decide ((nE : Int) < 24) = false := decide_eq_false (by omega)
    have q6n : decide (nE < 24) = false := decide_eq_false (by omega)
    have q7 : (16 : Int) < (nE : Int) := by omega
    have q8 : 16 < nE := by omega
    have hsl24 : ∀ W, (Instr.slice 22 (.slice (some ⟨T, 0, none⟩) nE cap) none (some (.int .i64 24)) none).run Tryd.prog W = .ok (.slice (some ⟨T, 0, none⟩) 24 cap) W := slice_front T 0 nE cap 24 (by omega)
    clear hb5 hM5 he0 hle h16 hbig hex hE hcz hcm hTlo KT hnE HE2 HW4 HKP hsl HKK HNK HNM
    go_upto_region 13 with fail
    have hbt : But (fun k => k = T) w5 (w5.setCell ⟨T, 16, none⟩ (.int .u8 (mo : Int))) := But.set_ (But.refl (fun k => k = T) w5) (.inl rfl) 16 none _
    have hbl : Below w.heap.size w (w5.setCell ⟨T, 16, none⟩ (.int .u8 (mo : Int))) := HW5.out.setCell HTP.out.1 _
    have hKT6 : Bk (w5.setCell ⟨T, 16, none⟩ (.int .u8 (mo : Int))) T 5 (idA ((E ++ zeros z).set 16 mo)) := by
      have h := HKT.out.set_ 16 (.int .u8 (mo : Int))
      rw [idA_set] at h
      exact h
    refine wp_any (fun W => Below w.heap.size w W ∧ Bk W p 36 #[.slice none 0 0, .int .i64 0] ∧ Bk W T 5 (idA ((E ++ zeros z).set 16 mo))) ⟨hbl, hbt.keep HKP5.out (fun h => HTP.out.2 h.symm), hKT6⟩ ?_
    clear hbt hbl hKT6 HKT c16 f16 zT HW5 HKP5
    rintro W6 ⟨hW6, KP6, KT6⟩
    have HW6 := Lib.hid hW6
    have hyl : ((E ++ zeros z).set 16 mo).length = cap := by rw [List.length_set, List.length_append, zeros_length]; exact HCZ.out.symm
    have hyx : ∀ y ∈ (E ++ zeros z).set 16 mo, y < 256 := fun y hy => by
      rcases List.mem_or_eq_of_mem_set hy with h | h
      · rcases List.mem_append.1 h with h | h
        · exact HEX.out y h
        · exact zeros_lt _ y h
      · have := HMOO.out; omega
    have htk : ((E ++ zeros z).set 16 mo).take 24 = (E.set 16 mo).take 24 := by
      rw [List.set_append_left _ _ (by have := HLE.out; omega), List.take_append_of_le_length (by rw [List.length_set]; have := HLE.out; omega)]
    have hbn : BsN W6 (fun k => k = p ∨ slb (.slice none 0 0) k) (.slice (some ⟨T, 0, none⟩) 24 cap) ((E.set 16 mo).take 24) := by
      have h := bsn_row (S := fun k => k = p ∨ slb (.slice none 0 0) k) (n := cap) (cap := cap) KT6 (fun h => by
        rcases h with h | h
        · exact HTP.out.2 h
        · exact slb_none _ _ _ h) hyl.symm (Nat.le_refl _) HCM.out hyx
      have h2 := bsn_front 24 h (by rw [hyl]; have := HCZ.out; have := HLE.out; omega)
      rw [htk] at h2
      exact h2
    have HC := Lib.hid (fadd_on p w.heap.size 24 cap (some ⟨T, 0, none⟩) (.slice none 0 0) [] ((E.set 16 mo).take 24) W6 (HL.out.below hW6 HL.out.size) HL.out.size HP.out hW6.size (new_feed KP6 _) (by simp) hbn (by rw [List.length_take]; omega))
    clear hW6 KP6 KT6 hyl hyx htk hbn
    go_wp2_with fail
    refine HC.out.mono ?_
    rintro r w7 ⟨rv, v7, L7, rfl, hF7, hM7, ho7, hb7, hs7, hl7⟩
    rw [List.nil_append, HBG.out] at hF7
    have HER := Lib.hid (ferr_any p _ _ _ _ w7 hF7)
    have HW7 := Lib.hid (HW6.out.trans hl7)
    clear hF7 hM7 ho7 hb7 hs7 hl7 HC HW6
    go_wp2_with fail
    refine HER.out.mono ?_
    rintro r w8 ⟨rfl, rfl⟩
    go_wp2_with fail
    go_ret
    exact ⟨rfl, HW7.out⟩
  · have q5 : decide (0 < more) = false := decide_eq_false hmo
    have hn16 : n ≤ 16384 := by have := HNM.out.1; omega
    have he : encE blockL (zeros n) = 0 := encE_of block_ok (by rw [zeros_length]; exact hn16)
    have hM := hM3 he
    rw [he]
    have hle : (encL blockL (zeros n)).length = 24 + n := by rw [encL_len _ _ (by decide), zeros_length]
    have hex : ∀ x ∈ encL blockL (zeros n), x < 256 := encL_lt _ _ (fun x hx => (word_lt block_ok x hx).1) (zeros_lt n)
    have hfz := enc_big n
    rw [if_pos hn16] at hfz
    obtain ⟨pn, rfl⟩ : ∃ pn : Nat, piece = (pn : Int) := ⟨piece.toNat, by have := HPC.out; omega⟩
    obtain ⟨E, hE⟩ : ∃ E, E = encL blockL (zeros n) := ⟨_, rfl⟩
    rw [← hE] at hM hle hex hfz
    obtain ⟨s3, c3, rfl⟩ := hM.slice
    have HME := Lib.hid hM
    have HFZ : Hid ((FZ (E ++ E)).h = [] ∧ (FZ (E ++ E)).e = 0 ∧ (FZ (E ++ E)).out.length = 2) := by
      rw [hfz]
      exact ⟨rfl, rfl, rfl⟩
    have HN16 := Lib.hid hn16
    have HLE := Lib.hid hle
    have HEX := Lib.hid hex
    have HPN : Hid (100 ≤ pn ∧ pn ≤ 1048576) := by
      have := HPC.out
      exact ⟨by omega, by omega⟩
    obtain ⟨nE, hnE⟩ : ∃ nE, nE = E.length := ⟨_, rfl⟩
    rw [← hnE] at HME ⊢
    have HNE := Lib.hid hnE
    clear hmo hM3 hN3 hn16 he hM hle hex hfz hE hnE HEN HNM HPC HMO HKD3 HW2
    go_upto_region 16 with fail
    have hA : Below w3.heap.size w3 (w3.alloc (.cells #[.slice none 0 0, .int .i64 0] 36)) := (Below.refl _ _).alloc (Nat.le_refl _) _
    refine wp_any (fun W => Below w.heap.size w W ∧ Bk W w3.heap.size 36 #[.slice none 0 0, .int .i64 0] ∧ Mine W 0 (.slice s3 nE c3) E) ⟨below_step HW3.out HW3.out.size hA, Bk.new _ _ _, (HME.out.keep hA).mono (Nat.zero_le _)⟩ ?_
    obtain ⟨p, hp⟩ : ∃ p, p = w3.heap.size := ⟨_, rfl⟩
    have HP : Hid (w.heap.size ≤ p) := by show _ ≤ _; rw [hp]; exact HW3.out.size
    rw [← hp]
    clear hA hp HW3 HME
    rintro W4 ⟨hW4, KP, hM4⟩
    have HW4 := Lib.hid hW4
    have hA1 : Below W4.heap.size W4 (W4.alloc (.cells #[] 5)) := (Below.refl _ _).alloc (Nat.le_refl _) _
    have hm1 : Mine (W4.alloc (.cells #[] 5)) w.heap.size (.slice (some ⟨W4.heap.size, 0, none⟩) 0 0) [] := .inr ⟨W4.heap.size, 0, 0, rfl, rfl, by omega, hW4.size, Bk.new W4 5 #[]⟩
    have hlE : E.length ≤ 16408 := by have := HLE.out; have := HN16.out; omega
    obtain ⟨v5, W5, hr1, hM5, hB5, hs5⟩ := app3 [] E (.slice (some ⟨W4.heap.size, 0, none⟩) 0 0) (.slice s3 nE c3) w.heap.size (W4.alloc (.cells #[] 5)) hm1 (Nat.le_trans hW4.size hA1.size) ((hM4.keep hA1).bs HEX.out) (by simp; omega)
    rw [List.nil_append] at hM5
    have hge : ∀ k, slb (.slice (some ⟨W4.heap.size, 0, none⟩) 0 0) k → W4.heap.size ≤ k := fun k hk => by rw [slb_some hk]; exact Nat.le_refl _
    have hM45 : Mine W5 0 (.slice s3 nE c3) E := (hM4.keep hA1).but hB5 (fun k hk hs => by
      have h1 := hge k hs
      have h2 := (hM4.slb_lo hk).2.1
      omega)
    have hKP5 : Bk W5 p 36 #[.slice none 0 0, .int .i64 0] := hB5.keep (KP.keep hA1) (fun hs => by have h1 := hge p hs; have := KP.lt; omega)
    have hW5 : Below w.heap.size w W5 := (hW4.trans (hA1.mono hW4.size)).trans (hB5.below (Nat.le_trans hW4.size hA1.size) (fun k hk => Nat.le_trans hW4.size (hge k hk)))
    obtain ⟨v6, W6, hr2, hM6, hB6, hs6⟩ := app3 E E v5 (.slice s3 nE c3) w.heap.size W5 hM5 hW5.size (hM45.bs HEX.out) (by omega)
    have hKP6 : Bk W6 p 36 #[.slice none 0 0, .int .i64 0] := hB6.keep hKP5 (fun hs => hM5.apart hKP5 (by decide) hs)
    have hW6 : Below w.heap.size w W6 := hW5.trans (hB6.below hW5.size (fun k hk => (hM5.slb_lo hk).1))
    have hbx : ∀ x ∈ E ++ E, x < 256 := fun x hx => by
      rcases List.mem_append.1 hx with h | h <;> exact HEX.out x h
    have hBN : BsN W6 (fun k => k = p ∨ slb (.slice none 0 0) k) v6 (E ++ E) := mineBsn hM6 (fun k hk hs => by
      rcases hs with rfl | hs
      · exact hM6.apart hKP6 (by decide) hk
      · exact slb_none _ _ _ hs) hbx
    obtain ⟨TB, cB, rfl⟩ : ∃ T c, v6 = .slice (some ⟨T, 0, none⟩) (E ++ E).length c := by
      rcases hM6 with ⟨_, h⟩ | ⟨T, cap, z, h, _⟩
      · have := congrArg List.length h
        rw [List.length_append, List.length_nil] at this
        have := HLE.out
        omega
      · exact ⟨_, _, h⟩
    obtain ⟨s5, c5, rfl⟩ := hM5.slice
    have hlB : (E ++ E).length = 48 + 2 * n := by rw [List.length_append]; have := HLE.out; omega
    obtain ⟨B, hB⟩ : ∃ B, B = E ++ E := ⟨_, rfl⟩
    rw [← hB] at hBN hr2 hlB HFZ hbx
    obtain ⟨m, hm⟩ : ∃ m, m = B.length := ⟨_, rfl⟩
    rw [← hm] at hBN hr2
    rw [← HNE.out] at hr2 hr1
    have HM : Hid (m = B.length ∧ m ≤ 40000) := ⟨hm, by have := HN16.out; omega⟩
    have HBX := Lib.hid hbx
    have HSTART : Hid (BigInv w W6 p B (.slice (some ⟨TB, 0, none⟩) m cB) 0 (.slice none 0 0)) := ⟨new_feed hKP6 _, hBN, hW6⟩
    clear hA1 hm1 hlE hM5 hB5 hs5 hge hM45 hKP5 hW5 hM6 hB6 hs6 hKP6 hW6 hBN hlB hm hW4 KP hM4 hB HW4 hbx
    go_upto_region 18 with (first | (refine wpList_appH (v1 := .slice (some ⟨W4.heap.size, 0, none⟩) 0 0) (v2 := .slice s3 nE c3) 22 rfl (.tmp 72) (.tmp 73) rfl rfl rfl rfl hr1 ?_) | (refine wpList_appH (v1 := .slice s5 nE c5) (v2 := .slice s3 nE c3) 22 rfl (.tmp 74) (.tmp 75) rfl rfl rfl rfl hr2 ?_))
    clear hr1 hr2
    go_wp2_with fail
    go_loopw [12, 13] (fun cv av wr => ∃ (a cn : Nat) (v1 : Value), a ≤ 2000000 ∧ av = .int .i64 (a : Int) ∧ cv = .int .i64 (cn : Int) ∧ Hid (cn = (FZ (B.take a)).out.length) ∧ Hid (BigInv w wr p B (.slice (some ⟨TB, 0, none⟩) m cB) a v1)) (fun _ av _ => m - (intOf av).toNat)
    case atStart => exact ⟨0, 0, _, Nat.zero_le _, rfl, rfl, rfl, HSTART.out⟩
    case round =>
      obtain ⟨a, cn, v1, ha, rfl, rfl, HCN, HI⟩ := hrel
      clear HSTART
      by_cases hlt : a < m
      · have j1 : decide ((a : Int) < (m : Int)) = true := decide_eq_true (by omega)
        have j2 : decide (a < m) = true := decide_eq_true hlt
        obtain ⟨sm, hsm⟩ : ∃ sm, sm = a + pn := ⟨_, rfl⟩
        have hadd : IntKind.i64.wrap ((a : Int) + (pn : Int)) = (sm : Int) := by
          have := HPN.out
          simp [IntKind.wrap, IntKind.signed, IntKind.bits]
          omega
        obtain ⟨q, hq⟩ : ∃ q, q = min pn (m - a) := ⟨_, rfl⟩
        obtain ⟨mn, hmn⟩ : ∃ mn : Int, mn = (a : Int) + (q : Int) := ⟨_, rfl⟩
        have hmin : (if m < sm then (m : Int) else (sm : Int)) = mn := by split <;> omega
        have hbl := HM.out
        have hms := mid_sliceN HI.out.row a q mn hmn (by omega) (by omega)
        have hsl := hms.1
        have hown : ∀ t, slb v1 t → w.heap.size ≤ t := fun t ht => (HI.out.feed.2.slb_lo ht).1
        have HAD := Lib.hid (fadd_on p w.heap.size q (cB - a) (some ⟨TB, a, none⟩) v1 (B.take a) ((B.drop a).take q) wr (HL.out.below HI.out.bel HL.out.size) HL.out.size HP.out HI.out.bel.size HI.out.feed (fun x h => HBX.out x (List.mem_of_mem_take h)) hms.2 (by rw [List.length_take, List.length_drop]; omega))
        have htk : B.take a ++ (B.drop a).take q = B.take sm := by
          rw [take_two]
          by_cases h : sm ≤ m
          · congr 1; omega
          · rw [List.take_of_length_le (by omega), List.take_of_length_le (by omega)]
        rw [htk] at HAD
        have HSM : Hid (a < sm ∧ sm ≤ 2000000 ∧ sm = a + pn) := ⟨by have := HPN.out; omega, by have := HPN.out; omega, hsm⟩
        have HLT := Lib.hid hlt
        have hcb : cn ≤ 40000 := by
          rw [HCN.out]
          have h1 := out_few (B.take a)
          rw [List.length_take] at h1
          omega
        clear hsm hq hmn hms hown htk hlt ha hbl
        go_wp2_with fail
        refine HAD.out.mono ?_
        rintro r' w5 ⟨rv, v7, L5, rfl, hF7, hM7, ho7, hb7, hs7, hl7⟩
        have HI7 : Hid (BigInv w w5 p B (.slice (some ⟨TB, 0, none⟩) m cB) sm v7) := ⟨hF7, HI.out.row.next hb7 (fun k hk => by
          rcases hk with rfl | hk
          · exact .inl (.inl rfl)
          · exact (hs7 k hk).imp .inr id), HI.out.bel.trans hl7⟩
        obtain ⟨sr, cr, rfl⟩ := hM7.1.slice
        obtain ⟨n5, hn5⟩ : ∃ n5, n5 = L5.length := ⟨_, rfl⟩
        rw [← hn5]
        have HC2 : Hid (cn + n5 = (FZ (B.take sm)).out.length) := by
          have h := congrArg List.length ho7
          rw [List.length_append, List.length_map] at h
          show _ = _
          rw [HCN.out, hn5]
          exact h
        have hcw : IntKind.i64.wrap ((cn : Int) + (n5 : Int)) = ((cn + n5 : Nat) : Int) := by
          have h1 := out_few (B.take sm)
          rw [List.length_take] at h1
          have := HC2.out
          have := HM.out
          simp [IntKind.wrap, IntKind.signed, IntKind.bits]
          omega
        clear hF7 hM7 ho7 hb7 hs7 hl7 hn5 HAD HI hsl hmin
        go_wp2_with fail
        go_roundw
        case rel => exact ⟨sm, cn + n5, v7, HSM.out.2.1, by first | rfl | (push_cast; rfl), by first | rfl | (push_cast; rfl), HC2.out, HI7.out⟩
        case measure => have := HSM.out; have := HLT.out; simp [intOf]; omega
      · have j1 : decide ((a : Int) < (m : Int)) = false := decide_eq_false (by omega)
        have j2 : decide (a < m) = false := decide_eq_false hlt
        have htk : B.take a = B := List.take_of_length_le (by have := HM.out.1; omega)
        have hF := HI.out.feed
        have hc := HCN.out
        rw [htk] at hF hc
        rw [HFZ.out.2.2] at hc
        rw [HFZ.out.1, HFZ.out.2.1] at hF
        subst hc
        obtain ⟨s9, c9, rfl⟩ := hF.2.slice
        have HER := Lib.hid (ferr_any p _ _ _ _ wr hF)
        have HHE := Lib.hid (fheld_any p _ _ _ _ _ _ wr hF)
        have HE := Lib.hid HI.out.bel
        clear hlt htk hF ha HI HCN
        go_wp2_with fail
        refine HHE.out.mono ?_
        rintro r w7 ⟨rfl, rfl⟩
        clear HHE
        go_wp2_with fail
        refine HER.out.mono ?_
        rintro r w8 ⟨rfl, rfl⟩
        go_wp2_with fail
        go_ret
        exact ⟨rfl, HE.out⟩

/-- The door's own heap meets the condition. -/
theorem door_met (os : Os) (args : Array Value) : laidMetH Tryd.prog laidL ((World.doorLaid Tryd.prog 19 os).forCall (fun _ _ => 0) ⟨#[], args, []⟩).memory :=
  laidMetH_of_parts3 (fuel := 8) (laidMet_of_run' 8 (by kernel_rfl) (by kernel_rfl)) (by kernel_rfl) (by kernel_rfl)

set_option maxRecDepth 100000 in
theorem lifted (os : Os) (started : os.Started) (H : Type) (enc : TypeId × Value → H) :
    ReturnsInHanded {} Tryd.checked os 8 .any (fun w args => (Rows.frameBigSpec.pre enc Tryd.prog Tryd.f8 [] false w args ∧ laidMetH Tryd.prog laidL w) ∧ sizedMet enc Tryd.prog Tryd.f8 (OpenSpec.ofChange Rows.frameBigSpec) false w args)
      (Rows.frameBigSpec.post enc Tryd.prog Tryd.f8 false true false false) := by
  refine returnsInHanded_of_change_and (C := Tryd.checked) (X := fun w _ => laidMetH Tryd.prog laidL w) (fun _ _ _ hh h => h.of_heap hh) own started (by kernel_rfl) Tryd.func8
    (ChangeSpec.witness_shaped (enc := enc) (C := Tryd.checked) (os := os) (X := fun w _ => laidMetH Tryd.prog laidL w) false (World.doorLaid Tryd.prog 19 os) #[.int .i64 0, .int .i64 0] 8 rfl (World.shaped_of_RefB (by kernel_rfl) (by kernel_rfl)) (by kernel_rfl) (by kernel_rfl) (by kernel_rfl) (door_met os _)) ?_
  intro W base args ds gs before hval0 hW _ _ hL _
  have hval : ∀ (j : Nat) t v, Tryd.f8.params[j]? = some t → args[j]? = some v → Value.okWide Tryd.prog W .any base t v := hval0
  have hW' := hW
  obtain ⟨p, q, hA0, hV, rfl, hfz, hnd⟩ := hW
  have hA : DataW.TrodAll enc Tryd.prog W 0 (fun _ => true) true Tryd.f8.params.toList args.toList ds p := hA0
  rw [Tryd.params8] at hA hval
  obtain ⟨v0, vs0, d0, ds0, p0, q0, hargs, rfl, rfl, h0, r0⟩ := trodAll_cons hA
  obtain ⟨v1, vs1, d1, ds1, p1, q1, rfl, rfl, rfl, h1, r1⟩ := trodAll_cons r0
  obtain ⟨rfl, rfl, rfl⟩ := trodAll_nil r1
  obtain rfl : args = #[v0, v1] := by cases args; simp_all
  obtain ⟨rfl, rfl⟩ := trodVars_none hV
  have lt0 : ∀ x ∈ p0, x.block < W.heap.size := by obtain ⟨m, hm⟩ := h0; exact DataW.trod_lt m _ _ _ hm
  have lt1 : ∀ x ∈ p1, x.block < W.heap.size := by obtain ⟨m, hm⟩ := h1; exact DataW.trod_lt m _ _ _ hm
  obtain ⟨y0, rfl, _, _, hwf0⟩ := open_int (k := .i64) Tryd.underlying3 (hval 0 3 v0 rfl rfl) h0
  have hy0 := wf_i64 hwf0
  obtain ⟨y1, rfl, _, _, hwf1⟩ := open_int (k := .i64) Tryd.underlying3 (hval 1 3 v1 rfl rfl) h1
  have hy1 := wf_i64 hwf1
  have hwalk := walk y0 y1 W (of_laid hL) hy0 hy1
  clear hA0 hval0
  refine hwalk.mono fun e W' ⟨he, bel⟩ => ?_
  subst he
  exact ⟨_, rfl, _, _, _, [], _, [], hW', trodAll_mk1 (shut_bool Tryd.underlying4 _), (trodAll_cons_mk (Below.trod laidOut (by kernel_rfl) (of_decide_eq_true (by kernel_rfl)) h0 bel lt0) (trodAll_cons_mk (Below.trod laidOut (by kernel_rfl) (of_decide_eq_true (by kernel_rfl)) h1 bel lt1) trodAll_mk0)), rfl, bel.frame _, fun h => by cases h⟩

theorem over : Rows.FrameBigSaid :=
  OpenClaim.holds_of_wide 8 Tryd.f8 rfl rfl rfl rfl rfl rfl rfl ⟨rfl, rfl, rfl, rfl, rfl⟩ rfl rfl rfl rfl rfl (by kernel_rfl) Tryd.func8 (by kernel_rfl)
    (of_decide_eq_true (by kernel_rfl)) (by unfold Func.isWrapper; first | (rw [if_pos (by decide +kernel)]; kernel_rfl) | (rw [if_neg (by decide +kernel)]; exact ⟨rfl, rfl⟩))
    (fun os started H enc _ => lifted os started H enc)

theorem proved : Rows.FrameBigCardSaid :=
  Claim7.holds_tied_plain_at .later [] [.data, .data] true Rows.frameBigCard.stood.harness false
    over (fun _ h => by cases h) (by kernel_rfl) (fun _ h => by cases h) frameBig_row_tie rfl ⟨rfl, rfl⟩ (by kernel_rfl) rfl
    (fun f fn hf hfn => by
      obtain rfl : f = 8 := Option.some.inj ((show Tryd.prog.funcNamed "tallystick/tallysticklaw08.FrameBig" = some 8 by kernel_rfl).symm.trans hf) |>.symm
      obtain rfl : fn = Tryd.f8 := (Option.some.inj (Tryd.func8.symm.trans hfn)).symm
      exact ⟨by kernel_rfl, fun j t ht => by
        rw [Tryd.params8] at ht
        have hm : t ∈ [3, 3] := by simpa using Array.mem_of_getElem? ht
        have hall : ([3, 3].all fun u => !Tryd.prog.wantsStandIn u) = true := by kernel_rfl
        exact (show Tryd.prog.wantsStandIn t = false by simpa using List.all_eq_true.1 hall t hm)⟩)
    (by kernel_rfl)
#print axioms proved
end Go.Proofs.YtanefmjjbilmiaaDoor.frameBig
