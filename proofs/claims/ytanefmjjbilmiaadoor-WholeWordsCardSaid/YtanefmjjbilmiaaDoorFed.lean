/-
  The contract of the law's word fed: bytes that come in pieces.
-/
import Derived.Test.YtanefmjjbilmiaaDoorFrX
namespace Go.Proofs.YtanefmjjbilmiaaDoor
open Go.ChangeShapes Go.WideShapes Go.ChangeAt Go.RowKit
set_option linter.unusedVariables false
set_option linter.unusedSimpArgs false
set_option maxRecDepth 100000
def intR : RowT Int := ⟨3, 41, 1, 8, fun z => [.int .i64 z], 0⟩
theorem int_facts : (Tryd.prog.info? 3).map (fun i => (i.zero.map (·.cells), i.size, i.bytes)) = some (some #[.int .i64 0], 1, 8) := by kernel_rfl
theorem int_info : ∃ i v, Tryd.prog.info? 3 = some i ∧ i.zero = some v ∧ i.size = 1 ∧ i.bytes = 8 ∧ v.cells = #[.int .i64 0] := by
  obtain ⟨i, hi, hs⟩ := Option.map_eq_some_iff.1 int_facts
  simp only [Prod.mk.injEq, Option.map_eq_some_iff] at hs
  obtain ⟨⟨v, hv, hc⟩, h1, h2⟩ := hs
  exact ⟨i, v, hi, hv, h1, h2, hc⟩
theorem intR_ok : intR.Ok where
  ht := Tryd.underlying41
  info := int_info
  len := fun x => rfl
  one := fun x v hv => by
    rw [List.mem_singleton.1 hv]
    rfl
  pos := by decide
  bys := by decide
theorem wpList_appG {ops : Array Oper} {rest : List Oper} {o : Oper} {a : Act} {w W : World} {Q : Exit → Act → World → Prop} {v1 v2 v : Value} (t : TypeId) (hg : o.guard = none) (s x : Operand)
    (hop : o.op = Op.call { callee := Callee.builtin Builtin.append, args := #[s, x], argTypes := #[t, t] }) (hty : o.type = t) (hs : a.eval s = v1) (hx : a.eval x = v2)
    (hrun : (Builtin.append_ #[t, t] t #[v1, v2]).run Tryd.prog w = .ok v W) (hK : wpList Tryd.prog ops Q rest (a.put o.dst v) W) : wpList Tryd.prog ops Q (o :: rest) a w := by
  refine wpList_plain hg fun K hK' => ?_
  unfold Oper.wp
  simp [execOp, hop, resolve, invoke, builtin, hs, hx, hty, hrun, Result.andThen]
  exact hK' _ _ hK
/-- A part of a slice of bytes. -/
theorem mid_slice {w : World} {B0 m cb : Nat} {sb : Option Addr} {B : List Nat} (h : BsV w B0 (.slice sb m cb) B) (k q : Nat) (hk : k + q ≤ B.length) :
    ∃ s2 c2, (∀ W, (Instr.slice 22 (.slice sb m cb) (some (.int .i64 (k : Int))) (some (.int .i64 ((k : Int) + (q : Int)))) none).run Tryd.prog W = .ok (.slice s2 q c2) W) ∧ BsV w B0 (.slice s2 q c2) ((B.drop k).take q) := by
  have hcp : m = B.length ∧ m ≤ cb ∧ cb < 9223372036854775808 := by
    obtain ⟨s, cap, e, h1, h2, h3, h4⟩ := h
    cases e
    exact ⟨rfl, h1, h2⟩
  have hlen : ((B.drop k).take q).length = q := by rw [List.length_take, List.length_drop]; omega
  have h1 : (0 : Int) ≤ (k : Int) := by omega
  have h2 : (k : Int) ≤ (k : Int) + (q : Int) := by omega
  have h3 : (k : Int) + (q : Int) ≤ (cb : Int) := by omega
  have h5 : ((k : Int) + (q : Int)).toNat = k + q := by omega
  have h6 : (0 : Int) ≤ (k : Int) + (q : Int) := by omega
  have h7 : k + q - k = q := by omega
  cases sb with
  | none =>
    have hm : m = 0 := by
      obtain ⟨s, cap, e, g1, g2, g3, g4⟩ := h
      cases e
      rcases Nat.eq_zero_or_pos B.length with hz | hz
      · exact hz
      · obtain ⟨b, o, e1, _⟩ := g4 (by rintro rfl; cases hz)
        cases e1
    have hk0 : k = 0 := by omega
    have hq0 : q = 0 := by omega
    subst hk0 hq0
    refine ⟨none, cb, fun W => ?_, ⟨none, cb, rfl, Nat.zero_le _, hcp.2.2, by simp, fun h => absurd rfl h⟩⟩
    by_cases hc : cb = 0
    · subst hc
      go_simp
    · go_simp
  | some a =>
    by_cases hne : B = []
    · subst hne
      have hk0 : k = 0 := by simp at hk; omega
      have hq0 : q = 0 := by simp at hk; omega
      have hm : m = 0 := hcp.1
      subst hk0 hq0 hm
      refine ⟨some a, cb, fun W => ?_, ⟨some a, cb, rfl, Nat.zero_le _, hcp.2.2, by simp, fun h => absurd rfl h⟩⟩
      clear h h1 h2 h3 h5 h6 h7 hlen hk hcp
      by_cases hc : cb = 0
      · subst hc
        go_simp
      · go_simp
    · obtain ⟨b, o, rfl⟩ : ∃ b o, a = ⟨b, o, none⟩ := by
        obtain ⟨s, cap, e, g1, g2, g3, g4⟩ := h
        obtain ⟨b, o, e1, _⟩ := g4 hne
        cases e
        cases e1
        exact ⟨_, _, rfl⟩
      have hp := bsv_part k q h hk
      rw [Go.WideShapes.add_plain] at hp
      by_cases hc : cb = k
      · have hq0 : q = 0 := by omega
        subst hq0
        subst hc
        refine ⟨some ⟨b, o, none⟩, 0, fun W => ?_, ⟨_, _, rfl, Nat.zero_le _, by omega, by simp, fun h => absurd rfl h⟩⟩
        go_simp
      · refine ⟨some ⟨b, o + k, none⟩, cb - k, fun W => ?_, hp⟩
        go_simp
theorem slice_int {w : World} {T n : Nat} {L : List Int} (K : Bk w T 3 (intR.flat (L ++ List.replicate n 0)).toArray) (i : Nat) (z : Int) (h : L[i]? = some z) : w.cell? ⟨T, i, none⟩ = some (.int .i64 z) := by
  have h1 := rowr_row intR_ok K i z h 0 _ rfl
  simpa [intR] using h1
/-- What holds in each round of fed. -/
structure FedInv (w wr : World) (p : Nat) (B : List Nat) (k : Nat) (rv dv : Value) (L : List FrM) (ds : List Int) : Prop where
  feed : ∃ v1, FeedM wr p w.heap.size v1 (FZ (B.take k)).h (FZ (B.take k)).e ∧ MadeM wr w.heap.size v1 rv L
  out : L.map FrM.pr = (FZ (B.take k)).out
  bel : Below w.heap.size w wr
  row : MineR intR wr w.heap.size dv ds
  few : L.length ≤ B.length
theorem out_few (B : List Nat) : (FZ B).out.length ≤ B.length := by
  have h : ∀ (b : List Nat) (s : FS), (feedL s b).out.length ≤ s.out.length + b.length := by
    intro b
    induction b with
    | nil => intro s; exact Nat.le_refl _
    | cons x b ih =>
      intro s
      have h1 := ih (feed1 s x)
      have h2 : (feed1 s x).out.length ≤ s.out.length + 1 := by
        unfold feed1
        split
        · omega
        · unfold tell
          split
          · exact Nat.le_succ _
          · split
            · simp
            · exact Nat.le_succ _
      show (feedL (feed1 s x) b).out.length ≤ _
      rw [List.length_cons]
      omega
  have h1 := h B ⟨[], 0, []⟩
  simpa [FZ] using h1
theorem MineR.butI {w W : World} {p lo lo2 e : Nat} {v dv : Value} {h : List Nat} {ds : List Int} (hd : MineR intR w lo dv ds) (hF : FeedM w p lo2 v h e) (hb : But (fun k => k = p ∨ slb v k) w W) : MineR intR W lo dv ds := by
  rcases hd with h1 | ⟨T, cap, z, e1, h1, h2, h3, K⟩
  · exact .inl h1
  · refine .inr ⟨T, cap, z, e1, h1, h2, h3, hb.keep K (fun hc => ?_)⟩
    rcases hc with rfl | hc
    · exact absurd (K.type_eq hF.1) (by decide)
    · obtain ⟨_, _, ys, K2⟩ := hF.2.slb_lo hc
      exact absurd (K.type_eq K2) (by decide)
def FedPost (w w' : World) (B : List Nat) (r : Ending) : Prop := ∃ rv p v' L, r = .returned (.tuple #[rv, .pointer (some ⟨p, 0, none⟩), .bool true]) ∧ w.heap.size ≤ p ∧ FeedM w' p w.heap.size v' (FZ B).h (FZ B).e ∧ MadeM w' w.heap.size v' rv L ∧ L.map FrM.pr = (FZ B).out ∧ Below w.heap.size w w'
set_option maxHeartbeats 8000000 in
theorem fed_any (B : List Nat) (cs : List Int) (v cv : Value) (w : World) (hL : Laid w) (hb : BsV w w.heap.size v B) (hc : RowV intR w w.heap.size cv cs) (hci : ∀ z ∈ cs, -9223372036854775808 ≤ z ∧ z ≤ 9223372036854775807) (hl : B.length ≤ 1000000) (hn : cs.length ≤ 1000) :
    Calls Tryd.prog 23 #[v, cv] w fun r w' => FedPost w w' B r := by
  have hx : ∀ x ∈ B, x < 256 := by
    obtain ⟨s, cap, e, h1, h2, h3, h4⟩ := hb
    exact h3
  have HL := Lib.hid hL
  have HB := Lib.hid hb
  have HC := Lib.hid hc
  have HX := Lib.hid hx
  have HLN := Lib.hid hl
  have HCN := Lib.hid hn
  obtain ⟨sb, cb, rfl, hbr⟩ := hb
  obtain ⟨sc, cc, rfl⟩ := hc.slice
  clear hbr
  obtain ⟨m, hm⟩ : ∃ m, m = B.length := ⟨_, rfl⟩
  rw [← hm] at HB ⊢
  have HM := Lib.hid hm
  obtain ⟨nc, hnc⟩ : ∃ n, n = cs.length := ⟨_, rfl⟩
  rw [← hnc] at HC ⊢
  have HNC := Lib.hid hnc
  have HMS : Hid (∀ k q, k + q ≤ m → ∃ s2 c2, (∀ W, (Instr.slice 22 (.slice sb m cb) (some (.int .i64 (k : Int))) (some (.int .i64 ((k : Int) + (q : Int)))) none).run Tryd.prog W = .ok (.slice s2 q c2) W) ∧ BsV w w.heap.size (.slice s2 q c2) ((B.drop k).take q)) := fun k q h => mid_slice HB.out k q (by omega)
  have HCI : Hid (∀ z ∈ cs ++ [(m : Int)], -9223372036854775808 ≤ z ∧ z ≤ 9223372036854775807) := fun z hz => by
    rcases List.mem_append.1 hz with h | h
    · exact hci z h
    · rw [List.mem_singleton.1 h]; omega
  clear hL hc hx hl hn hm hnc hci
  go_enter Tryd.func23, Tryd.ntmps23
  go_upto_region 4 with fail
  refine wp_any (fun W => Below w.heap.size w W ∧ Bk W w.heap.size 36 #[.slice none 0 0, .int .i64 0]) ⟨(Below.refl _ _).alloc (Nat.le_refl _) _, Bk.new _ _ _⟩ ?_
  obtain ⟨p, hp⟩ : ∃ p, p = w.heap.size := ⟨_, rfl⟩
  have HP : Hid (w.heap.size = p) := hp.symm
  rw [← hp]
  clear hp
  rintro W0 ⟨hW0, KP⟩
  have HW0 : Hid (Below w.heap.size w W0) := by rw [HP.out]; exact hW0
  clear hW0
  -- the list of the pieces' lengths
  have hA1 : Below W0.heap.size W0 (W0.alloc (.cells #[] 3)) := (Below.refl _ _).alloc (Nat.le_refl _) _
  have hm1 : MineR intR (W0.alloc (.cells #[] 3)) w.heap.size (.slice (some ⟨W0.heap.size, 0, none⟩) 0 0) [] := .inr ⟨W0.heap.size, 0, 0, rfl, rfl, by omega, HW0.out.size, Bk.new W0 3 #[]⟩
  obtain ⟨v1, W1, hr1, hM1, hb1, hB1⟩ := appR intR_ok [] cs (.slice (some ⟨W0.heap.size, 0, none⟩) 0 0) (.slice sc nc cc) w.heap.size (W0.alloc (.cells #[] 3)) hm1 (Nat.le_trans HW0.out.size hA1.size) ((HC.out.keep (HW0.out.trans (hA1.mono HW0.out.size)) (Nat.le_refl _)).mono (Nat.le_trans HW0.out.size hA1.size)) (by have := HCN.out; simp; omega)
  rw [List.nil_append] at hM1
  obtain ⟨s1, c1, rfl⟩ := hM1.slice
  have hKP1 : Bk W1 p 36 #[.slice none 0 0, .int .i64 0] := hB1.2 _ _ _ (KP.keep hA1) (fun o n c he => by
    cases he
    have := KP.lt
    omega)
  have HW1 : Hid (Below w.heap.size w W1) := (HW0.out.trans (hA1.mono HW0.out.size)).trans hb1
  have hA2 : Below W1.heap.size W1 (W1.alloc (.cells #[.int .i64 (m : Int)] 3)) := (Below.refl _ _).alloc (Nat.le_refl _) _
  have hrow2 : RowV intR (W1.alloc (.cells #[.int .i64 (m : Int)] 3)) (W1.alloc (.cells #[.int .i64 (m : Int)] 3)).heap.size (.slice (some ⟨W1.heap.size, 0, none⟩) 1 1) [(m : Int)] := row_built intR_ok (L := [(m : Int)]) (t := 3) (Bk.new W1 3 #[.int .i64 (m : Int)]) rfl (by omega)
  obtain ⟨v2, W2, hr2, hM2, hb2, hB2⟩ := appR intR_ok cs [(m : Int)] (.slice s1 cs.length c1) (.slice (some ⟨W1.heap.size, 0, none⟩) 1 1) w.heap.size (W1.alloc (.cells #[.int .i64 (m : Int)] 3)) (hM1.keep hA2) (Nat.le_trans HW1.out.size hA2.size) hrow2 (by have := HCN.out; simp; omega)
  obtain ⟨s2, c2, rfl⟩ := hM2.slice
  have hKP2 : Bk W2 p 36 #[.slice none 0 0, .int .i64 0] := hB2.2 _ _ _ (hKP1.keep hA2) (fun o n c he => by
    cases he
    rcases hM1 with ⟨h1, _⟩ | ⟨T, cap, z, h1, _, _, _, K⟩
    · cases h1
    · cases h1
      exact absurd (hKP1.type_eq K) (by decide))
  have HW2 : Hid (Below w.heap.size w W2) := (HW1.out.trans (hA2.mono HW1.out.size)).trans hb2
  have HM2 := Lib.hid hM2
  have hln : cs.length = nc := HNC.out.symm
  have hln2 : (cs ++ [(m : Int)]).length = nc + 1 := by rw [List.length_append, hln]; rfl
  rw [hln2] at hr2 HM2
  rw [hln] at hr1 hr2
  clear hm1 hM1 hb1 hB1 hrow2 hb2 hB2 hKP1 hA1 hA2 hln hln2 hM2
  go_upto_region 5 with (first | (refine wpList_appG (v1 := .slice (some ⟨W0.heap.size, 0, none⟩) 0 0) (v2 := .slice sc nc cc) 41 rfl (.tmp 12) (.tmp 13) rfl rfl rfl rfl hr1 ?_) | (refine wpList_appG (v1 := .slice s1 nc c1) (v2 := .slice (some ⟨W1.heap.size, 0, none⟩) 1 1) 41 rfl (.tmp 14) (.tmp 17) rfl rfl rfl rfl hr2 ?_))
  have HSTART : Hid (FedInv w W2 p B 0 (.slice none 0 0) (.slice s2 (nc + 1) c2) [] (cs ++ [(m : Int)])) := ⟨⟨_, new_feed hKP2 _, .inl ⟨rfl, rfl⟩, by simp⟩, rfl, HW2.out, HM2.out, Nat.zero_le _⟩
  clear hr1 hr2 hKP2 KP HW0 HW1 HW2 HM2
  go_loopw [8, 9, 20] (fun ov av iv wr => ∃ (j k : Nat) (so : Option Addr) (lo co : Nat) (L : List FrM), j ≤ nc + 1 ∧ k ≤ m ∧ iv = .int .i64 (j : Int) ∧ av = .int .i64 (k : Int) ∧ ov = .slice so lo co ∧ (j = nc + 1 → k = m) ∧ Hid (FedInv w wr p B k (.slice so lo co) (.slice s2 (nc + 1) c2) L (cs ++ [(m : Int)]))) (fun _ _ iv _ => nc + 1 - (intOf iv).toNat)
  case atStart => exact ⟨0, 0, none, 0, 0, [], Nat.zero_le _, Nat.zero_le _, rfl, rfl, rfl, fun h => absurd h (by omega), HSTART.out⟩
  case round =>
    obtain ⟨j, k, so, lo, co, L, hj, hk, rfl, rfl, rfl, hjk, HI⟩ := hrel
    clear HSTART
    by_cases hlt : j < nc + 1
    · have j1 : decide ((j : Int) < ((nc + 1 : Nat) : Int)) = true := decide_eq_true (by omega)
      have j2 : decide (j < nc + 1) = true := decide_eq_true (by omega)
      have j3 : decide ((j : Int) < (nc : Int) + 1) = true := decide_eq_true (by omega)
      have j4 : decide (j ≤ nc) = true := decide_eq_true (by omega)
      have j5 : (j : Int) < (nc : Int) + 1 := by omega
      have j6 : (0 : Int) ≤ (j : Int) := by omega
      have j7 : IntKind.i64.wrap ((j : Int) + 1) = ((j + 1 : Nat) : Int) := by
        have := HCN.out
        have := HNC.out
        simp [IntKind.wrap, IntKind.signed, IntKind.bits]
        omega
      obtain ⟨z, hz⟩ : ∃ z, (cs ++ [(m : Int)])[j]? = some z := by
        have : j < (cs ++ [(m : Int)]).length := by rw [List.length_append, ← HNC.out]; exact hlt
        exact ⟨_, List.getElem?_eq_getElem this⟩
      obtain ⟨T, rfl, hTb, hcz⟩ : ∃ T, s2 = some ⟨T, 0, none⟩ ∧ T < wr.heap.size ∧ wr.cell? ⟨T, j, none⟩ = some (.int .i64 z) := by
        rcases HI.out.row with ⟨h1, _⟩ | ⟨T, cap, zz, h1, _, _, _, K⟩
        · cases h1
        · injection h1 with e1 e2 e3
          subst e1
          exact ⟨T, rfl, K.lt, slice_int K j z hz⟩
      have hzr := HCI.out z (List.mem_of_getElem? hz)
      have hlast : j = nc → z = (m : Int) := fun h => by
        rw [h, HNC.out, List.getElem?_append_right (Nat.le_refl _)] at hz
        simpa using hz.symm
      have HLAST := Lib.hid hlast
      have HJ := Lib.hid (show j + 1 ≤ nc + 1 by omega)
      -- how many bytes come
      obtain ⟨q, hq⟩ : ∃ q : Nat, q = (max 0 (min z ((m - k : Nat) : Int))).toNat := ⟨_, rfl⟩
      have hqm : k + q ≤ m := by omega
      have hsub : IntKind.i64.wrap ((m : Int) - (k : Int)) = ((m - k : Nat) : Int) := by
        have := HM.out
        have := HLN.out
        simp [IntKind.wrap, IntKind.signed, IntKind.bits]
        omega
      have hadd : IntKind.i64.wrap ((k : Int) + (q : Int)) = (k : Int) + (q : Int) := by
        have := HM.out
        have := HLN.out
        simp [IntKind.wrap, IntKind.signed, IntKind.bits]
        omega
      obtain ⟨r, hr⟩ : ∃ r, r = m - k := ⟨_, rfl⟩
      rw [← hr] at hq hsub
      obtain ⟨mn, hmn⟩ : ∃ mn : Int, mn = min z (r : Int) := ⟨_, rfl⟩
      rw [← hmn] at hq
      have hmin : (if ((r : Nat) : Int) < z then ((r : Nat) : Int) else z) = mn := by rw [hmn]; split <;> omega
      have hmax : (if 0 < mn then mn else 0) = (q : Int) := by rw [hq]; split <;> omega
      have HQL : Hid (j = nc → k + q = m) := fun h => by have := HLAST.out h; omega
      obtain ⟨s3, c3, hsl, hbs⟩ := HMS.out k q hqm
      have HQM := Lib.hid hqm
      have HBS := Lib.hid hbs
      clear hlast hz hmn hq hr hqm hbs hlt hjk hzr
      obtain ⟨v1, hF, hMd⟩ := HI.out.feed
      have hsz := HI.out.bel.size
      have hown : ∀ t, slb v1 t → w.heap.size ≤ t := fun t ht => (hF.2.slb_lo ht).1
      have HAD := Lib.hid (fadd_on p w.heap.size q c3 s3 v1 (B.take k) ((B.drop k).take q) wr (HL.out.below HI.out.bel HL.out.size) HL.out.size (by rw [HP.out]; exact Nat.le_refl _) hsz hF (fun x h => HX.out x (List.mem_of_mem_take h)) (bsn_old (HBS.out.keep HI.out.bel (Nat.le_refl _)) hsz (by rw [HP.out]; exact Nat.le_refl _) hF.2) (by rw [List.length_take, List.length_drop]; have := HLN.out; omega))
      have HFD := Lib.hid hF
      have HMD := Lib.hid hMd
      have HOW := Lib.hid hown
      clear hF hMd hsz hown
      go_wp2_with fail
      refine HAD.out.mono ?_
      rintro r' w5 ⟨rv, v5, L5, rfl, hF5, hM5, ho5, hb5, hs5, hl5⟩
      rw [take_two] at hF5 ho5
      have hMk : MadeM w5 w.heap.size v5 (.slice so lo co) L := HMD.out.butF HFD.out hb5 hs5
      have hRow : MineR intR w5 w.heap.size (.slice (some ⟨T, 0, none⟩) (nc + 1) c2) (cs ++ [(m : Int)]) := HI.out.row.butI HFD.out hb5
      have HB5 : Hid (Below w.heap.size w w5) := HI.out.bel.trans hl5
      obtain ⟨sr5, cr5, rfl⟩ := hM5.1.slice
      obtain ⟨slo, clo, hse⟩ := hMk.1.slice
      injection hse with e1 e2 e3
      subst e1
      clear e2
      subst e3
      have hfew : L.length + L5.length ≤ 1000000 := by
        have h1 := congrArg List.length ho5
        have h2 := congrArg List.length HI.out.out
        rw [List.length_append, List.length_map] at h1
        rw [List.length_map] at h2
        have h3 := out_few (B.take (k + q))
        rw [List.length_take] at h3
        have := HLN.out
        omega
      obtain ⟨v6, W6, hr6, hM6, hb6, hB6⟩ := appR frR_ok L L5 (.slice so lo co) (.slice sr5 L5.length cr5) w.heap.size w5 hMk.1 HB5.out.size (hM5.1.rows frR_ok) (by omega)
      obtain ⟨s6, c6, rfl⟩ := hM6.slice
      have HINV : Hid (FedInv w W6 p B (k + q) (.slice s6 (L ++ L5).length c6) (.slice (some ⟨T, 0, none⟩) (nc + 1) c2) (L ++ L5) (cs ++ [(m : Int)])) := by
        refine ⟨⟨v5, hF5.butR hMk.1 hB6, hM6, fun x hx => ?_⟩, ?_, HB5.out.trans hb6, MineR.but (by decide) hRow hMk.1 hB6, ?_⟩
        · rcases List.mem_append.1 hx with h | h
          · exact ⟨(hMk.2 x h).1.butR hMk.1 hB6, (hMk.2 x h).2⟩
          · exact ⟨((hM5.2 x h).1.butR hMk.1 hB6).mono HI.out.bel.size, (hM5.2 x h).2⟩
        · rw [List.map_append, HI.out.out]
          exact ho5
        · have h1 := congrArg List.length ho5
          have h2 := congrArg List.length HI.out.out
          rw [List.length_append, List.length_map] at h1
          rw [List.length_map] at h2
          have h3 := out_few (B.take (k + q))
          rw [List.length_take] at h3
          rw [List.length_append]
          omega
      have HF6 : Hid (FeedM W6 p w.heap.size v5 (FZ (B.take (k + q))).h (FZ (B.take (k + q))).e) := hF5.butR hMk.1 hB6
      obtain ⟨n6, hn6⟩ : ∃ n6, n6 = (L ++ L5).length := ⟨_, rfl⟩
      rw [← hn6] at hr6 HINV
      obtain ⟨n5, hn5⟩ : ∃ n5, n5 = L5.length := ⟨_, rfl⟩
      rw [← hn5] at hr6 ⊢
      clear hn5 hF5 hM5 ho5 hb5 hs5 hl5 hMk hRow hfew hM6 hb6 hB6 HAD HFD HMD HOW hn6 hcz hTb
      go_upto_region 9 with (refine wpList_appG (v1 := .slice so lo co) (v2 := .slice sr5 n5 cr5) 37 rfl (.tmp 31) (.tmp 38) rfl rfl rfl rfl hr6 ?_)
      clear hr6
      obtain ⟨s7, c7, rfl⟩ := HF6.out.2.slice
      have HHD := Lib.hid (fheld_any p _ _ _ _ _ _ W6 HF6.out)
      have hroom := FZ_room (B.take (k + q))
      obtain ⟨hd, hhd⟩ : ∃ hd, hd = (FZ (B.take (k + q))).h.length := ⟨_, rfl⟩
      rw [← hhd] at HHD hroom
      have q9 : decide ((16408 : Int) < (hd : Int)) = false := decide_eq_false (by omega)
      clear hhd hroom HF6
      go_wp2_with fail
      refine HHD.out.mono ?_
      rintro r' w7 ⟨rfl, rfl⟩
      clear HHD
      go_wp2_with fail
      go_roundw
      case rel => exact ⟨j + 1, k + q, s6, n6, c6, L ++ L5, HJ.out, HQM.out, by first | rfl | (push_cast; rfl), by first | rfl | (push_cast; rfl), rfl, fun h => HQL.out (by omega), HINV.out⟩
      case measure => have := HJ.out; simp [intOf]; omega
    · have hjn : j = nc + 1 := by omega
      have j1 : decide ((j : Int) < ((nc + 1 : Nat) : Int)) = false := decide_eq_false (by omega)
      have j2 : decide (j < nc + 1) = false := decide_eq_false (by omega)
      have j3 : decide ((j : Int) < (nc : Int) + 1) = false := decide_eq_false (by omega)
      have j4 : decide (j ≤ nc) = false := decide_eq_false (by omega)
      have hkm := hjk hjn
      subst hkm
      obtain ⟨v1, hF, hMd⟩ := HI.out.feed
      have htk : B.take k = B := by rw [HM.out, List.take_length]
      have ho := HI.out.out
      rw [htk] at hF ho
      have HE : Hid (FedPost w wr B (.returned (.tuple #[.slice so lo co, .pointer (some ⟨p, 0, none⟩), .bool true]))) := ⟨_, p, v1, L, rfl, by rw [HP.out]; exact Nat.le_refl _, hF, hMd, ho, HI.out.bel⟩
      clear hF hMd htk ho hlt hjk hjn HI
      go_wp2_with fail
      go_ret3
      exact HE.out
end Go.Proofs.YtanefmjjbilmiaaDoor
