/-
  The document's answer for layer 6: the next so many bytes.
-/
import Derived.Test.YtccgfjkahdbboaaDoorWfC
import Derived.Deep.RegionLaw
namespace Go.Proofs.YtccgfjkahdbboaaDoor
open Go.RowKit
set_option linter.unusedVariables false
set_option linter.unusedSimpArgs false

/-- What is left of some bytes, and the error's number, as the document has them. -/
def stA (s : St) : Array Value := #[.string (strN s.1), .int .i64 ((s.2 : Nat) : Int)]
def stv (s : St) : Value := .agg (stA s)
theorem st_info : (Tryd.prog.info? 81).map (·.size) = some 2 := by kernel_rfl
theorem results_tmp_cell {fn : Func} {p u : Tmp} {ty : TypeId} (h : fn.results = #[.tmp u, .cell p ty]) (tmps : Array Value) (P : Program) (w : World) :
    (results fn tmps).run P w =
      ((asAddr (tmps.getD p undef)).run P w).andThen fun a w₁ => ((loadVar ty a).run P w₁).andThen fun v w₂ => .ok (.tuple #[tmps.getD u undef, v]) w₂ := by
  simp only [results, h]
  simp [Sem.run_bind, Result.andThen]
theorem st_ret {P : Func} {a : Act} {w W : World} {g nm k : Nat} {s : St} {v : Value} {B : Nat} (hp : P.results = #[ResultVar.tmp k, ResultVar.cell nm 81]) (hd : a.defers = []) (hv : a.tmps.getD nm undef = .pointer (some ⟨g, 0, none⟩)) (hk : a.tmps.getD k undef = v)
    (hR : Bk W g 81 (stA s)) (hB : Below B w W) : bodyPost Tryd.prog P (fun e w' => e = .returned (.tuple #[v, stv s]) ∧ Below B w w') Exit.ret a W := by
  have h1 := run_loadVar_row (P := Tryd.prog) W g 81 81 (stA s) (0, 0) _ hR Tryd.underlying81 rfl st_info
  refine bodyPost_ret (v := .tuple #[v, stv s]) ?_ hd ⟨rfl, hB⟩
  rw [results_tmp_cell hp, hv, hk]
  show ((asAddr (.pointer (some ⟨g, 0, none⟩))).run Tryd.prog W).andThen _ = _
  simp only [asAddr, Sem.run_pure, Result.andThen_ok, h1]
  rfl
theorem st_set2 {w : World} {g : Nat} {t : TypeId} {a b : Value} (h : Bk w g t #[a, b]) (x y : Value) : Bk ((w.setCell ⟨g, 0, none⟩ x).setCell ⟨g, 1, none⟩ y) g t #[x, y] := (h.set_ 0 x).set_ 1 y
set_option maxRecDepth 100000 in
set_option maxHeartbeats 2000000 in
theorem rftake_any (s : St) (n : Int) (w : World) (hn : -9223372036854775808 ≤ n ∧ n ≤ 9223372036854775807) (hl : s.1.length ≤ 1000000) (hc : s.2 < 1000) :
    Calls Tryd.prog 47 #[stv s, .int .i64 n] w fun e w' => e = .returned (.tuple #[.string (strN (rdTake s n).1), stv (rdTake s n).2]) ∧ Below w.heap.size w w' := by
  obtain ⟨xs, c⟩ := s
  have hz := strN_size xs
  by_cases hok : 0 ≤ n ∧ n ≤ (xs.length : Int)
  · obtain ⟨k, rfl⟩ : ∃ k : Nat, n = (k : Int) := ⟨n.toNat, by omega⟩
    have hk : k ≤ xs.length := by omega
    have HT := str_take xs k hk
    have HD := str_drop xs k hk
    have e : rdTake (xs, c) (k : Int) = (xs.take k, (xs.drop k, c)) := by unfold rdTake; rw [if_pos hok]; rfl
    rw [e]
    show Calls Tryd.prog _ #[.agg #[.string (strN xs), .int .i64 ((c : Nat) : Int)], _] w _
    obtain ⟨m, hm⟩ : ∃ m, m = xs.length := ⟨_, rfl⟩
    rw [← hm] at hz hk
    have hd1 : decide ((k : Int) < 0) = false := decide_eq_false (by omega)
    have hd2 : decide ((m : Int) < (k : Int)) = false := decide_eq_false (by omega)
    have hd2' : decide (m < k) = false := decide_eq_false (by omega)
    have HS : Hid (stA (xs.drop k, c) = #[.string (strN (xs.drop k)), .int .i64 ((c : Nat) : Int)]) := rfl
    generalize hgx : strN xs = u at *
    obtain ⟨tk, htk⟩ : ∃ tk, tk = strN (xs.take k) := ⟨_, rfl⟩
    obtain ⟨dr, hdr⟩ : ∃ dr, dr = strN (xs.drop k) := ⟨_, rfl⟩
    rw [← htk] at HT ⊢
    rw [← hdr] at HD HS
    have hW : Below w.heap.size w ((w.alloc (.cells #[.string u, .int .i64 ((c : Nat) : Int)] 81)).alloc (.cells #[.string ⟨#[]⟩, .int .i64 0] 81)) := ((Below.refl _ _).alloc (Nat.le_refl _) _).alloc (by simp) _
    clear hok e hm hgx htk hdr
    go_enter Tryd.func47, Tryd.ntmps47
    go_upto_region 1 with fail
    refine wp_any (fun W => Below w.heap.size w W ∧ Bk W w.heap.size 81 #[.string u, .int .i64 ((c : Nat) : Int)] ∧ Bk W (w.heap.size + 1) 81 #[.string ⟨#[]⟩, .int .i64 0]) ⟨hW, (Bk.new _ _ _).alloc _, Bk.new' _ _ _ (by simp)⟩ ?_
    generalize hg2 : w.heap.size = g2 at *
    clear hW
    rintro W ⟨hW, K2, K5⟩
    have HW := Lib.hid hW
    clear hW
    have c0 := K2.cell 0
    have c1 := K2.cell 1
    have d0 := K5.cell 0
    have d1 := K5.cell 1
    have f0 := K5.frozen 0
    have f1 := K5.frozen 1
    have z2 := K2.lt
    have z5 := K5.lt
    go_upto_region 5 with fail
    go_region_law (fail)
    all_goals
      go_wp2_with fail
      refine st_ret (g := g2 + 1) rfl rfl rfl rfl ?_ ?_
      · rw [HS.out]; exact (st_set2 K5 _ _).drew
      · exact ((HW.out.setCell (by show g2 ≤ g2 + 1; omega) _).setCell (by show g2 ≤ g2 + 1; omega) _).drew
  · have e : rdTake (xs, c) n = ([], rdFail (xs, c) 6) := by unfold rdTake; rw [if_neg hok]
    have HS : Hid (∀ d, (if c = 0 then 6 else c) = d → stA (rdFail (xs, c) 6) = #[.string ⟨#[]⟩, .int .i64 ((d : Nat) : Int)]) := fun d h => by
      subst h
      rfl
    have he : (strN [] : ByteArray) = ⟨#[]⟩ := by decide +kernel
    rw [e]
    show Calls Tryd.prog _ #[.agg #[.string (strN xs), .int .i64 ((c : Nat) : Int)], _] w fun e w' => e = .returned (.tuple #[.string (strN []), stv (rdFail (xs, c) 6)]) ∧ Below w.heap.size w w'
    rw [he]
    obtain ⟨m, hm⟩ : ∃ m, m = xs.length := ⟨_, rfl⟩
    rw [← hm] at hz hok hl
    have HM := Lib.hid hm
    generalize rdFail (xs, c) 6 = s2 at *
    generalize strN xs = u at *
    have hW : Below w.heap.size w ((w.alloc (.cells #[.string u, .int .i64 ((c : Nat) : Int)] 81)).alloc (.cells #[.string ⟨#[]⟩, .int .i64 0] 81)) := ((Below.refl _ _).alloc (Nat.le_refl _) _).alloc (by simp) _
    have hcs : n < 0 ∨ ¬ n < 0 ∧ (m : Int) < n := by omega
    clear e he hm hok
    go_enter Tryd.func47, Tryd.ntmps47
    go_upto_region 1 with fail
    refine wp_any (fun W => Below w.heap.size w W ∧ Bk W w.heap.size 81 #[.string u, .int .i64 ((c : Nat) : Int)] ∧ Bk W (w.heap.size + 1) 81 #[.string ⟨#[]⟩, .int .i64 0]) ⟨hW, (Bk.new _ _ _).alloc _, Bk.new' _ _ _ (by simp)⟩ ?_
    generalize hg2 : w.heap.size = g2 at *
    clear hW
    rintro W ⟨hW, K2, K5⟩
    have HW := Lib.hid hW
    clear hW
    have c0 := K2.cell 0
    have c1 := K2.cell 1
    have fz1 := K2.frozen 1
    have d0 := K5.cell 0
    have d1 := K5.cell 1
    have f0 := K5.frozen 0
    have f1 := K5.frozen 1
    have z2 := K2.lt
    have z5 := K5.lt
    by_cases hc0 : c = 0
    · subst hc0
      have HS2 := Lib.hid (HS.out 6 (if_pos rfl))
      have hb0 : (((0 : Nat) : Int) == 0) = true := rfl
      rcases hcs with h1 | ⟨h1, h2⟩
      all_goals
        try have hd1 : decide (n < 0) = true := decide_eq_true h1
        try have hd1 : decide (n < 0) = false := decide_eq_false h1
        try have hd2 : decide ((m : Int) < n) = true := decide_eq_true h2
        go_upto_region 4 with fail
        refine wp_any (fun V => Below g2 w V ∧ Bk V g2 81 #[.string u, .int .i64 6] ∧ Bk V (g2 + 1) 81 #[.string ⟨#[]⟩, .int .i64 0]) ⟨HW.out.setCell (Nat.le_refl _) _, K2.set_ 1 (.int .i64 6), K5.far (by show g2 + 1 ≠ g2; omega) _⟩ ?_
        clear K2 K5 HW c0 c1 fz1 d0 d1 f0 f1 z2 z5
        rintro V ⟨hW, K2, K5⟩
        have HW := Lib.hid hW
        clear hW
        have c0 := K2.cell 0
        have c1 := K2.cell 1
        have d0 := K5.cell 0
        have d1 := K5.cell 1
        have f0 := K5.frozen 0
        have f1 := K5.frozen 1
        have z5 := K5.lt
        go_region_law (fail)
        all_goals
          go_wp2_with fail
          refine st_ret (g := g2 + 1) rfl rfl rfl rfl ?_ ?_
          · rw [HS2.out]; exact (st_set2 K5 _ _).drew
          · exact ((HW.out.setCell (by show g2 ≤ g2 + 1; omega) _).setCell (by show g2 ≤ g2 + 1; omega) _).drew
    · have HS2 := Lib.hid (HS.out c (if_neg hc0))
      have hb0 : (((c : Nat) : Int) == 0) = false := by simp; omega
      have hb0' : decide (((c : Nat) : Int) = 0) = false := decide_eq_false (by omega)
      rcases hcs with h1 | ⟨h1, h2⟩
      all_goals
        try have hd1 : decide (n < 0) = true := decide_eq_true h1
        try have hd1 : decide (n < 0) = false := decide_eq_false h1
        try have hd2 : decide ((m : Int) < n) = true := decide_eq_true h2
        go_upto_region 4 with fail
        go_region_law (fail)
        all_goals
          go_wp2_with fail
          refine st_ret (g := g2 + 1) rfl rfl rfl rfl ?_ ?_
          · rw [HS2.out]; exact (st_set2 K5 _ _).drew
          · exact ((HW.out.setCell (by show g2 ≤ g2 + 1; omega) _).setCell (by show g2 ≤ g2 + 1; omega) _).drew
end Go.Proofs.YtccgfjkahdbboaaDoor
