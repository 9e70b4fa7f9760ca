/-
  Regions of the law TxApart.
-/
import Derived.Test.YtokiinpegclffaaDoorTxZ
import Derived.Test.YtokiinpegclffaaDoorTxR
namespace Go.Proofs.YtokiinpegclffaaDoor.txApart
open Go.ChangeShapes Go.WideShapes Go.ChangeAt Go.RowKit
set_option linter.unusedVariables false
set_option maxRecDepth 100000
theorem still_load_row {ops : Array Oper} {rest : List Oper} {o : Oper} {a : Act} {w : World} {Q : Act → Prop} (hg : o.guard = none) (ty : TypeId) (k : Operand) (ho : o.op = .load ty k) (b off : Nat) (hev : a.eval k = .pointer (some ⟨b, off, none⟩))
    (cs : List Value) (d : TypeDesc) (hr : w.rangeAt b off cs) (hu : Tryd.prog.underlying ty = some d) (hd : d.isRow = true) (hi : (Tryd.prog.info? ty).map (·.size) = some cs.length)
    (h : wpStill Tryd.prog ops w Q rest (a.put o.dst (.agg cs.toArray))) : wpStill Tryd.prog ops w Q (o :: rest) a := by
  refine wpStill_step (fun K hK => ?_)
  have hw : Region.wanted o (yielded ops a.tmps) = true := by simp [Region.wanted, hg]
  have hrun := run_loadAt_mid (P := Tryd.prog) w b off ty cs d hr hu hd hi
  rw [if_pos hw]
  unfold Oper.still execOp
  simp only [ho, hev, Sem.run_bind, hrun, Result.andThen_ok]
  exact (Oper.stillUpon_value o a w K _).mpr (hK _ h)
theorem still_skip {ops : Array Oper} {rest : List Oper} {o : Oper} {a : Act} {w : World} {Q : Act → Prop} (hw : Region.wanted o (yielded ops a.tmps) = false) (h : ∀ K : Act → Prop, (∀ b, wpStill Tryd.prog ops w Q rest b → K b) → K (a.put o.dst undef)) : wpStill Tryd.prog ops w Q (o :: rest) a := by
  refine wpStill_step (fun K hK => ?_)
  rw [if_neg (by rw [hw]; decide)]
  exact h K hK
theorem still_want {ops : Array Oper} {rest : List Oper} {o : Oper} {a : Act} {w : World} {Q : Act → Prop} (hw : Region.wanted o (yielded ops a.tmps) = true) (h : ∀ K : Act → Prop, (∀ b, wpStill Tryd.prog ops w Q rest b → K b) → o.still Tryd.prog a w K) : wpStill Tryd.prog ops w Q (o :: rest) a := by
  refine wpStill_step (fun K hK => ?_)
  rw [if_pos hw]
  exact h K hK
theorem still_pass {ops : Array Oper} {rest : List Oper} {o : Oper} {a : Act} {w : World} {Q : Act → Prop} (hw : Region.wanted o (yielded ops a.tmps) = false) (h : wpStill Tryd.prog ops w Q rest (a.put o.dst undef)) : wpStill Tryd.prog ops w Q (o :: rest) a := still_skip hw (fun K hK => hK _ h)
theorem still_run {ops : Array Oper} {rest : List Oper} {o : Oper} {a : Act} {w : World} {Q : Act → Prop} (v : Value) (hw : Region.wanted o (yielded ops a.tmps) = true) (hrun : (execOp a.eval o).run Tryd.prog w = .ok (.value v) w) (h : wpStill Tryd.prog ops w Q rest (a.put o.dst v)) : wpStill Tryd.prog ops w Q (o :: rest) a :=
  still_want hw (fun K hK => by
    unfold Oper.still
    rw [hrun]
    exact (Oper.stillUpon_value o a w K v).mpr (hK _ h))
theorem eql_bin {ty : TypeId} {x y : Array Value} {E : Bool} (h : ∀ W, (Op.equalIn 10000 ty (.agg x) (.agg y)).run Tryd.prog W = .ok E W) (w : World) : (binOp .eql ty (.agg x) (.agg y)).run Tryd.prog w = .ok (.bool E) w := by
  have h := h w
  show (Op.equal ty (.agg x) (.agg y) >>= fun b => pure (Value.bool b)).run Tryd.prog w = _
  rw [Sem.run_bind]
  show ((Op.equalIn 10000 ty (.agg x) (.agg y)).run Tryd.prog w).andThen _ = _
  rw [h]
  rfl
theorem str_same (x y : List Nat) (hx : ∀ b ∈ x, b < 256) (hy : ∀ b ∈ y, b < 256) : ((strN x).toList == (strN y).toList) = decide (x = y) := by
  rw [strN_toList, strN_toList]
  by_cases h : x = y
  · subst h
    simp
  · rw [decide_eq_false h, beq_eq_false_iff_ne]
    intro e
    apply h
    have hl : x.length = y.length := by have := congrArg List.length e; simpa using this
    apply List.ext_getElem hl
    intro i h1 h2
    have e1 : (x.map UInt8.ofNat)[i]? = (y.map UInt8.ofNat)[i]? := by rw [e]
    rw [List.getElem?_map, List.getElem?_map, List.getElem?_eq_getElem h1, List.getElem?_eq_getElem h2] at e1
    have e2 : UInt8.ofNat x[i] = UInt8.ofNat y[i] := by simpa using e1
    have e3 := congrArg UInt8.toNat e2
    rw [UInt8.toNat_ofNat', UInt8.toNat_ofNat'] at e3
    have a1 := hx _ (List.getElem_mem h1)
    have a2 := hy _ (List.getElem_mem h2)
    omega
theorem pt_range {w : World} {b o : Nat} {x : InM} (h : w.rangeAt b o (inL x)) : w.rangeAt b o (ptA x).toList := fun j v hv => h j v (by
  have hj := (List.getElem?_eq_some_iff.1 hv).1
  have hl : (x.tx.1.map byteV).length = 32 := by rw [List.length_map, x.tx.2.1]
  unfold ptA at hv hj
  rw [List.toList_toArray] at hv hj
  rw [List.length_append, hl] at hj
  have hj : j < 33 := hj
  unfold inL
  rcases Nat.lt_or_ge j 32 with h1 | h1
  · rw [List.getElem?_append_left (by omega)] at hv ⊢
    exact hv
  · obtain rfl : j = 32 := by omega
    rw [List.getElem?_append_right (by omega)] at hv ⊢
    rw [hl] at hv ⊢
    exact hv)
theorem pt_len (x : InM) : (ptA x).toList.length = 33 := by
  unfold ptA
  rw [List.toList_toArray, List.length_append, List.length_map, x.tx.2.1]
  rfl
theorem in_cell33 {w : World} {b o : Nat} {x : InM} (h : w.rangeAt b o (inL x)) : w.cell? ⟨b, o + 33, none⟩ = some x.kv := h 33 _ (in_33 x)
theorem bsv_lt {w : World} {B : Nat} {v : Value} {xs : List Nat} (h : BsV w B v xs) : ∀ x ∈ xs, x < 256 := by
  obtain ⟨s, cap, e, h1, h2, h3, h4⟩ := h
  exact h3
theorem pt_infoS : (Tryd.prog.info? 32).map (·.size) = some 33 := by kernel_rfl
theorem ou_infoS : (Tryd.prog.info? 37).map (·.size) = some 33 := by kernel_rfl
theorem TxV.ok {w : World} {B : Nat} {t : TxM} (h : TxV w B t) : (∀ x ∈ t.ins, x.ix < 4294967296) ∧ ∀ x ∈ t.outs, OutOk x := ⟨fun x hx => (h.2.1 x hx).1, h.2.2.2⟩

structure Sh (p : Prop) : Prop where
  out : p
theorem hs_step {ops : Array Oper} {rest : List Oper} {o : Oper} {a : Act} {w : World} {Q : Act → Prop} (h : ∀ K : Act → Prop, (∀ b, Sh (wpStill Tryd.prog ops w Q rest b) → K b) → if Region.wanted o (yielded ops a.tmps) then o.still Tryd.prog a w K else K (a.put o.dst undef)) : Sh (wpStill Tryd.prog ops w Q (o :: rest) a) :=
  Sh.mk (wpStill_step (fun K hK => h K (fun b hb => hK b hb.out)))
theorem hs_skip {ops : Array Oper} {rest : List Oper} {o : Oper} {a : Act} {w : World} {Q : Act → Prop} (hw : Region.wanted o (yielded ops a.tmps) = false) (h : ∀ K : Act → Prop, (∀ b, Sh (wpStill Tryd.prog ops w Q rest b) → K b) → K (a.put o.dst undef)) : Sh (wpStill Tryd.prog ops w Q (o :: rest) a) :=
  Sh.mk (still_skip hw (fun K hK => h K (fun b hb => hK b hb.out)))
theorem hs_want {ops : Array Oper} {rest : List Oper} {o : Oper} {a : Act} {w : World} {Q : Act → Prop} (hw : Region.wanted o (yielded ops a.tmps) = true) (h : ∀ K : Act → Prop, (∀ b, Sh (wpStill Tryd.prog ops w Q rest b) → K b) → o.still Tryd.prog a w K) : Sh (wpStill Tryd.prog ops w Q (o :: rest) a) :=
  Sh.mk (still_want hw (fun K hK => h K (fun b hb => hK b hb.out)))
theorem hs_load {ops : Array Oper} {rest : List Oper} {o : Oper} {a : Act} {w : World} {Q : Act → Prop} (hg : o.guard = none) (ty : TypeId) (k : Operand) (ho : o.op = .load ty k) (b off : Nat) (hev : a.eval k = .pointer (some ⟨b, off, none⟩))
    (cs : List Value) (A : Array Value) (hA : cs.toArray = A) (d : TypeDesc) (hr : w.rangeAt b off cs) (hu : Tryd.prog.underlying ty = some d) (hd : d.isRow = true) (hi : (Tryd.prog.info? ty).map (·.size) = some cs.length)
    (h : ∀ K : Act → Prop, (∀ b, Sh (wpStill Tryd.prog ops w Q rest b) → K b) → K (a.put o.dst (.agg A))) : Sh (wpStill Tryd.prog ops w Q (o :: rest) a) := by
  subst hA
  refine Sh.mk (still_load_row hg ty k ho b off hev cs d hr hu hd hi ?_)
  exact (h (fun b => wpStill Tryd.prog ops w Q rest b) (fun b hb => hb.out))
theorem hs_nil {ops : Array Oper} {a : Act} {w : World} {Q : Act → Prop} (h : Q a) : Sh (wpStill Tryd.prog ops w Q [] a) := Sh.mk (wpStill_nil h)
set_option maxHeartbeats 4000000 in
theorem region9F {t0 t1 t4 t5 t7 t8 t9 t10 t11 t12 t13 t14 t15 t16 t17 t18 t19 t20 t21 t22 t23 t24 t25 t26 t27 t28 t29 t30 t31 t32 t33 t34 t35 t36 t37 t38 t39 t40 t41 t42 t43 t44 t45 t46 t47 t48 t49 t50 t51 t52 t53 t54 t55 t56 t57 t58 t59 t60 t61 t62 t63 t64 t65 t66 t67 t68 t69 t70 t71 t72 t73 t74 t75 t76 t77 t78 t79 t80 t81 t82 t83 t84 t85 t86 t87 t88 t89 t90 t91 t92 t93 t94 t95 t96 t97 t98 t99 t100 t101 t102 t103 t104 t105 t106 t107 t108 t109 t110 t111 t112 t113 t114 t115 t116 t117 t118 : Value} {Q : Exit → Act → World → Prop} (V : World) (b b' o o' k na nc g1 g2 l5 l6 k5 k6 : Nat) (q5 q6 : Option Addr) (ca cc : Nat) (vb vd : Value) (px py : Array Value) (E2 : Bool) (s5 s6 : ByteArray)
    (J1 : Bk V g1 25 #[.slice (some ⟨b, o, none⟩) na ca, vb]) (J2 : Bk V g2 25 #[.slice (some ⟨b', o', none⟩) nc cc, vd]) (j2 : (k : Int) < (na : Int)) (j3 : (k : Int) < (nc : Int))
    (kx : V.cell? ⟨b, o + k * 34 + 33, none⟩ = some (.slice q5 l5 k5)) (ky : V.cell? ⟨b', o' + k * 34 + 33, none⟩ = some (.slice q6 l6 k6))
    (hcx : (convert 33 9 (.slice q5 l5 k5)).run Tryd.prog V.drew = .ok (.string s5) V.drew) (hcy : (convert 33 9 (.slice q6 l6 k6)).run Tryd.prog V.drew = .ok (.string s6) V.drew)
    (HPX : Hid (V.drew.rangeAt b (o + k * 34) px.toList)) (HPY : Hid (V.drew.rangeAt b' (o' + k * 34) py.toList))
    (hgd : ∀ (a b : Operand) W, (eqGuard .eql 32 a b (.agg px) (.agg py)).run Tryd.prog W = .ok () W) (hbn : ∀ W, (binOp .eql 32 (.agg px) (.agg py)).run Tryd.prog W = .ok (.bool false) W)
    (hss : (s5.toList == s6.toList) = E2) (HPLX : Hid ((Tryd.prog.info? 32).map (·.size) = some px.toList.length)) (HPLY : Hid ((Tryd.prog.info? 32).map (·.size) = some py.toList.length))
    (hQ : ∀ (x46 x47 x48 x49 x50 x51 x52 x53 x54 x55 x56 x57 x58 x59 x60 x61 x62 x63 x64 x65 x66 x67 x68 x69 x70 x71 x72 x73 x74 x75 : Value), Q .normal { tmps := List.toArray (t0 :: t1 :: .pointer (some ⟨g1, 0, none⟩) :: .pointer (some ⟨g2, 0, none⟩) :: t4 :: .bool false :: .int .i64 (k : Int) :: t7 :: t8 :: t9 :: t10 :: t11 :: t12 :: t13 :: t14 :: t15 :: t16 :: t17 :: t18 :: t19 :: t20 :: t21 :: t22 :: t23 :: t24 :: t25 :: t26 :: t27 :: t28 :: t29 :: t30 :: t31 :: t32 :: t33 :: t34 :: t35 :: t36 :: t37 :: t38 :: t39 :: t40 :: t41 :: t42 :: t43 :: t44 :: t45 :: x46 :: x47 :: x48 :: x49 :: x50 :: x51 :: x52 :: x53 :: x54 :: x55 :: x56 :: x57 :: x58 :: x59 :: x60 :: x61 :: x62 :: x63 :: x64 :: x65 :: x66 :: x67 :: x68 :: x69 :: x70 :: x71 :: x72 :: x73 :: x74 :: x75 :: t76 :: t77 :: t78 :: t79 :: t80 :: t81 :: t82 :: t83 :: t84 :: t85 :: t86 :: t87 :: t88 :: t89 :: t90 :: t91 :: t92 :: t93 :: t94 :: t95 :: t96 :: t97 :: t98 :: t99 :: t100 :: t101 :: t102 :: t103 :: t104 :: t105 :: t106 :: t107 :: t108 :: t109 :: t110 :: t111 :: t112 :: t113 :: t114 :: t115 :: t116 :: t117 :: t118 :: []), defers := [] } V.drew) :
    Code.wp Tryd.prog (Code.region 9 #[{ dst := some 46, op := Op.fieldAddr 25 (Operand.tmp 2) 0, type := 0, pos := "law.go:137", after := #[], guard := none },
{ dst := some 47, op := Op.load 22 (Operand.tmp 46), type := 22, pos := "law.go:137", after := #[{ on := 0, ground := Ground.data }], guard := none },
{ dst := some 48, op := Op.move (Operand.tmp 6), type := 3, pos := "law.go:137", after := #[], guard := none },
{ dst := some 49, op := Op.indexAddr 22 (Operand.tmp 47) (Operand.tmp 48), type := 0, pos := "law.go:137", after := #[{ on := 1, ground := Ground.data }, { on := 2, ground := Ground.data }], guard := none },
{ dst := some 50, op := Op.fieldAddr 35 (Operand.tmp 49) 0, type := 0, pos := "law.go:137", after := #[{ on := 3, ground := Ground.data }], guard := none },
{ dst := some 51, op := Op.load 32 (Operand.tmp 50), type := 32, pos := "law.go:137", after := #[{ on := 4, ground := Ground.data }], guard := none },
{ dst := some 52, op := Op.fieldAddr 25 (Operand.tmp 3) 0, type := 0, pos := "law.go:137", after := #[], guard := none },
{ dst := some 53, op := Op.load 22 (Operand.tmp 52), type := 22, pos := "law.go:137", after := #[{ on := 6, ground := Ground.data }], guard := none },
{ dst := some 54, op := Op.move (Operand.tmp 6), type := 3, pos := "law.go:137", after := #[], guard := none },
{ dst := some 55, op := Op.indexAddr 22 (Operand.tmp 53) (Operand.tmp 54), type := 0, pos := "law.go:137", after := #[{ on := 7, ground := Ground.data }, { on := 8, ground := Ground.data }], guard := none },
{ dst := some 56, op := Op.fieldAddr 35 (Operand.tmp 55) 0, type := 0, pos := "law.go:137", after := #[{ on := 9, ground := Ground.data }], guard := none },
{ dst := some 57, op := Op.load 32 (Operand.tmp 56), type := 32, pos := "law.go:137", after := #[{ on := 10, ground := Ground.data }], guard := none },
{ dst := some 58, op := Op.binOp BinOp.eql 32 (Operand.tmp 51) (Operand.tmp 57) 32, type := 4, pos := "law.go:137", after := #[{ on := 5, ground := Ground.data }, { on := 11, ground := Ground.data }], guard := none },
{ dst := some 59, op := Op.move (Operand.tmp 58), type := 4, pos := "law.go:137", after := #[{ on := 12, ground := Ground.data }], guard := none },
{ dst := some 60, op := Op.fieldAddr 25 (Operand.tmp 2) 0, type := 0, pos := "law.go:137", after := #[{ on := 13, ground := Ground.guard }], guard := some (13, true) },
{ dst := some 61, op := Op.load 22 (Operand.tmp 60), type := 22, pos := "law.go:137", after := #[{ on := 14, ground := Ground.data }, { on := 13, ground := Ground.guard }], guard := some (13, true) },
{ dst := some 62, op := Op.move (Operand.tmp 6), type := 3, pos := "law.go:137", after := #[{ on := 13, ground := Ground.guard }], guard := some (13, true) },
{ dst := some 63, op := Op.indexAddr 22 (Operand.tmp 61) (Operand.tmp 62), type := 0, pos := "law.go:137", after := #[{ on := 15, ground := Ground.data }, { on := 16, ground := Ground.data }, { on := 13, ground := Ground.guard }], guard := some (13, true) },
{ dst := some 64, op := Op.fieldAddr 35 (Operand.tmp 63) 1, type := 0, pos := "law.go:137", after := #[{ on := 17, ground := Ground.data }, { on := 13, ground := Ground.guard }], guard := some (13, true) },
{ dst := some 65, op := Op.load 33 (Operand.tmp 64), type := 33, pos := "law.go:137", after := #[{ on := 18, ground := Ground.data }, { on := 13, ground := Ground.guard }], guard := some (13, true) },
{ dst := some 66, op := Op.convert 33 9 (Operand.tmp 65), type := 9, pos := "law.go:137", after := #[{ on := 19, ground := Ground.data }, { on := 13, ground := Ground.guard }], guard := some (13, true) },
{ dst := some 67, op := Op.fieldAddr 25 (Operand.tmp 3) 0, type := 0, pos := "law.go:137", after := #[{ on := 13, ground := Ground.guard }], guard := some (13, true) },
{ dst := some 68, op := Op.load 22 (Operand.tmp 67), type := 22, pos := "law.go:137", after := #[{ on := 21, ground := Ground.data }, { on := 13, ground := Ground.guard }], guard := some (13, true) },
{ dst := some 69, op := Op.move (Operand.tmp 6), type := 3, pos := "law.go:137", after := #[{ on := 13, ground := Ground.guard }], guard := some (13, true) },
{ dst := some 70, op := Op.indexAddr 22 (Operand.tmp 68) (Operand.tmp 69), type := 0, pos := "law.go:137", after := #[{ on := 22, ground := Ground.data }, { on := 23, ground := Ground.data }, { on := 13, ground := Ground.guard }], guard := some (13, true) },
{ dst := some 71, op := Op.fieldAddr 35 (Operand.tmp 70) 1, type := 0, pos := "law.go:137", after := #[{ on := 24, ground := Ground.data }, { on := 13, ground := Ground.guard }], guard := some (13, true) },
{ dst := some 72, op := Op.load 33 (Operand.tmp 71), type := 33, pos := "law.go:137", after := #[{ on := 25, ground := Ground.data }, { on := 13, ground := Ground.guard }], guard := some (13, true) },
{ dst := some 73, op := Op.convert 33 9 (Operand.tmp 72), type := 9, pos := "law.go:137", after := #[{ on := 26, ground := Ground.data }, { on := 13, ground := Ground.guard }], guard := some (13, true) },
{ dst := some 74, op := Op.binOp BinOp.eql 9 (Operand.tmp 66) (Operand.tmp 73) 9, type := 4, pos := "law.go:137", after := #[{ on := 20, ground := Ground.data }, { on := 27, ground := Ground.data }, { on := 13, ground := Ground.guard }], guard := some (13, true) },
{ dst := some 75, op := Op.pick (Operand.tmp 59) (Operand.tmp 74) (Operand.const (Value.bool false)), type := 4, pos := "law.go:137", after := #[{ on := 13, ground := Ground.data }, { on := 28, ground := Ground.data }], guard := none },
{ dst := some 5, op := Op.assign (Operand.tmp 75), type := 4, pos := "law.go:137", after := #[{ on := 29, ground := Ground.data }, { on := 13, ground := Ground.chain }, { on := 0, ground := Ground.phase }, { on := 1, ground := Ground.phase }, { on := 2, ground := Ground.phase }, { on := 3, ground := Ground.phase }, { on := 4, ground := Ground.phase }, { on := 5, ground := Ground.phase }, { on := 6, ground := Ground.phase }, { on := 7, ground := Ground.phase }, { on := 8, ground := Ground.phase }, { on := 9, ground := Ground.phase }, { on := 10, ground := Ground.phase }, { on := 11, ground := Ground.phase }, { on := 12, ground := Ground.phase }, { on := 13, ground := Ground.phase }, { on := 14, ground := Ground.phase }, { on := 15, ground := Ground.phase }, { on := 16, ground := Ground.phase }, { on := 17, ground := Ground.phase }, { on := 18, ground := Ground.phase }, { on := 19, ground := Ground.phase }, { on := 20, ground := Ground.phase }, { on := 21, ground := Ground.phase }, { on := 22, ground := Ground.phase }, { on := 23, ground := Ground.phase }, { on := 24, ground := Ground.phase }, { on := 25, ground := Ground.phase }, { on := 26, ground := Ground.phase }, { on := 27, ground := Ground.phase }, { on := 28, ground := Ground.phase }, { on := 29, ground := Ground.phase }], guard := none }] true) Q { tmps := List.toArray (t0 :: t1 :: .pointer (some ⟨g1, 0, none⟩) :: .pointer (some ⟨g2, 0, none⟩) :: t4 :: t5 :: .int .i64 (k : Int) :: t7 :: t8 :: t9 :: t10 :: t11 :: t12 :: t13 :: t14 :: t15 :: t16 :: t17 :: t18 :: t19 :: t20 :: t21 :: t22 :: t23 :: t24 :: t25 :: t26 :: t27 :: t28 :: t29 :: t30 :: t31 :: t32 :: t33 :: t34 :: t35 :: t36 :: t37 :: t38 :: t39 :: t40 :: t41 :: t42 :: t43 :: t44 :: t45 :: t46 :: t47 :: t48 :: t49 :: t50 :: t51 :: t52 :: t53 :: t54 :: t55 :: t56 :: t57 :: t58 :: t59 :: t60 :: t61 :: t62 :: t63 :: t64 :: t65 :: t66 :: t67 :: t68 :: t69 :: t70 :: t71 :: t72 :: t73 :: t74 :: t75 :: t76 :: t77 :: t78 :: t79 :: t80 :: t81 :: t82 :: t83 :: t84 :: t85 :: t86 :: t87 :: t88 :: t89 :: t90 :: t91 :: t92 :: t93 :: t94 :: t95 :: t96 :: t97 :: t98 :: t99 :: t100 :: t101 :: t102 :: t103 :: t104 :: t105 :: t106 :: t107 :: t108 :: t109 :: t110 :: t111 :: t112 :: t113 :: t114 :: t115 :: t116 :: t117 :: t118 :: []), defers := [] } V := by
  have c0 := J1.cell 0
  have d0 := J2.cell 0
  have z1 := J1.lt
  have z2 := J2.lt
  have HQ := Lib.hid hQ
  clear hQ J1 J2
  refine wp_region_still_lit (by kernel_rfl) (by kernel_rfl) ?_
  refine Sh.out ?_
  (refine hs_step (fun K hK => ?_)
   go_simp
   refine hK _ ?_
   clear hK K)
  (refine hs_step (fun K hK => ?_)
   go_simp
   refine hK _ ?_
   clear hK K)
  (refine hs_step (fun K hK => ?_)
   go_simp
   refine hK _ ?_
   clear hK K)
  (refine hs_step (fun K hK => ?_)
   go_simp
   refine hK _ ?_
   clear hK K)
  (refine hs_step (fun K hK => ?_)
   go_simp
   refine hK _ ?_
   clear hK K)
  (refine hs_load rfl 32 (.tmp 50) rfl b (o + k * 34) rfl px.toList px Array.toArray_toList _ HPX.out Tryd.underlying32 rfl HPLX.out (fun K hK => ?_)
   go_simp
   refine hK _ ?_
   clear hK K)
  (refine hs_step (fun K hK => ?_)
   go_simp
   refine hK _ ?_
   clear hK K)
  (refine hs_step (fun K hK => ?_)
   go_simp
   refine hK _ ?_
   clear hK K)
  (refine hs_step (fun K hK => ?_)
   go_simp
   refine hK _ ?_
   clear hK K)
  (refine hs_step (fun K hK => ?_)
   go_simp
   refine hK _ ?_
   clear hK K)
  (refine hs_step (fun K hK => ?_)
   go_simp
   refine hK _ ?_
   clear hK K)
  (refine hs_load rfl 32 (.tmp 56) rfl b' (o' + k * 34) rfl py.toList py Array.toArray_toList _ HPY.out Tryd.underlying32 rfl HPLY.out (fun K hK => ?_)
   go_simp
   refine hK _ ?_
   clear hK K)
  (refine hs_step (fun K hK => ?_)
   go_simp
   refine hK _ ?_
   clear hK K)
  (refine hs_step (fun K hK => ?_)
   go_simp
   refine hK _ ?_
   clear hK K)
  (refine hs_skip (by kernel_rfl) (fun K hK => ?_)
   go_simp
   refine hK _ ?_
   clear hK K)
  (refine hs_skip (by kernel_rfl) (fun K hK => ?_)
   go_simp
   refine hK _ ?_
   clear hK K)
  (refine hs_skip (by kernel_rfl) (fun K hK => ?_)
   go_simp
   refine hK _ ?_
   clear hK K)
  (refine hs_skip (by kernel_rfl) (fun K hK => ?_)
   go_simp
   refine hK _ ?_
   clear hK K)
  (refine hs_skip (by kernel_rfl) (fun K hK => ?_)
   go_simp
   refine hK _ ?_
   clear hK K)
  (refine hs_skip (by kernel_rfl) (fun K hK => ?_)
   go_simp
   refine hK _ ?_
   clear hK K)
  (refine hs_skip (by kernel_rfl) (fun K hK => ?_)
   go_simp
   refine hK _ ?_
   clear hK K)
  (refine hs_skip (by kernel_rfl) (fun K hK => ?_)
   go_simp
   refine hK _ ?_
   clear hK K)
  (refine hs_skip (by kernel_rfl) (fun K hK => ?_)
   go_simp
   refine hK _ ?_
   clear hK K)
  (refine hs_skip (by kernel_rfl) (fun K hK => ?_)
   go_simp
   refine hK _ ?_
   clear hK K)
  (refine hs_skip (by kernel_rfl) (fun K hK => ?_)
   go_simp
   refine hK _ ?_
   clear hK K)
  (refine hs_skip (by kernel_rfl) (fun K hK => ?_)
   go_simp
   refine hK _ ?_
   clear hK K)
  (refine hs_skip (by kernel_rfl) (fun K hK => ?_)
   go_simp
   refine hK _ ?_
   clear hK K)
  (refine hs_skip (by kernel_rfl) (fun K hK => ?_)
   go_simp
   refine hK _ ?_
   clear hK K)
  (refine hs_skip (by kernel_rfl) (fun K hK => ?_)
   go_simp
   refine hK _ ?_
   clear hK K)
  (refine hs_step (fun K hK => ?_)
   go_simp
   refine hK _ ?_
   clear hK K)
  (refine hs_step (fun K hK => ?_)
   go_simp
   refine hK _ ?_
   clear hK K)
  refine hs_nil ?_
  exact HQ.out _ _ _ _ _ _ _ _ _ _ _ _ _ _ _ _ _ _ _ _ _ _ _ _ _ _ _ _ _ _
set_option maxHeartbeats 4000000 in
theorem region9T {t0 t1 t4 t5 t7 t8 t9 t10 t11 t12 t13 t14 t15 t16 t17 t18 t19 t20 t21 t22 t23 t24 t25 t26 t27 t28 t29 t30 t31 t32 t33 t34 t35 t36 t37 t38 t39 t40 t41 t42 t43 t44 t45 t46 t47 t48 t49 t50 t51 t52 t53 t54 t55 t56 t57 t58 t59 t60 t61 t62 t63 t64 t65 t66 t67 t68 t69 t70 t71 t72 t73 t74 t75 t76 t77 t78 t79 t80 t81 t82 t83 t84 t85 t86 t87 t88 t89 t90 t91 t92 t93 t94 t95 t96 t97 t98 t99 t100 t101 t102 t103 t104 t105 t106 t107 t108 t109 t110 t111 t112 t113 t114 t115 t116 t117 t118 : Value} {Q : Exit → Act → World → Prop} (V : World) (b b' o o' k na nc g1 g2 l5 l6 k5 k6 : Nat) (q5 q6 : Option Addr) (ca cc : Nat) (vb vd : Value) (px py : Array Value) (E2 : Bool) (s5 s6 : ByteArray)
    (J1 : Bk V g1 25 #[.slice (some ⟨b, o, none⟩) na ca, vb]) (J2 : Bk V g2 25 #[.slice (some ⟨b', o', none⟩) nc cc, vd]) (j2 : (k : Int) < (na : Int)) (j3 : (k : Int) < (nc : Int))
    (kx : V.cell? ⟨b, o + k * 34 + 33, none⟩ = some (.slice q5 l5 k5)) (ky : V.cell? ⟨b', o' + k * 34 + 33, none⟩ = some (.slice q6 l6 k6))
    (hcx : (convert 33 9 (.slice q5 l5 k5)).run Tryd.prog V.drew = .ok (.string s5) V.drew) (hcy : (convert 33 9 (.slice q6 l6 k6)).run Tryd.prog V.drew = .ok (.string s6) V.drew)
    (HPX : Hid (V.drew.rangeAt b (o + k * 34) px.toList)) (HPY : Hid (V.drew.rangeAt b' (o' + k * 34) py.toList))
    (hgd : ∀ (a b : Operand) W, (eqGuard .eql 32 a b (.agg px) (.agg py)).run Tryd.prog W = .ok () W) (hbn : ∀ W, (binOp .eql 32 (.agg px) (.agg py)).run Tryd.prog W = .ok (.bool true) W)
    (hss : (s5.toList == s6.toList) = E2) (HPLX : Hid ((Tryd.prog.info? 32).map (·.size) = some px.toList.length)) (HPLY : Hid ((Tryd.prog.info? 32).map (·.size) = some py.toList.length))
    (hQ : ∀ (x46 x47 x48 x49 x50 x51 x52 x53 x54 x55 x56 x57 x58 x59 x60 x61 x62 x63 x64 x65 x66 x67 x68 x69 x70 x71 x72 x73 x74 x75 : Value), Q .normal { tmps := List.toArray (t0 :: t1 :: .pointer (some ⟨g1, 0, none⟩) :: .pointer (some ⟨g2, 0, none⟩) :: t4 :: .bool E2 :: .int .i64 (k : Int) :: t7 :: t8 :: t9 :: t10 :: t11 :: t12 :: t13 :: t14 :: t15 :: t16 :: t17 :: t18 :: t19 :: t20 :: t21 :: t22 :: t23 :: t24 :: t25 :: t26 :: t27 :: t28 :: t29 :: t30 :: t31 :: t32 :: t33 :: t34 :: t35 :: t36 :: t37 :: t38 :: t39 :: t40 :: t41 :: t42 :: t43 :: t44 :: t45 :: x46 :: x47 :: x48 :: x49 :: x50 :: x51 :: x52 :: x53 :: x54 :: x55 :: x56 :: x57 :: x58 :: x59 :: x60 :: x61 :: x62 :: x63 :: x64 :: x65 :: x66 :: x67 :: x68 :: x69 :: x70 :: x71 :: x72 :: x73 :: x74 :: x75 :: t76 :: t77 :: t78 :: t79 :: t80 :: t81 :: t82 :: t83 :: t84 :: t85 :: t86 :: t87 :: t88 :: t89 :: t90 :: t91 :: t92 :: t93 :: t94 :: t95 :: t96 :: t97 :: t98 :: t99 :: t100 :: t101 :: t102 :: t103 :: t104 :: t105 :: t106 :: t107 :: t108 :: t109 :: t110 :: t111 :: t112 :: t113 :: t114 :: t115 :: t116 :: t117 :: t118 :: []), defers := [] } V.drew) :
    Code.wp Tryd.prog (Code.region 9 #[{ dst := some 46, op := Op.fieldAddr 25 (Operand.tmp 2) 0, type := 0, pos := "law.go:137", after := #[], guard := none },
{ dst := some 47, op := Op.load 22 (Operand.tmp 46), type := 22, pos := "law.go:137", after := #[{ on := 0, ground := Ground.data }], guard := none },
{ dst := some 48, op := Op.move (Operand.tmp 6), type := 3, pos := "law.go:137", after := #[], guard := none },
{ dst := some 49, op := Op.indexAddr 22 (Operand.tmp 47) (Operand.tmp 48), type := 0, pos := "law.go:137", after := #[{ on := 1, ground := Ground.data }, { on := 2, ground := Ground.data }], guard := none },
{ dst := some 50, op := Op.fieldAddr 35 (Operand.tmp 49) 0, type := 0, pos := "law.go:137", after := #[{ on := 3, ground := Ground.data }], guard := none },
{ dst := some 51, op := Op.load 32 (Operand.tmp 50), type := 32, pos := "law.go:137", after := #[{ on := 4, ground := Ground.data }], guard := none },
{ dst := some 52, op := Op.fieldAddr 25 (Operand.tmp 3) 0, type := 0, pos := "law.go:137", after := #[], guard := none },
{ dst := some 53, op := Op.load 22 (Operand.tmp 52), type := 22, pos := "law.go:137", after := #[{ on := 6, ground := Ground.data }], guard := none },
{ dst := some 54, op := Op.move (Operand.tmp 6), type := 3, pos := "law.go:137", after := #[], guard := none },
{ dst := some 55, op := Op.indexAddr 22 (Operand.tmp 53) (Operand.tmp 54), type := 0, pos := "law.go:137", after := #[{ on := 7, ground := Ground.data }, { on := 8, ground := Ground.data }], guard := none },
{ dst := some 56, op := Op.fieldAddr 35 (Operand.tmp 55) 0, type := 0, pos := "law.go:137", after := #[{ on := 9, ground := Ground.data }], guard := none },
{ dst := some 57, op := Op.load 32 (Operand.tmp 56), type := 32, pos := "law.go:137", after := #[{ on := 10, ground := Ground.data }], guard := none },
{ dst := some 58, op := Op.binOp BinOp.eql 32 (Operand.tmp 51) (Operand.tmp 57) 32, type := 4, pos := "law.go:137", after := #[{ on := 5, ground := Ground.data }, { on := 11, ground := Ground.data }], guard := none },
{ dst := some 59, op := Op.move (Operand.tmp 58), type := 4, pos := "law.go:137", after := #[{ on := 12, ground := Ground.data }], guard := none },
{ dst := some 60, op := Op.fieldAddr 25 (Operand.tmp 2) 0, type := 0, pos := "law.go:137", after := #[{ on := 13, ground := Ground.guard }], guard := some (13, true) },
{ dst := some 61, op := Op.load 22 (Operand.tmp 60), type := 22, pos := "law.go:137", after := #[{ on := 14, ground := Ground.data }, { on := 13, ground := Ground.guard }], guard := some (13, true) },
{ dst := some 62, op := Op.move (Operand.tmp 6), type := 3, pos := "law.go:137", after := #[{ on := 13, ground := Ground.guard }], guard := some (13, true) },
{ dst := some 63, op := Op.indexAddr 22 (Operand.tmp 61) (Operand.tmp 62), type := 0, pos := "law.go:137", after := #[{ on := 15, ground := Ground.data }, { on := 16, ground := Ground.data }, { on := 13, ground := Ground.guard }], guard := some (13, true) },
{ dst := some 64, op := Op.fieldAddr 35 (Operand.tmp 63) 1, type := 0, pos := "law.go:137", after := #[{ on := 17, ground := Ground.data }, { on := 13, ground := Ground.guard }], guard := some (13, true) },
{ dst := some 65, op := Op.load 33 (Operand.tmp 64), type := 33, pos := "law.go:137", after := #[{ on := 18, ground := Ground.data }, { on := 13, ground := Ground.guard }], guard := some (13, true) },
{ dst := some 66, op := Op.convert 33 9 (Operand.tmp 65), type := 9, pos := "law.go:137", after := #[{ on := 19, ground := Ground.data }, { on := 13, ground := Ground.guard }], guard := some (13, true) },
{ dst := some 67, op := Op.fieldAddr 25 (Operand.tmp 3) 0, type := 0, pos := "law.go:137", after := #[{ on := 13, ground := Ground.guard }], guard := some (13, true) },
{ dst := some 68, op := Op.load 22 (Operand.tmp 67), type := 22, pos := "law.go:137", after := #[{ on := 21, ground := Ground.data }, { on := 13, ground := Ground.guard }], guard := some (13, true) },
{ dst := some 69, op := Op.move (Operand.tmp 6), type := 3, pos := "law.go:137", after := #[{ on := 13, ground := Ground.guard }], guard := some (13, true) },
{ dst := some 70, op := Op.indexAddr 22 (Operand.tmp 68) (Operand.tmp 69), type := 0, pos := "law.go:137", after := #[{ on := 22, ground := Ground.data }, { on := 23, ground := Ground.data }, { on := 13, ground := Ground.guard }], guard := some (13, true) },
{ dst := some 71, op := Op.fieldAddr 35 (Operand.tmp 70) 1, type := 0, pos := "law.go:137", after := #[{ on := 24, ground := Ground.data }, { on := 13, ground := Ground.guard }], guard := some (13, true) },
{ dst := some 72, op := Op.load 33 (Operand.tmp 71), type := 33, pos := "law.go:137", after := #[{ on := 25, ground := Ground.data }, { on := 13, ground := Ground.guard }], guard := some (13, true) },
{ dst := some 73, op := Op.convert 33 9 (Operand.tmp 72), type := 9, pos := "law.go:137", after := #[{ on := 26, ground := Ground.data }, { on := 13, ground := Ground.guard }], guard := some (13, true) },
{ dst := some 74, op := Op.binOp BinOp.eql 9 (Operand.tmp 66) (Operand.tmp 73) 9, type := 4, pos := "law.go:137", after := #[{ on := 20, ground := Ground.data }, { on := 27, ground := Ground.data }, { on := 13, ground := Ground.guard }], guard := some (13, true) },
{ dst := some 75, op := Op.pick (Operand.tmp 59) (Operand.tmp 74) (Operand.const (Value.bool false)), type := 4, pos := "law.go:137", after := #[{ on := 13, ground := Ground.data }, { on := 28, ground := Ground.data }], guard := none },
{ dst := some 5, op := Op.assign (Operand.tmp 75), type := 4, pos := "law.go:137", after := #[{ on := 29, ground := Ground.data }, { on := 13, ground := Ground.chain }, { on := 0, ground := Ground.phase }, { on := 1, ground := Ground.phase }, { on := 2, ground := Ground.phase }, { on := 3, ground := Ground.phase }, { on := 4, ground := Ground.phase }, { on := 5, ground := Ground.phase }, { on := 6, ground := Ground.phase }, { on := 7, ground := Ground.phase }, { on := 8, ground := Ground.phase }, { on := 9, ground := Ground.phase }, { on := 10, ground := Ground.phase }, { on := 11, ground := Ground.phase }, { on := 12, ground := Ground.phase }, { on := 13, ground := Ground.phase }, { on := 14, ground := Ground.phase }, { on := 15, ground := Ground.phase }, { on := 16, ground := Ground.phase }, { on := 17, ground := Ground.phase }, { on := 18, ground := Ground.phase }, { on := 19, ground := Ground.phase }, { on := 20, ground := Ground.phase }, { on := 21, ground := Ground.phase }, { on := 22, ground := Ground.phase }, { on := 23, ground := Ground.phase }, { on := 24, ground := Ground.phase }, { on := 25, ground := Ground.phase }, { on := 26, ground := Ground.phase }, { on := 27, ground := Ground.phase }, { on := 28, ground := Ground.phase }, { on := 29, ground := Ground.phase }], guard := none }] true) Q { tmps := List.toArray (t0 :: t1 :: .pointer (some ⟨g1, 0, none⟩) :: .pointer (some ⟨g2, 0, none⟩) :: t4 :: t5 :: .int .i64 (k : Int) :: t7 :: t8 :: t9 :: t10 :: t11 :: t12 :: t13 :: t14 :: t15 :: t16 :: t17 :: t18 :: t19 :: t20 :: t21 :: t22 :: t23 :: t24 :: t25 :: t26 :: t27 :: t28 :: t29 :: t30 :: t31 :: t32 :: t33 :: t34 :: t35 :: t36 :: t37 :: t38 :: t39 :: t40 :: t41 :: t42 :: t43 :: t44 :: t45 :: t46 :: t47 :: t48 :: t49 :: t50 :: t51 :: t52 :: t53 :: t54 :: t55 :: t56 :: t57 :: t58 :: t59 :: t60 :: t61 :: t62 :: t63 :: t64 :: t65 :: t66 :: t67 :: t68 :: t69 :: t70 :: t71 :: t72 :: t73 :: t74 :: t75 :: t76 :: t77 :: t78 :: t79 :: t80 :: t81 :: t82 :: t83 :: t84 :: t85 :: t86 :: t87 :: t88 :: t89 :: t90 :: t91 :: t92 :: t93 :: t94 :: t95 :: t96 :: t97 :: t98 :: t99 :: t100 :: t101 :: t102 :: t103 :: t104 :: t105 :: t106 :: t107 :: t108 :: t109 :: t110 :: t111 :: t112 :: t113 :: t114 :: t115 :: t116 :: t117 :: t118 :: []), defers := [] } V := by
  have c0 := J1.cell 0
  have d0 := J2.cell 0
  have z1 := J1.lt
  have z2 := J2.lt
  have HQ := Lib.hid hQ
  clear hQ J1 J2
  refine wp_region_still_lit (by kernel_rfl) (by kernel_rfl) ?_
  refine Sh.out ?_
  (refine hs_step (fun K hK => ?_)
   go_simp
   refine hK _ ?_
   clear hK K)
  (refine hs_step (fun K hK => ?_)
   go_simp
   refine hK _ ?_
   clear hK K)
  (refine hs_step (fun K hK => ?_)
   go_simp
   refine hK _ ?_
   clear hK K)
  (refine hs_step (fun K hK => ?_)
   go_simp
   refine hK _ ?_
   clear hK K)
  (refine hs_step (fun K hK => ?_)
   go_simp
   refine hK _ ?_
   clear hK K)
  (refine hs_load rfl 32 (.tmp 50) rfl b (o + k * 34) rfl px.toList px Array.toArray_toList _ HPX.out Tryd.underlying32 rfl HPLX.out (fun K hK => ?_)
   go_simp
   refine hK _ ?_
   clear hK K)
  (refine hs_step (fun K hK => ?_)
   go_simp
   refine hK _ ?_
   clear hK K)
  (refine hs_step (fun K hK => ?_)
   go_simp
   refine hK _ ?_
   clear hK K)
  (refine hs_step (fun K hK => ?_)
   go_simp
   refine hK _ ?_
   clear hK K)
  (refine hs_step (fun K hK => ?_)
   go_simp
   refine hK _ ?_
   clear hK K)
  (refine hs_step (fun K hK => ?_)
   go_simp
   refine hK _ ?_
   clear hK K)
  (refine hs_load rfl 32 (.tmp 56) rfl b' (o' + k * 34) rfl py.toList py Array.toArray_toList _ HPY.out Tryd.underlying32 rfl HPLY.out (fun K hK => ?_)
   go_simp
   refine hK _ ?_
   clear hK K)
  (refine hs_step (fun K hK => ?_)
   go_simp
   refine hK _ ?_
   clear hK K)
  (refine hs_step (fun K hK => ?_)
   go_simp
   refine hK _ ?_
   clear hK K)
  (refine hs_want (by kernel_rfl) (fun K hK => ?_)
   go_simp
   refine hK _ ?_
   clear hK K)
  (refine hs_want (by kernel_rfl) (fun K hK => ?_)
   go_simp
   refine hK _ ?_
   clear hK K)
  (refine hs_want (by kernel_rfl) (fun K hK => ?_)
   go_simp
   refine hK _ ?_
   clear hK K)
  (refine hs_want (by kernel_rfl) (fun K hK => ?_)
   go_simp
   refine hK _ ?_
   clear hK K)
  (refine hs_want (by kernel_rfl) (fun K hK => ?_)
   go_simp
   refine hK _ ?_
   clear hK K)
  (refine hs_want (by kernel_rfl) (fun K hK => ?_)
   go_simp
   refine hK _ ?_
   clear hK K)
  (refine hs_want (by kernel_rfl) (fun K hK => ?_)
   go_simp
   refine hK _ ?_
   clear hK K)
  (refine hs_want (by kernel_rfl) (fun K hK => ?_)
   go_simp
   refine hK _ ?_
   clear hK K)
  (refine hs_want (by kernel_rfl) (fun K hK => ?_)
   go_simp
   refine hK _ ?_
   clear hK K)
  (refine hs_want (by kernel_rfl) (fun K hK => ?_)
   go_simp
   refine hK _ ?_
   clear hK K)
  (refine hs_want (by kernel_rfl) (fun K hK => ?_)
   go_simp
   refine hK _ ?_
   clear hK K)
  (refine hs_want (by kernel_rfl) (fun K hK => ?_)
   go_simp
   refine hK _ ?_
   clear hK K)
  (refine hs_want (by kernel_rfl) (fun K hK => ?_)
   go_simp
   refine hK _ ?_
   clear hK K)
  (refine hs_want (by kernel_rfl) (fun K hK => ?_)
   go_simp
   refine hK _ ?_
   clear hK K)
  (refine hs_want (by kernel_rfl) (fun K hK => ?_)
   go_simp
   refine hK _ ?_
   clear hK K)
  (refine hs_step (fun K hK => ?_)
   go_simp
   refine hK _ ?_
   clear hK K)
  (refine hs_step (fun K hK => ?_)
   go_simp
   refine hK _ ?_
   clear hK K)
  refine hs_nil ?_
  exact HQ.out _ _ _ _ _ _ _ _ _ _ _ _ _ _ _ _ _ _ _ _ _ _ _ _ _ _ _ _ _ _
set_option maxHeartbeats 4000000 in
theorem region13 {t0 t1 t4 t5 t6 t8 t9 t10 t11 t12 t13 t14 t15 t16 t17 t18 t19 t20 t21 t22 t23 t24 t25 t26 t27 t28 t29 t30 t31 t32 t33 t34 t35 t36 t37 t38 t39 t40 t41 t42 t43 t44 t45 t46 t47 t48 t49 t50 t51 t52 t53 t54 t55 t56 t57 t58 t59 t60 t61 t62 t63 t64 t65 t66 t67 t68 t69 t70 t71 t72 t73 t74 t75 t76 t77 t78 t79 t80 t81 t82 t83 t84 t85 t86 t87 t88 t89 t90 t91 t92 t93 t94 t95 t96 t97 t98 t99 t100 t101 t102 t103 t104 t105 t106 t107 t108 t109 t110 t111 t112 t113 t114 t115 t116 t117 t118 : Value} {Q : Exit → Act → World → Prop} (V : World) (b b' o o' k nb nd g1 g2 : Nat) (cb cd : Nat) (va vc : Value) (px py : List Value) (E1 : Bool)
    (J1 : Bk V g1 25 #[va, .slice (some ⟨b, o, none⟩) nb cb]) (J2 : Bk V g2 25 #[vc, .slice (some ⟨b', o', none⟩) nd cd]) (j2 : (k : Int) < (nb : Int)) (j3 : (k : Int) < (nd : Int))
    (HPX : Hid (V.drew.rangeAt b (o + k * 33) px)) (HPY : Hid (V.drew.rangeAt b' (o' + k * 33) py))
    (hgd : ∀ (a b : Operand) W, (eqGuard .eql 37 a b (.agg px.toArray) (.agg py.toArray)).run Tryd.prog W = .ok () W) (hbn : ∀ W, (binOp .eql 37 (.agg px.toArray) (.agg py.toArray)).run Tryd.prog W = .ok (.bool E1) W)
    (HPLX : Hid ((Tryd.prog.info? 37).map (·.size) = some px.length)) (HPLY : Hid ((Tryd.prog.info? 37).map (·.size) = some py.length))
    (hQ : ∀ (x86 x87 x88 x89 x90 x91 x92 x93 x94 x95 x96 : Value), Q .normal { tmps := List.toArray (t0 :: t1 :: .pointer (some ⟨g1, 0, none⟩) :: .pointer (some ⟨g2, 0, none⟩) :: t4 :: .bool E1 :: t6 :: .int .i64 (k : Int) :: t8 :: t9 :: t10 :: t11 :: t12 :: t13 :: t14 :: t15 :: t16 :: t17 :: t18 :: t19 :: t20 :: t21 :: t22 :: t23 :: t24 :: t25 :: t26 :: t27 :: t28 :: t29 :: t30 :: t31 :: t32 :: t33 :: t34 :: t35 :: t36 :: t37 :: t38 :: t39 :: t40 :: t41 :: t42 :: t43 :: t44 :: t45 :: t46 :: t47 :: t48 :: t49 :: t50 :: t51 :: t52 :: t53 :: t54 :: t55 :: t56 :: t57 :: t58 :: t59 :: t60 :: t61 :: t62 :: t63 :: t64 :: t65 :: t66 :: t67 :: t68 :: t69 :: t70 :: t71 :: t72 :: t73 :: t74 :: t75 :: t76 :: t77 :: t78 :: t79 :: t80 :: t81 :: t82 :: t83 :: t84 :: t85 :: x86 :: x87 :: x88 :: x89 :: x90 :: x91 :: x92 :: x93 :: x94 :: x95 :: x96 :: t97 :: t98 :: t99 :: t100 :: t101 :: t102 :: t103 :: t104 :: t105 :: t106 :: t107 :: t108 :: t109 :: t110 :: t111 :: t112 :: t113 :: t114 :: t115 :: t116 :: t117 :: t118 :: []), defers := [] } V.drew) :
    Code.wp Tryd.prog (Code.region 13 #[{ dst := some 86, op := Op.fieldAddr 25 (Operand.tmp 2) 1, type := 0, pos := "law.go:140", after := #[], guard := none },
{ dst := some 87, op := Op.load 23 (Operand.tmp 86), type := 23, pos := "law.go:140", after := #[{ on := 0, ground := Ground.data }], guard := none },
{ dst := some 88, op := Op.move (Operand.tmp 7), type := 3, pos := "law.go:140", after := #[], guard := none },
{ dst := some 89, op := Op.indexAddr 23 (Operand.tmp 87) (Operand.tmp 88), type := 0, pos := "law.go:140", after := #[{ on := 1, ground := Ground.data }, { on := 2, ground := Ground.data }], guard := none },
{ dst := some 90, op := Op.load 37 (Operand.tmp 89), type := 37, pos := "law.go:140", after := #[{ on := 3, ground := Ground.data }], guard := none },
{ dst := some 91, op := Op.fieldAddr 25 (Operand.tmp 3) 1, type := 0, pos := "law.go:140", after := #[], guard := none },
{ dst := some 92, op := Op.load 23 (Operand.tmp 91), type := 23, pos := "law.go:140", after := #[{ on := 5, ground := Ground.data }], guard := none },
{ dst := some 93, op := Op.move (Operand.tmp 7), type := 3, pos := "law.go:140", after := #[], guard := none },
{ dst := some 94, op := Op.indexAddr 23 (Operand.tmp 92) (Operand.tmp 93), type := 0, pos := "law.go:140", after := #[{ on := 6, ground := Ground.data }, { on := 7, ground := Ground.data }], guard := none },
{ dst := some 95, op := Op.load 37 (Operand.tmp 94), type := 37, pos := "law.go:140", after := #[{ on := 8, ground := Ground.data }], guard := none },
{ dst := some 96, op := Op.binOp BinOp.eql 37 (Operand.tmp 90) (Operand.tmp 95) 37, type := 4, pos := "law.go:140", after := #[{ on := 4, ground := Ground.data }, { on := 9, ground := Ground.data }], guard := none },
{ dst := some 5, op := Op.assign (Operand.tmp 96), type := 4, pos := "law.go:140", after := #[{ on := 10, ground := Ground.data }, { on := 0, ground := Ground.phase }, { on := 1, ground := Ground.phase }, { on := 2, ground := Ground.phase }, { on := 3, ground := Ground.phase }, { on := 4, ground := Ground.phase }, { on := 5, ground := Ground.phase }, { on := 6, ground := Ground.phase }, { on := 7, ground := Ground.phase }, { on := 8, ground := Ground.phase }, { on := 9, ground := Ground.phase }, { on := 10, ground := Ground.phase }], guard := none }] true) Q { tmps := List.toArray (t0 :: t1 :: .pointer (some ⟨g1, 0, none⟩) :: .pointer (some ⟨g2, 0, none⟩) :: t4 :: t5 :: t6 :: .int .i64 (k : Int) :: t8 :: t9 :: t10 :: t11 :: t12 :: t13 :: t14 :: t15 :: t16 :: t17 :: t18 :: t19 :: t20 :: t21 :: t22 :: t23 :: t24 :: t25 :: t26 :: t27 :: t28 :: t29 :: t30 :: t31 :: t32 :: t33 :: t34 :: t35 :: t36 :: t37 :: t38 :: t39 :: t40 :: t41 :: t42 :: t43 :: t44 :: t45 :: t46 :: t47 :: t48 :: t49 :: t50 :: t51 :: t52 :: t53 :: t54 :: t55 :: t56 :: t57 :: t58 :: t59 :: t60 :: t61 :: t62 :: t63 :: t64 :: t65 :: t66 :: t67 :: t68 :: t69 :: t70 :: t71 :: t72 :: t73 :: t74 :: t75 :: t76 :: t77 :: t78 :: t79 :: t80 :: t81 :: t82 :: t83 :: t84 :: t85 :: t86 :: t87 :: t88 :: t89 :: t90 :: t91 :: t92 :: t93 :: t94 :: t95 :: t96 :: t97 :: t98 :: t99 :: t100 :: t101 :: t102 :: t103 :: t104 :: t105 :: t106 :: t107 :: t108 :: t109 :: t110 :: t111 :: t112 :: t113 :: t114 :: t115 :: t116 :: t117 :: t118 :: []), defers := [] } V := by
  have c1 := J1.cell 1
  have d1 := J2.cell 1
  have z1 := J1.lt
  have z2 := J2.lt
  have HQ := Lib.hid hQ
  clear hQ J1 J2
  refine wp_region_still_lit (by kernel_rfl) (by kernel_rfl) ?_
  refine Sh.out ?_
  (refine hs_step (fun K hK => ?_)
   go_simp
   refine hK _ ?_
   clear hK K)
  (refine hs_step (fun K hK => ?_)
   go_simp
   refine hK _ ?_
   clear hK K)
  (refine hs_step (fun K hK => ?_)
   go_simp
   refine hK _ ?_
   clear hK K)
  (refine hs_step (fun K hK => ?_)
   go_simp
   refine hK _ ?_
   clear hK K)
  (refine hs_load rfl 37 (.tmp 89) rfl b (o + k * 33) rfl px _ rfl _ HPX.out Tryd.underlying37 rfl HPLX.out (fun K hK => ?_)
   go_simp
   refine hK _ ?_
   clear hK K)
  (refine hs_step (fun K hK => ?_)
   go_simp
   refine hK _ ?_
   clear hK K)
  (refine hs_step (fun K hK => ?_)
   go_simp
   refine hK _ ?_
   clear hK K)
  (refine hs_step (fun K hK => ?_)
   go_simp
   refine hK _ ?_
   clear hK K)
  (refine hs_step (fun K hK => ?_)
   go_simp
   refine hK _ ?_
   clear hK K)
  (refine hs_load rfl 37 (.tmp 94) rfl b' (o' + k * 33) rfl py _ rfl _ HPY.out Tryd.underlying37 rfl HPLY.out (fun K hK => ?_)
   go_simp
   refine hK _ ?_
   clear hK K)
  (refine hs_step (fun K hK => ?_)
   go_simp
   refine hK _ ?_
   clear hK K)
  (refine hs_step (fun K hK => ?_)
   go_simp
   refine hK _ ?_
   clear hK K)
  refine hs_nil ?_
  exact HQ.out _ _ _ _ _ _ _ _ _ _ _
end Go.Proofs.YtokiinpegclffaaDoor.txApart
