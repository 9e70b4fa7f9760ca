/-
  Rows of texts, and a region of the law FrameRow.
-/
import Derived.Test.YtanefmjjbilmiaaDoorRowArg
namespace Go.Proofs.YtanefmjjbilmiaaDoor
open Go.ChangeShapes Go.WideShapes Go.ChangeAt Go.RowKit
set_option linter.unusedVariables false
set_option linter.unusedSimpArgs false
set_option maxRecDepth 100000
def strR : RowT (List Nat) := ⟨9, 52, 1, 16, fun l => [.string (strN l)], []⟩
theorem strR_facts : (Tryd.prog.info? 9).map (fun i => (i.zero.map (·.cells), i.size, i.bytes)) = some (some #[.string (strN [])], 1, 16) := by kernel_rfl
theorem strR_info : ∃ i v, Tryd.prog.info? 9 = some i ∧ i.zero = some v ∧ i.size = 1 ∧ i.bytes = 16 ∧ v.cells = #[.string (strN [])] := by
  obtain ⟨i, hi, hs⟩ := Option.map_eq_some_iff.1 strR_facts
  simp only [Prod.mk.injEq, Option.map_eq_some_iff] at hs
  obtain ⟨⟨v, hv, hc⟩, h1, h2⟩ := hs
  exact ⟨i, v, hi, hv, h1, h2, hc⟩
theorem strR_ok : strR.Ok where
  ht := Tryd.underlying52
  info := strR_info
  len := fun x => rfl
  one := fun x v hv => by
    rw [List.mem_singleton.1 hv]
    rfl
  pos := by decide
  bys := by decide
theorem str_list (s : ByteArray) : ∃ l : List Nat, (∀ x ∈ l, x < 256) ∧ s = strN l := by
  refine ⟨s.data.toList.map (·.toNat), fun x hx => ?_, ?_⟩
  · obtain ⟨b, _, rfl⟩ := List.mem_map.1 hx
    exact b.toNat_lt
  · apply byteArray_ext
    rw [strN_list, List.map_map]
    have : ((UInt8.ofNat ∘ fun x : UInt8 => x.toNat)) = id := by
      funext x
      simp
    rw [this, List.map_id]
theorem strs_arg {H : Type} {enc : TypeId × Value → H} {w : World} {base b0 : Nat} {spare : Nat → Bool} {held : Bool} {r : Reach} {v : Value} {d : DataW H} {p : List MemPlace}
    (hv : Value.okWide Tryd.prog w r b0 52 v) (h : DataW.Trod enc Tryd.prog w base spare held 52 v d p) : ∃ L : List (List Nat), RowV strR w w.heap.size v L ∧ ∀ l ∈ L, ∀ x ∈ l, x < 256 := by
  obtain ⟨s0, len, cap, rfl⟩ := okWide_slice Tryd.underlying52 hv
  obtain ⟨fuel, hf⟩ := h
  obtain ⟨s, L, c, h1, h2, h3⟩ := rowsF_trod strR_ok (fun l => ∀ x ∈ l, x < 256) (by kernel_rfl) (fun n cs d h1 h2 => by
    obtain ⟨s, e1, _⟩ := DataW.trod_string Tryd.underlying9 h2
    obtain ⟨l, hl, rfl⟩ := str_list s
    exact ⟨l, hl, e1⟩) hf
  simp [Value.cells] at h1
  obtain ⟨rfl, rfl, rfl⟩ := h1
  exact ⟨L, h2, h3⟩
def froR23_ops : Array Oper := #[{ dst := some 113, op := Op.fieldAddr 28 (Operand.tmp 17) 0, type := 0, pos := "law.go:177", after := #[], guard := none },
{ dst := some 114, op := Op.load 9 (Operand.tmp 113), type := 9, pos := "law.go:177", after := #[{ on := 0, ground := Ground.data }], guard := none },
{ dst := some 115, op := Op.binOp BinOp.add 9 (Operand.tmp 114) (Operand.const (Value.string { data := #[58] })) 9, type := 9, pos := "law.go:177", after := #[{ on := 1, ground := Ground.data }], guard := none },
{ dst := some 116, op := Op.fieldAddr 28 (Operand.tmp 17) 1, type := 0, pos := "law.go:177", after := #[], guard := none },
{ dst := some 117, op := Op.load 22 (Operand.tmp 116), type := 22, pos := "law.go:177", after := #[{ on := 3, ground := Ground.data }], guard := none },
{ dst := some 118, op := Op.convert 22 9 (Operand.tmp 117), type := 9, pos := "law.go:177", after := #[{ on := 4, ground := Ground.data }], guard := none },
{ dst := some 119, op := Op.binOp BinOp.add 9 (Operand.tmp 115) (Operand.tmp 118) 9, type := 9, pos := "law.go:177", after := #[{ on := 2, ground := Ground.data }, { on := 5, ground := Ground.data }], guard := none },
{ dst := some 120, op := Op.move (Operand.tmp 8), type := 52, pos := "law.go:177", after := #[], guard := none },
{ dst := some 121, op := Op.move (Operand.tmp 16), type := 3, pos := "law.go:177", after := #[], guard := none },
{ dst := some 122, op := Op.indexAddr 52 (Operand.tmp 120) (Operand.tmp 121), type := 0, pos := "law.go:177", after := #[{ on := 7, ground := Ground.data }, { on := 8, ground := Ground.data }], guard := none },
{ dst := some 123, op := Op.load 9 (Operand.tmp 122), type := 9, pos := "law.go:177", after := #[{ on := 9, ground := Ground.data }], guard := none },
{ dst := some 124, op := Op.binOp BinOp.neq 9 (Operand.tmp 119) (Operand.tmp 123) 9, type := 4, pos := "law.go:177", after := #[{ on := 6, ground := Ground.data }, { on := 10, ground := Ground.data }], guard := none }]
set_option maxRecDepth 100000 in
set_option maxHeartbeats 4000000 in
theorem froR23_o (g bw nw cw i n8 c8 : Nat) (s8 : Option Addr) (uw ud ut : ByteArray) (V : World) (t0 t1 t2 t3 t4 t5 t6 t7 t9 t10 t11 t12 t13 t14 t15 t18 t19 t20 t21 t22 t23 t24 t25 t26 t27 t28 t29 t30 t31 t32 t33 t34 t35 t36 t37 t38 t39 t40 t41 t42 t43 t44 t45 t46 t47 t48 t49 t50 t51 t52 t53 t54 t55 t56 t57 t58 t59 t60 t61 t62 t63 t64 t65 t66 t67 t68 t69 t70 t71 t72 t73 t74 t75 t76 t77 t78 t79 t80 t81 t82 t83 t84 t85 t86 t87 t88 t89 t90 t91 t92 t93 t94 t95 t96 t97 t98 t99 t100 t101 t102 t103 t104 t105 t106 t107 t108 t109 t110 t111 t112 t113 t114 t115 t116 t117 t118 t119 t120 t121 t122 t123 t124 t125 : Value) (Q : Exit → Act → World → Prop) (HP : Hid (Bk V g 28 #[.string uw, .slice s8 n8 c8])) (hz1 : uw.size ≤ 100) (hz2 : ud.size ≤ 1000) (hi : (i : Int) < (nw : Int)) (hi0 : (0 : Int) ≤ (i : Int)) (hin : i < nw) (hbw : bw < V.heap.size) (hcw : V.cell? ⟨bw, i, none⟩ = some (.string ut)) (hE : (((uw ++ ⟨#[58]⟩) ++ ud).toList == ut.toList) = true) (HV : Hid (∀ w, Below V.heap.size V w → (convert 22 9 (.slice s8 n8 c8)).run Tryd.prog w = .ok (.string ud) w)) (HQ : Hid (∀ (x113 x114 x115 x116 x117 x118 x119 x120 x121 x122 x123 : Value)  (w' : World), Below V.heap.size V w' → Q .normal { tmps := List.toArray (t0 :: t1 :: t2 :: t3 :: t4 :: t5 :: t6 :: t7 :: .slice (some ⟨bw, 0, none⟩) nw cw :: t9 :: t10 :: t11 :: t12 :: t13 :: t14 :: t15 :: .int .i64 (i : Int) :: .pointer (some ⟨g, 0, none⟩) :: t18 :: t19 :: t20 :: t21 :: t22 :: t23 :: t24 :: t25 :: t26 :: t27 :: t28 :: t29 :: t30 :: t31 :: t32 :: t33 :: t34 :: t35 :: t36 :: t37 :: t38 :: t39 :: t40 :: t41 :: t42 :: t43 :: t44 :: t45 :: t46 :: t47 :: t48 :: t49 :: t50 :: t51 :: t52 :: t53 :: t54 :: t55 :: t56 :: t57 :: t58 :: t59 :: t60 :: t61 :: t62 :: t63 :: t64 :: t65 :: t66 :: t67 :: t68 :: t69 :: t70 :: t71 :: t72 :: t73 :: t74 :: t75 :: t76 :: t77 :: t78 :: t79 :: t80 :: t81 :: t82 :: t83 :: t84 :: t85 :: t86 :: t87 :: t88 :: t89 :: t90 :: t91 :: t92 :: t93 :: t94 :: t95 :: t96 :: t97 :: t98 :: t99 :: t100 :: t101 :: t102 :: t103 :: t104 :: t105 :: t106 :: t107 :: t108 :: t109 :: t110 :: t111 :: t112 :: x113 :: x114 :: x115 :: x116 :: x117 :: x118 :: x119 :: x120 :: x121 :: x122 :: x123 :: .bool false :: t125 :: []), defers := [] } w')) (w : World) (hB : Below V.heap.size V w) :
    wpAnyH Tryd.prog .any froR23_ops (NoPanic Q) (fun w' => Below V.heap.size V w') 0 #[true, true, true, true, true, true, true, true, true, true, true, true] { tmps := List.toArray (t0 :: t1 :: t2 :: t3 :: t4 :: t5 :: t6 :: t7 :: .slice (some ⟨bw, 0, none⟩) nw cw :: t9 :: t10 :: t11 :: t12 :: t13 :: t14 :: t15 :: .int .i64 (i : Int) :: .pointer (some ⟨g, 0, none⟩) :: t18 :: t19 :: t20 :: t21 :: t22 :: t23 :: t24 :: t25 :: t26 :: t27 :: t28 :: t29 :: t30 :: t31 :: t32 :: t33 :: t34 :: t35 :: t36 :: t37 :: t38 :: t39 :: t40 :: t41 :: t42 :: t43 :: t44 :: t45 :: t46 :: t47 :: t48 :: t49 :: t50 :: t51 :: t52 :: t53 :: t54 :: t55 :: t56 :: t57 :: t58 :: t59 :: t60 :: t61 :: t62 :: t63 :: t64 :: t65 :: t66 :: t67 :: t68 :: t69 :: t70 :: t71 :: t72 :: t73 :: t74 :: t75 :: t76 :: t77 :: t78 :: t79 :: t80 :: t81 :: t82 :: t83 :: t84 :: t85 :: t86 :: t87 :: t88 :: t89 :: t90 :: t91 :: t92 :: t93 :: t94 :: t95 :: t96 :: t97 :: t98 :: t99 :: t100 :: t101 :: t102 :: t103 :: t104 :: t105 :: t106 :: t107 :: t108 :: t109 :: t110 :: t111 :: t112 :: .pointer (some ⟨g, 0, none⟩) :: .string uw :: .string (uw ++ ⟨#[58]⟩) :: .pointer (some ⟨g, 1, none⟩) :: .slice s8 n8 c8 :: .string ud :: .string ((uw ++ ⟨#[58]⟩) ++ ud) :: .slice (some ⟨bw, 0, none⟩) nw cw :: .int .i64 (i : Int) :: .pointer (some ⟨bw, i, none⟩) :: .string ut :: .bool false :: t125 :: []), defers := [] } w := by
  refine wpAnyH_done (by kernel_rfl) ?_ _
  refine NoPanic.normal ?_
  have hEnd := HQ.out (.pointer (some ⟨g, 0, none⟩)) (.string uw) (.string (uw ++ ⟨#[58]⟩)) (.pointer (some ⟨g, 1, none⟩)) (.slice s8 n8 c8) (.string ud) (.string ((uw ++ ⟨#[58]⟩) ++ ud)) (.slice (some ⟨bw, 0, none⟩) nw cw) (.int .i64 (i : Int)) (.pointer (some ⟨bw, i, none⟩)) (.string ut) w hB
  exact hEnd

set_option maxRecDepth 100000 in
set_option maxHeartbeats 4000000 in
theorem froR23 (g bw nw cw i n8 c8 : Nat) (s8 : Option Addr) (uw ud ut : ByteArray) (V : World) (t0 t1 t2 t3 t4 t5 t6 t7 t9 t10 t11 t12 t13 t14 t15 t18 t19 t20 t21 t22 t23 t24 t25 t26 t27 t28 t29 t30 t31 t32 t33 t34 t35 t36 t37 t38 t39 t40 t41 t42 t43 t44 t45 t46 t47 t48 t49 t50 t51 t52 t53 t54 t55 t56 t57 t58 t59 t60 t61 t62 t63 t64 t65 t66 t67 t68 t69 t70 t71 t72 t73 t74 t75 t76 t77 t78 t79 t80 t81 t82 t83 t84 t85 t86 t87 t88 t89 t90 t91 t92 t93 t94 t95 t96 t97 t98 t99 t100 t101 t102 t103 t104 t105 t106 t107 t108 t109 t110 t111 t112 t113 t114 t115 t116 t117 t118 t119 t120 t121 t122 t123 t124 t125 : Value) (Q : Exit → Act → World → Prop) (HP : Hid (Bk V g 28 #[.string uw, .slice s8 n8 c8])) (hz1 : uw.size ≤ 100) (hz2 : ud.size ≤ 1000) (hi : (i : Int) < (nw : Int)) (hi0 : (0 : Int) ≤ (i : Int)) (hin : i < nw) (hbw : bw < V.heap.size) (hcw : V.cell? ⟨bw, i, none⟩ = some (.string ut)) (hE : (((uw ++ ⟨#[58]⟩) ++ ud).toList == ut.toList) = true) (HV : Hid (∀ w, Below V.heap.size V w → (convert 22 9 (.slice s8 n8 c8)).run Tryd.prog w = .ok (.string ud) w)) (HQ : Hid (∀ (x113 x114 x115 x116 x117 x118 x119 x120 x121 x122 x123 : Value)  (w' : World), Below V.heap.size V w' → Q .normal { tmps := List.toArray (t0 :: t1 :: t2 :: t3 :: t4 :: t5 :: t6 :: t7 :: .slice (some ⟨bw, 0, none⟩) nw cw :: t9 :: t10 :: t11 :: t12 :: t13 :: t14 :: t15 :: .int .i64 (i : Int) :: .pointer (some ⟨g, 0, none⟩) :: t18 :: t19 :: t20 :: t21 :: t22 :: t23 :: t24 :: t25 :: t26 :: t27 :: t28 :: t29 :: t30 :: t31 :: t32 :: t33 :: t34 :: t35 :: t36 :: t37 :: t38 :: t39 :: t40 :: t41 :: t42 :: t43 :: t44 :: t45 :: t46 :: t47 :: t48 :: t49 :: t50 :: t51 :: t52 :: t53 :: t54 :: t55 :: t56 :: t57 :: t58 :: t59 :: t60 :: t61 :: t62 :: t63 :: t64 :: t65 :: t66 :: t67 :: t68 :: t69 :: t70 :: t71 :: t72 :: t73 :: t74 :: t75 :: t76 :: t77 :: t78 :: t79 :: t80 :: t81 :: t82 :: t83 :: t84 :: t85 :: t86 :: t87 :: t88 :: t89 :: t90 :: t91 :: t92 :: t93 :: t94 :: t95 :: t96 :: t97 :: t98 :: t99 :: t100 :: t101 :: t102 :: t103 :: t104 :: t105 :: t106 :: t107 :: t108 :: t109 :: t110 :: t111 :: t112 :: x113 :: x114 :: x115 :: x116 :: x117 :: x118 :: x119 :: x120 :: x121 :: x122 :: x123 :: .bool false :: t125 :: []), defers := [] } w')) :
    Code.wp Tryd.prog (Code.region 23 #[{ dst := some 113, op := Op.fieldAddr 28 (Operand.tmp 17) 0, type := 0, pos := "law.go:177", after := #[], guard := none },
{ dst := some 114, op := Op.load 9 (Operand.tmp 113), type := 9, pos := "law.go:177", after := #[{ on := 0, ground := Ground.data }], guard := none },
{ dst := some 115, op := Op.binOp BinOp.add 9 (Operand.tmp 114) (Operand.const (Value.string { data := #[58] })) 9, type := 9, pos := "law.go:177", after := #[{ on := 1, ground := Ground.data }], guard := none },
{ dst := some 116, op := Op.fieldAddr 28 (Operand.tmp 17) 1, type := 0, pos := "law.go:177", after := #[], guard := none },
{ dst := some 117, op := Op.load 22 (Operand.tmp 116), type := 22, pos := "law.go:177", after := #[{ on := 3, ground := Ground.data }], guard := none },
{ dst := some 118, op := Op.convert 22 9 (Operand.tmp 117), type := 9, pos := "law.go:177", after := #[{ on := 4, ground := Ground.data }], guard := none },
{ dst := some 119, op := Op.binOp BinOp.add 9 (Operand.tmp 115) (Operand.tmp 118) 9, type := 9, pos := "law.go:177", after := #[{ on := 2, ground := Ground.data }, { on := 5, ground := Ground.data }], guard := none },
{ dst := some 120, op := Op.move (Operand.tmp 8), type := 52, pos := "law.go:177", after := #[], guard := none },
{ dst := some 121, op := Op.move (Operand.tmp 16), type := 3, pos := "law.go:177", after := #[], guard := none },
{ dst := some 122, op := Op.indexAddr 52 (Operand.tmp 120) (Operand.tmp 121), type := 0, pos := "law.go:177", after := #[{ on := 7, ground := Ground.data }, { on := 8, ground := Ground.data }], guard := none },
{ dst := some 123, op := Op.load 9 (Operand.tmp 122), type := 9, pos := "law.go:177", after := #[{ on := 9, ground := Ground.data }], guard := none },
{ dst := some 124, op := Op.binOp BinOp.neq 9 (Operand.tmp 119) (Operand.tmp 123) 9, type := 4, pos := "law.go:177", after := #[{ on := 6, ground := Ground.data }, { on := 10, ground := Ground.data }], guard := none }] true) Q { tmps := List.toArray (t0 :: t1 :: t2 :: t3 :: t4 :: t5 :: t6 :: t7 :: .slice (some ⟨bw, 0, none⟩) nw cw :: t9 :: t10 :: t11 :: t12 :: t13 :: t14 :: t15 :: .int .i64 (i : Int) :: .pointer (some ⟨g, 0, none⟩) :: t18 :: t19 :: t20 :: t21 :: t22 :: t23 :: t24 :: t25 :: t26 :: t27 :: t28 :: t29 :: t30 :: t31 :: t32 :: t33 :: t34 :: t35 :: t36 :: t37 :: t38 :: t39 :: t40 :: t41 :: t42 :: t43 :: t44 :: t45 :: t46 :: t47 :: t48 :: t49 :: t50 :: t51 :: t52 :: t53 :: t54 :: t55 :: t56 :: t57 :: t58 :: t59 :: t60 :: t61 :: t62 :: t63 :: t64 :: t65 :: t66 :: t67 :: t68 :: t69 :: t70 :: t71 :: t72 :: t73 :: t74 :: t75 :: t76 :: t77 :: t78 :: t79 :: t80 :: t81 :: t82 :: t83 :: t84 :: t85 :: t86 :: t87 :: t88 :: t89 :: t90 :: t91 :: t92 :: t93 :: t94 :: t95 :: t96 :: t97 :: t98 :: t99 :: t100 :: t101 :: t102 :: t103 :: t104 :: t105 :: t106 :: t107 :: t108 :: t109 :: t110 :: t111 :: t112 :: t113 :: t114 :: t115 :: t116 :: t117 :: t118 :: t119 :: t120 :: t121 :: t122 :: t123 :: t124 :: t125 :: []), defers := [] } V := by
  refine wp_region_noPanic ?_
  refine wp_region_held_drew (S := (fun w' => Below V.heap.size V w')) (by kernel_rfl) ((Below.refl _ _).drew) (fun hHeld => ?_)
  have hB : Below V.heap.size V V.drew := ((Below.refl _ _).drew)
  show wpAnyH _ _ froR23_ops _ _ 12 _ _ _
  refine wpAnyH_take (i := 0) (oi := { dst := some 113, op := Op.fieldAddr 28 (Operand.tmp 17) 0, type := 0, pos := "law.go:177", after := #[], guard := none }) (v := .pointer (some ⟨g, 0, none⟩)) rfl (by kernel_rfl) (by kernel_rfl) (by kernel_rfl) (fun _ _ _ h => h) ?_ hB ?_
  · (refine Or.inl ⟨by kernel_rfl, ?_⟩; intro w hSw; go_simp)
  simp only [Act.put, List.setIfInBounds_toArray, List.set_cons_zero, List.set_cons_succ]
  refine wpAnyH_take (i := 1) (oi := { dst := some 114, op := Op.load 9 (Operand.tmp 113), type := 9, pos := "law.go:177", after := #[{ on := 0, ground := Ground.data }], guard := none }) (v := .string uw) rfl (by kernel_rfl) (by kernel_rfl) (by kernel_rfl) (fun _ _ _ h => h) ?_ hB ?_
  · (refine Or.inl ⟨by kernel_rfl, ?_⟩; intro w hSw; have h1 := (Bk.below HP.out hSw HP.out.lt).cell 0; have h3 := (Bk.below HP.out hSw HP.out.lt).cell 1; have h2 := (Bk.below HP.out hSw HP.out.lt).lt; go_simp)
  simp only [Act.put, List.setIfInBounds_toArray, List.set_cons_zero, List.set_cons_succ]
  refine wpAnyH_take (i := 2) (oi := { dst := some 115, op := Op.binOp BinOp.add 9 (Operand.tmp 114) (Operand.const (Value.string { data := #[58] })) 9, type := 9, pos := "law.go:177", after := #[{ on := 1, ground := Ground.data }], guard := none }) (v := .string (uw ++ ⟨#[58]⟩)) rfl (by kernel_rfl) (by kernel_rfl) (by kernel_rfl) (fun _ _ _ h => h) ?_ hB ?_
  · (refine Or.inl ⟨by kernel_rfl, ?_⟩; intro w hSw; have h0 := hz1; have h9 := hz2; go_simp; omega)
  simp only [Act.put, List.setIfInBounds_toArray, List.set_cons_zero, List.set_cons_succ]
  refine wpAnyH_take (i := 3) (oi := { dst := some 116, op := Op.fieldAddr 28 (Operand.tmp 17) 1, type := 0, pos := "law.go:177", after := #[], guard := none }) (v := .pointer (some ⟨g, 1, none⟩)) rfl (by kernel_rfl) (by kernel_rfl) (by kernel_rfl) (fun _ _ _ h => h) ?_ hB ?_
  · (refine Or.inl ⟨by kernel_rfl, ?_⟩; intro w hSw; go_simp)
  simp only [Act.put, List.setIfInBounds_toArray, List.set_cons_zero, List.set_cons_succ]
  refine wpAnyH_take (i := 4) (oi := { dst := some 117, op := Op.load 22 (Operand.tmp 116), type := 22, pos := "law.go:177", after := #[{ on := 3, ground := Ground.data }], guard := none }) (v := .slice s8 n8 c8) rfl (by kernel_rfl) (by kernel_rfl) (by kernel_rfl) (fun _ _ _ h => h) ?_ hB ?_
  · (refine Or.inl ⟨by kernel_rfl, ?_⟩; intro w hSw; have h1 := (Bk.below HP.out hSw HP.out.lt).cell 0; have h3 := (Bk.below HP.out hSw HP.out.lt).cell 1; have h2 := (Bk.below HP.out hSw HP.out.lt).lt; go_simp)
  simp only [Act.put, List.setIfInBounds_toArray, List.set_cons_zero, List.set_cons_succ]
  refine wpAnyH_take (i := 5) (oi := { dst := some 118, op := Op.convert 22 9 (Operand.tmp 117), type := 9, pos := "law.go:177", after := #[{ on := 4, ground := Ground.data }], guard := none }) (v := .string ud) rfl (by kernel_rfl) (by kernel_rfl) (by kernel_rfl) (fun _ _ _ h => h) ?_ hB ?_
  · (refine Or.inl ⟨by kernel_rfl, ?_⟩; intro w hSw; have h1 := HV.out w hSw; go_simp)
  simp only [Act.put, List.setIfInBounds_toArray, List.set_cons_zero, List.set_cons_succ]
  refine wpAnyH_take (i := 6) (oi := { dst := some 119, op := Op.binOp BinOp.add 9 (Operand.tmp 115) (Operand.tmp 118) 9, type := 9, pos := "law.go:177", after := #[{ on := 2, ground := Ground.data }, { on := 5, ground := Ground.data }], guard := none }) (v := .string ((uw ++ ⟨#[58]⟩) ++ ud)) rfl (by kernel_rfl) (by kernel_rfl) (by kernel_rfl) (fun _ _ _ h => h) ?_ hB ?_
  · (refine Or.inl ⟨by kernel_rfl, ?_⟩; intro w hSw; have h0 := hz1; have h9 := hz2; have h10 : (⟨#[58]⟩ : ByteArray).size = 1 := rfl; go_simp; omega)
  simp only [Act.put, List.setIfInBounds_toArray, List.set_cons_zero, List.set_cons_succ]
  refine wpAnyH_take (i := 7) (oi := { dst := some 120, op := Op.move (Operand.tmp 8), type := 52, pos := "law.go:177", after := #[], guard := none }) (v := .slice (some ⟨bw, 0, none⟩) nw cw) rfl (by kernel_rfl) (by kernel_rfl) (by kernel_rfl) (fun _ _ _ h => h) ?_ hB ?_
  · (refine Or.inl ⟨by kernel_rfl, ?_⟩; intro w hSw; go_simp)
  simp only [Act.put, List.setIfInBounds_toArray, List.set_cons_zero, List.set_cons_succ]
  refine wpAnyH_take (i := 8) (oi := { dst := some 121, op := Op.move (Operand.tmp 16), type := 3, pos := "law.go:177", after := #[], guard := none }) (v := .int .i64 (i : Int)) rfl (by kernel_rfl) (by kernel_rfl) (by kernel_rfl) (fun _ _ _ h => h) ?_ hB ?_
  · (refine Or.inl ⟨by kernel_rfl, ?_⟩; intro w hSw; go_simp)
  simp only [Act.put, List.setIfInBounds_toArray, List.set_cons_zero, List.set_cons_succ]
  refine wpAnyH_take (i := 9) (oi := { dst := some 122, op := Op.indexAddr 52 (Operand.tmp 120) (Operand.tmp 121), type := 0, pos := "law.go:177", after := #[{ on := 7, ground := Ground.data }, { on := 8, ground := Ground.data }], guard := none }) (v := .pointer (some ⟨bw, i, none⟩)) rfl (by kernel_rfl) (by kernel_rfl) (by kernel_rfl) (fun _ _ _ h => h) ?_ hB ?_
  · (refine Or.inl ⟨by kernel_rfl, ?_⟩; intro w hSw; have h5 := (hSw.cell (p := ⟨bw, i, none⟩) hbw).trans hcw; have h6 := Nat.lt_of_lt_of_le hbw hSw.size; have h7 := hi; have h8 := hi0; have h9 := hin; go_simp)
  simp only [Act.put, List.setIfInBounds_toArray, List.set_cons_zero, List.set_cons_succ]
  refine wpAnyH_take (i := 10) (oi := { dst := some 123, op := Op.load 9 (Operand.tmp 122), type := 9, pos := "law.go:177", after := #[{ on := 9, ground := Ground.data }], guard := none }) (v := .string ut) rfl (by kernel_rfl) (by kernel_rfl) (by kernel_rfl) (fun _ _ _ h => h) ?_ hB ?_
  · (refine Or.inl ⟨by kernel_rfl, ?_⟩; intro w hSw; have h5 := (hSw.cell (p := ⟨bw, i, none⟩) hbw).trans hcw; have h6 := Nat.lt_of_lt_of_le hbw hSw.size; have h7 := hi; have h8 := hi0; have h9 := hin; go_simp)
  simp only [Act.put, List.setIfInBounds_toArray, List.set_cons_zero, List.set_cons_succ]
  refine wpAnyH_take (i := 11) (oi := { dst := some 124, op := Op.binOp BinOp.neq 9 (Operand.tmp 119) (Operand.tmp 123) 9, type := 4, pos := "law.go:177", after := #[{ on := 6, ground := Ground.data }, { on := 10, ground := Ground.data }], guard := none }) (v := .bool false) rfl (by kernel_rfl) (by kernel_rfl) (by kernel_rfl) (fun _ _ _ h => h) ?_ hB ?_
  · (refine Or.inl ⟨by kernel_rfl, ?_⟩; intro w hSw; have h0 := hE; go_simp)
  simp only [Act.put, List.setIfInBounds_toArray, List.set_cons_zero, List.set_cons_succ]
  exact froR23_o g bw nw cw i n8 c8 s8 uw ud ut V t0 t1 t2 t3 t4 t5 t6 t7 t9 t10 t11 t12 t13 t14 t15 t18 t19 t20 t21 t22 t23 t24 t25 t26 t27 t28 t29 t30 t31 t32 t33 t34 t35 t36 t37 t38 t39 t40 t41 t42 t43 t44 t45 t46 t47 t48 t49 t50 t51 t52 t53 t54 t55 t56 t57 t58 t59 t60 t61 t62 t63 t64 t65 t66 t67 t68 t69 t70 t71 t72 t73 t74 t75 t76 t77 t78 t79 t80 t81 t82 t83 t84 t85 t86 t87 t88 t89 t90 t91 t92 t93 t94 t95 t96 t97 t98 t99 t100 t101 t102 t103 t104 t105 t106 t107 t108 t109 t110 t111 t112 t113 t114 t115 t116 t117 t118 t119 t120 t121 t122 t123 t124 t125 Q HP hz1 hz2 hi hi0 hin hbw hcw hE HV HQ _ hB

/-- The bytes of frames, one behind the other, make those frames. -/
def encAll (F : List (List Nat × List Nat)) : List Nat := F.flatMap fun p => encL p.1 p.2
theorem encAll_feed (F : List (List Nat × List Nat)) : ∀ o, (∀ p ∈ F, WordOk p.1 ∧ p.2.length ≤ 16384 ∧ ∀ x ∈ p.2, x < 256) → feedL ⟨[], 0, o⟩ (encAll F) = ⟨[], 0, o ++ F⟩ := by
  induction F with
  | nil => intro o _; rw [List.append_nil]; rfl
  | cons p F ih =>
    intro o h
    have hp := h p List.mem_cons_self
    have hF : ∀ q ∈ F, WordOk q.1 ∧ q.2.length ≤ 16384 ∧ ∀ x ∈ q.2, x < 256 := fun q hq => h q (List.mem_cons_of_mem _ hq)
    have hr : ∀ x ∈ encAll F, x < 256 := fun x hx => by
      obtain ⟨q, hq, hx⟩ := List.mem_flatMap.1 hx
      exact encL_lt _ _ (fun y hy => (word_lt (hF q hq).1 y hy).1) (hF q hq).2.2 x hx
    show feedL _ (encL p.1 p.2 ++ encAll F) = _
    rw [feed_enc p.1 p.2 o (encAll F) hp.1 hp.2.1 hp.2.2 hr, ih _ hF, List.append_assoc]
    rfl
theorem encAll_lt (F : List (List Nat × List Nat)) (h : ∀ p ∈ F, WordOk p.1 ∧ p.2.length ≤ 16384 ∧ ∀ x ∈ p.2, x < 256) : ∀ x ∈ encAll F, x < 256 := fun x hx => by
  obtain ⟨q, hq, hx⟩ := List.mem_flatMap.1 hx
  exact encL_lt _ _ (fun y hy => (word_lt (h q hq).1 y hy).1) (h q hq).2.2 x hx
theorem encAll_len (F : List (List Nat × List Nat)) (h : ∀ p ∈ F, WordOk p.1 ∧ p.2.length ≤ 300) : (encAll F).length ≤ 324 * F.length := by
  induction F with
  | nil => exact Nat.le_refl _
  | cons p F ih =>
    have hp := h p List.mem_cons_self
    show (encL p.1 p.2 ++ encAll F).length ≤ _
    rw [List.length_append, encL_len _ _ hp.1.2.1, List.length_cons]
    have := ih (fun q hq => h q (List.mem_cons_of_mem _ hq))
    omega
end Go.Proofs.YtanefmjjbilmiaaDoor
