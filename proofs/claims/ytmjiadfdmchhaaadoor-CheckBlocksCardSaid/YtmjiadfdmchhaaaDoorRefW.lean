/-
  The first sixteen words of a block, in the walk through the document's Sum.
-/
import Derived.Test.YtmjiadfdmchhaaaDoorRefY
import Derived.Deep.RegionLaw
namespace Go.Proofs.YtmjiadfdmchhaaaDoor
open Go.RowKit
set_option linter.unusedVariables false

set_option maxRecDepth 100000 in
set_option maxHeartbeats 4000000 in
theorem loop_w (P B : List Nat) (a b q : Nat) (W0 : World) (v1 v2 v3 v4 v5 v6 v7 v11 v12 v13 v14 v15 v16 v17 v18 v19 v20 v21 v22 v23 v24 v25 v26 v27 v28 v29 v30 v31 v32 v33 v34 v35 v36 v37 v38 v39 v40 v41 v42 v43 v44 v45 v46 v47 v48 v49 v50 v51 v52 v53 v54 v55 v56 v57 v58 v59 v60 v61 v62 v63 v64 v65 v66 v67 v68 v69 v70 v71 v72 v73 v74 v75 v76 v77 v78 v79 v80 v81 v82 v83 v84 v85 v86 v87 v88 v89 v90 v91 v92 v93 v94 v95 v96 v97 v98 v99 v100 v101 v102 v103 v104 v105 v106 v107 v108 v109 v110 v111 v112 v113 v114 v115 v116 v117 v118 v119 v120 v121 v122 v123 v124 v125 v126 v127 v128 v129 v130 v131 v132 v133 v134 v135 v136 v137 v138 v139 v140 v141 v142 v143 v144 v145 v146 v147 v148 v149 v150 v151 v152 v153 v154 v155 v156 v157 v158 v159 v160 v161 v162 v163 v164 v165 v166 v167 v168 v169 v170 v171 v172 v173 v174 v175 v176 v177 v178 v179 v180 v181 v182 v183 v184 v185 v186 v187 v188 v189 v190 v191 v192 v193 v194 v195 v196 v197 v198 v199 v200 v201 v202 v203 v204 v205 v206 v207 v208 v209 v210 v211 v212 v213 v214 v215 v216 v217 v218 v219 v220 v221 v222 v223 v224 v225 v226 v227 v228 v229 v230 v231 v232 v233 v234 v235 v236 v237 v238 v239 v240 v241 v242 v243 v244 v245 v246 v247 v248 v249 v250 v251 v252 v253 v254 v255 v256 v257 v258 v259 v260 v261 v262 v263 v264 v265 v266 v267 v268 v269 v270 v271 v272 v273 v274 v275 v276 v277 v278 v279 v280 v281 v282 v283 v284 v285 v286 v287 v288 v289 v290 v291 v292 v293 v294 v295 v296 v297 v298 v299 v300 v301 v302 v303 v304 v305 : Value) (Q : Exit → Act → World → Prop)
    (HPX : Hid (∀ x ∈ P, x < 256)) (HQ : Hid (P.length = 64 * q)) (hb : b < q) (hq2 : q ≤ 2000) (HA : Hid (a = 64 * b)) (HBX : Hid (∀ x ∈ B, x < 256)) (HBN : Hid (∀ i, i < 64 → nth P (64 * b + i) = nth B i))
    (hQ : ∀ (s : Option Addr) (c : Nat) (x10 x11 x12 x63 x64 x65 x66 x67 x68 x69 x70 x71 x72 x73 x74 x75 x76 x77 x78 x79 x80 x81 x82 x83 x84 x85 x86 : Value) (w' : World), Below W0.heap.size W0 w' → MineW w' W0.heap.size (.slice s 16 c) (sched B 0) → Q .normal { tmps := List.toArray (Value.string (strN P) :: v1 :: v2 :: v3 :: v4 :: v5 :: v6 :: v7 :: Value.int IntKind.i64 (a : Int) :: Value.slice s 16 c :: x10 :: x11 :: x12 :: v13 :: v14 :: v15 :: v16 :: v17 :: v18 :: v19 :: v20 :: v21 :: v22 :: v23 :: v24 :: v25 :: v26 :: v27 :: v28 :: v29 :: v30 :: v31 :: v32 :: v33 :: v34 :: v35 :: v36 :: v37 :: v38 :: v39 :: v40 :: v41 :: v42 :: v43 :: v44 :: v45 :: v46 :: v47 :: v48 :: v49 :: v50 :: v51 :: v52 :: v53 :: v54 :: v55 :: v56 :: v57 :: v58 :: v59 :: v60 :: v61 :: v62 :: x63 :: x64 :: x65 :: x66 :: x67 :: x68 :: x69 :: x70 :: x71 :: x72 :: x73 :: x74 :: x75 :: x76 :: x77 :: x78 :: x79 :: x80 :: x81 :: x82 :: x83 :: x84 :: x85 :: x86 :: v87 :: v88 :: v89 :: v90 :: v91 :: v92 :: v93 :: v94 :: v95 :: v96 :: v97 :: v98 :: v99 :: v100 :: v101 :: v102 :: v103 :: v104 :: v105 :: v106 :: v107 :: v108 :: v109 :: v110 :: v111 :: v112 :: v113 :: v114 :: v115 :: v116 :: v117 :: v118 :: v119 :: v120 :: v121 :: v122 :: v123 :: v124 :: v125 :: v126 :: v127 :: v128 :: v129 :: v130 :: v131 :: v132 :: v133 :: v134 :: v135 :: v136 :: v137 :: v138 :: v139 :: v140 :: v141 :: v142 :: v143 :: v144 :: v145 :: v146 :: v147 :: v148 :: v149 :: v150 :: v151 :: v152 :: v153 :: v154 :: v155 :: v156 :: v157 :: v158 :: v159 :: v160 :: v161 :: v162 :: v163 :: v164 :: v165 :: v166 :: v167 :: v168 :: v169 :: v170 :: v171 :: v172 :: v173 :: v174 :: v175 :: v176 :: v177 :: v178 :: v179 :: v180 :: v181 :: v182 :: v183 :: v184 :: v185 :: v186 :: v187 :: v188 :: v189 :: v190 :: v191 :: v192 :: v193 :: v194 :: v195 :: v196 :: v197 :: v198 :: v199 :: v200 :: v201 :: v202 :: v203 :: v204 :: v205 :: v206 :: v207 :: v208 :: v209 :: v210 :: v211 :: v212 :: v213 :: v214 :: v215 :: v216 :: v217 :: v218 :: v219 :: v220 :: v221 :: v222 :: v223 :: v224 :: v225 :: v226 :: v227 :: v228 :: v229 :: v230 :: v231 :: v232 :: v233 :: v234 :: v235 :: v236 :: v237 :: v238 :: v239 :: v240 :: v241 :: v242 :: v243 :: v244 :: v245 :: v246 :: v247 :: v248 :: v249 :: v250 :: v251 :: v252 :: v253 :: v254 :: v255 :: v256 :: v257 :: v258 :: v259 :: v260 :: v261 :: v262 :: v263 :: v264 :: v265 :: v266 :: v267 :: v268 :: v269 :: v270 :: v271 :: v272 :: v273 :: v274 :: v275 :: v276 :: v277 :: v278 :: v279 :: v280 :: v281 :: v282 :: v283 :: v284 :: v285 :: v286 :: v287 :: v288 :: v289 :: v290 :: v291 :: v292 :: v293 :: v294 :: v295 :: v296 :: v297 :: v298 :: v299 :: v300 :: v301 :: v302 :: v303 :: v304 :: v305 :: []), defers := [] } w') :
    Code.wp Tryd.prog ((
(Code.region 19 (List.toArray ({ dst := some 63, op := Op.move (Operand.tmp 10), type := 3, pos := "ref.go:133", after := #[], guard := none } ::
{ dst := some 64, op := Op.binOp BinOp.lss 3 (Operand.tmp 63) (Operand.const (Value.int IntKind.i64 16)) 3, type := 4, pos := "ref.go:133", after := #[{ on := 0, ground := Ground.data }], guard := none } :: [])) false).seq (Code.cond (Operand.tmp 64) Code.skip (Code.exit 6))).seq ((Code.block 7 (
(Code.region 21 (List.toArray ({ dst := some 11, op := Op.assign (Operand.const (Value.int IntKind.u32 0)), type := 35, pos := "ref.go:134", after := #[], guard := none } :: [])) false).seq ((
(Code.region 22 (List.toArray ({ dst := some 12, op := Op.assign (Operand.const (Value.int IntKind.i64 0)), type := 3, pos := "ref.go:135", after := #[], guard := none } :: [])) false).seq (Code.block 8 ((
(Code.region 23 (List.toArray ({ dst := some 67, op := Op.move (Operand.tmp 12), type := 3, pos := "ref.go:135", after := #[], guard := none } ::
{ dst := some 68, op := Op.binOp BinOp.lss 3 (Operand.tmp 67) (Operand.const (Value.int IntKind.i64 4)) 3, type := 4, pos := "ref.go:135", after := #[{ on := 0, ground := Ground.data }], guard := none } :: [])) false).seq (Code.cond (Operand.tmp 68) Code.skip (Code.exit 8))).seq ((Code.block 9 
(Code.region 25 (List.toArray ({ dst := some 71, op := Op.move (Operand.tmp 11), type := 35, pos := "ref.go:136", after := #[], guard := none } ::
{ dst := some 72, op := Op.binOp BinOp.mul 35 (Operand.tmp 71) (Operand.const (Value.int IntKind.u32 256)) 35, type := 35, pos := "ref.go:136", after := #[{ on := 0, ground := Ground.data }], guard := none } ::
{ dst := some 73, op := Op.move (Operand.tmp 0), type := 9, pos := "ref.go:136", after := #[], guard := none } ::
{ dst := some 74, op := Op.move (Operand.tmp 8), type := 3, pos := "ref.go:136", after := #[], guard := none } ::
{ dst := some 75, op := Op.move (Operand.tmp 10), type := 3, pos := "ref.go:136", after := #[], guard := none } ::
{ dst := some 76, op := Op.binOp BinOp.mul 3 (Operand.const (Value.int IntKind.i64 4)) (Operand.tmp 75) 3, type := 3, pos := "ref.go:136", after := #[{ on := 4, ground := Ground.data }], guard := none } ::
{ dst := some 77, op := Op.binOp BinOp.add 3 (Operand.tmp 74) (Operand.tmp 76) 3, type := 3, pos := "ref.go:136", after := #[{ on := 3, ground := Ground.data }, { on := 5, ground := Ground.data }], guard := none } ::
{ dst := some 78, op := Op.move (Operand.tmp 12), type := 3, pos := "ref.go:136", after := #[], guard := none } ::
{ dst := some 79, op := Op.binOp BinOp.add 3 (Operand.tmp 77) (Operand.tmp 78) 3, type := 3, pos := "ref.go:136", after := #[{ on := 6, ground := Ground.data }, { on := 7, ground := Ground.data }], guard := none } ::
{ dst := some 80, op := Op.index 9 (Operand.tmp 73) (Operand.tmp 79), type := 5, pos := "ref.go:136", after := #[{ on := 2, ground := Ground.data }, { on := 8, ground := Ground.data }], guard := none } ::
{ dst := some 81, op := Op.convert 5 35 (Operand.tmp 80), type := 35, pos := "ref.go:136", after := #[{ on := 9, ground := Ground.data }], guard := none } ::
{ dst := some 82, op := Op.binOp BinOp.add 35 (Operand.tmp 72) (Operand.tmp 81) 35, type := 35, pos := "ref.go:136", after := #[{ on := 1, ground := Ground.data }, { on := 10, ground := Ground.data }], guard := none } ::
{ dst := some 11, op := Op.assign (Operand.tmp 82), type := 35, pos := "ref.go:136", after := #[{ on := 11, ground := Ground.data }, { on := 0, ground := Ground.phase }, { on := 1, ground := Ground.phase }, { on := 2, ground := Ground.phase }, { on := 3, ground := Ground.phase }, { on := 4, ground := Ground.phase }, { on := 5, ground := Ground.phase }, { on := 6, ground := Ground.phase }, { on := 7, ground := Ground.phase }, { on := 8, ground := Ground.phase }, { on := 9, ground := Ground.phase }, { on := 10, ground := Ground.phase }, { on := 11, ground := Ground.phase }], guard := none } :: [])) false)).seq 
(Code.region 24 (List.toArray ({ dst := some 69, op := Op.move (Operand.tmp 12), type := 3, pos := "ref.go:135", after := #[], guard := none } ::
{ dst := some 70, op := Op.binOp BinOp.add 3 (Operand.tmp 69) (Operand.const (Value.int IntKind.i64 1)) 3, type := 3, pos := "ref.go:135", after := #[{ on := 0, ground := Ground.data }], guard := none } ::
{ dst := some 12, op := Op.assign (Operand.tmp 70), type := 3, pos := "ref.go:135", after := #[{ on := 1, ground := Ground.data }, { on := 0, ground := Ground.phase }, { on := 1, ground := Ground.phase }], guard := none } :: [])) false))).loop)).seq 
(Code.region 26 (List.toArray ({ dst := some 83, op := Op.move (Operand.tmp 9), type := 125, pos := "ref.go:138", after := #[], guard := none } ::
{ dst := some 84, op := Op.move (Operand.tmp 11), type := 35, pos := "ref.go:138", after := #[], guard := none } ::
{ dst := some 85, op := Op.buildSlice 125 1 #[(0, Operand.tmp 84)], type := 125, pos := "ref.go:138", after := #[{ on := 1, ground := Ground.data }], guard := none } ::
{ dst := some 86, op := Op.call { callee := Callee.builtin Builtin.append, args := #[Operand.tmp 83, Operand.tmp 85], argTypes := #[125, 125] }, type := 125, pos := "ref.go:138", after := #[{ on := 0, ground := Ground.data }, { on := 2, ground := Ground.data }], guard := none } ::
{ dst := some 9, op := Op.assign (Operand.tmp 86), type := 125, pos := "ref.go:138", after := #[{ on := 3, ground := Ground.data }, { on := 3, ground := Ground.chain }, { on := 0, ground := Ground.phase }, { on := 1, ground := Ground.phase }, { on := 2, ground := Ground.phase }, { on := 3, ground := Ground.phase }], guard := none } :: [])) false)))).seq 
(Code.region 20 (List.toArray ({ dst := some 65, op := Op.move (Operand.tmp 10), type := 3, pos := "ref.go:133", after := #[], guard := none } ::
{ dst := some 66, op := Op.binOp BinOp.add 3 (Operand.tmp 65) (Operand.const (Value.int IntKind.i64 1)) 3, type := 3, pos := "ref.go:133", after := #[{ on := 0, ground := Ground.data }], guard := none } ::
{ dst := some 10, op := Op.assign (Operand.tmp 66), type := 3, pos := "ref.go:133", after := #[{ on := 1, ground := Ground.data }, { on := 0, ground := Ground.phase }, { on := 1, ground := Ground.phase }], guard := none } :: [])) false))).loop (Exit.inBlock 6 Q) { tmps := List.toArray (Value.string (strN P) :: v1 :: v2 :: v3 :: v4 :: v5 :: v6 :: v7 :: Value.int IntKind.i64 (a : Int) :: Value.slice none 0 0 :: Value.int IntKind.i64 0 :: v11 :: v12 :: v13 :: v14 :: v15 :: v16 :: v17 :: v18 :: v19 :: v20 :: v21 :: v22 :: v23 :: v24 :: v25 :: v26 :: v27 :: v28 :: v29 :: v30 :: v31 :: v32 :: v33 :: v34 :: v35 :: v36 :: v37 :: v38 :: v39 :: v40 :: v41 :: v42 :: v43 :: v44 :: v45 :: v46 :: v47 :: v48 :: v49 :: v50 :: v51 :: v52 :: v53 :: v54 :: v55 :: v56 :: v57 :: v58 :: v59 :: v60 :: v61 :: v62 :: v63 :: v64 :: v65 :: v66 :: v67 :: v68 :: v69 :: v70 :: v71 :: v72 :: v73 :: v74 :: v75 :: v76 :: v77 :: v78 :: v79 :: v80 :: v81 :: v82 :: v83 :: v84 :: v85 :: v86 :: v87 :: v88 :: v89 :: v90 :: v91 :: v92 :: v93 :: v94 :: v95 :: v96 :: v97 :: v98 :: v99 :: v100 :: v101 :: v102 :: v103 :: v104 :: v105 :: v106 :: v107 :: v108 :: v109 :: v110 :: v111 :: v112 :: v113 :: v114 :: v115 :: v116 :: v117 :: v118 :: v119 :: v120 :: v121 :: v122 :: v123 :: v124 :: v125 :: v126 :: v127 :: v128 :: v129 :: v130 :: v131 :: v132 :: v133 :: v134 :: v135 :: v136 :: v137 :: v138 :: v139 :: v140 :: v141 :: v142 :: v143 :: v144 :: v145 :: v146 :: v147 :: v148 :: v149 :: v150 :: v151 :: v152 :: v153 :: v154 :: v155 :: v156 :: v157 :: v158 :: v159 :: v160 :: v161 :: v162 :: v163 :: v164 :: v165 :: v166 :: v167 :: v168 :: v169 :: v170 :: v171 :: v172 :: v173 :: v174 :: v175 :: v176 :: v177 :: v178 :: v179 :: v180 :: v181 :: v182 :: v183 :: v184 :: v185 :: v186 :: v187 :: v188 :: v189 :: v190 :: v191 :: v192 :: v193 :: v194 :: v195 :: v196 :: v197 :: v198 :: v199 :: v200 :: v201 :: v202 :: v203 :: v204 :: v205 :: v206 :: v207 :: v208 :: v209 :: v210 :: v211 :: v212 :: v213 :: v214 :: v215 :: v216 :: v217 :: v218 :: v219 :: v220 :: v221 :: v222 :: v223 :: v224 :: v225 :: v226 :: v227 :: v228 :: v229 :: v230 :: v231 :: v232 :: v233 :: v234 :: v235 :: v236 :: v237 :: v238 :: v239 :: v240 :: v241 :: v242 :: v243 :: v244 :: v245 :: v246 :: v247 :: v248 :: v249 :: v250 :: v251 :: v252 :: v253 :: v254 :: v255 :: v256 :: v257 :: v258 :: v259 :: v260 :: v261 :: v262 :: v263 :: v264 :: v265 :: v266 :: v267 :: v268 :: v269 :: v270 :: v271 :: v272 :: v273 :: v274 :: v275 :: v276 :: v277 :: v278 :: v279 :: v280 :: v281 :: v282 :: v283 :: v284 :: v285 :: v286 :: v287 :: v288 :: v289 :: v290 :: v291 :: v292 :: v293 :: v294 :: v295 :: v296 :: v297 :: v298 :: v299 :: v300 :: v301 :: v302 :: v303 :: v304 :: v305 :: []), defers := [] } W0 := by
  have HQQ := Lib.hid hQ
  clear hQ
  have ha3 : a ≤ 200000 := by have := HA.out; omega
  go_loopw [9, 10] (fun v i wr => ∃ k : Nat, k ≤ 16 ∧ i = .int .i64 k ∧ Below W0.heap.size W0 wr ∧ MineW wr W0.heap.size v (words16 B k)) (fun _ i _ => 16 - (intOf i).toNat)
  case atStart => exact ⟨0, Nat.zero_le _, rfl, Below.refl _ _, .inl ⟨rfl, rfl⟩⟩
  case round =>
    obtain ⟨k, hk, rfl, hbw, hM⟩ := hrel
    obtain ⟨sv, cv, rfl⟩ := minew_slice hM
    rw [words16_length] at hM ⊢
    by_cases hlt2 : k < 16
    · obtain ⟨wi, rfl⟩ : ∃ wi : World, wi = wr := ⟨_, rfl⟩
      have hd2 : decide ((k : Int) < 16) = true := decide_eq_true (by omega)
      go_wp2_with fail
      clear hd2
      go_loopw [11, 12] (fun v i wr => ∃ j : Nat, j ≤ 4 ∧ i = .int .i64 j ∧ (∃ x : Nat, Hid (x = word4 B k j) ∧ v = .int .u32 (x : Int)) ∧ wr = wi) (fun _ i _ => 4 - (intOf i).toNat)
      case atStart => exact ⟨0, Nat.zero_le _, rfl, ⟨0, rfl, rfl⟩, rfl⟩
      case round =>
        obtain ⟨j, hj, rfl, ⟨x, HX, rfl⟩, rfl⟩ := hrel
        by_cases hlt3 : j < 4
        · have hx4 := word4_step B k j HBX.out hlt3
          rw [← HX.out] at hx4
          have hb256 : nth B (4 * k + j) < 256 := nth_lt _ _ 256 (by omega) HBX.out
          have hix : ∀ w : World, (Instr.index 9 (.string (strN P)) (.int .i64 ((a : Int) + 4 * (k : Int) + (j : Int)))).run Tryd.prog w = .ok (.int .u8 ((nth B (4 * k + j) : Nat) : Int)) w := by
            intro w
            have h := str_at P HPX.out (64 * b + (4 * k + j)) (by have := HQ.out; omega) w
            rw [HBN.out _ (by omega)] at h
            rw [show ((a : Int) + 4 * (k : Int) + (j : Int)) = ((64 * b + (4 * k + j) : Nat) : Int) from by have := HA.out; omega]
            exact h
          have hnx : Hid (x * 256 + nth B (4 * k + j) = word4 B k (j + 1)) := by
            show _ = _
            rw [HX.out]; rfl
          generalize nth B (4 * k + j) = y at *
          have HIX := Lib.hid hix
          clear hix
          go_wp2_with (refine wpList_ix rfl (.tmp 73) (.tmp 79) 9 rfl rfl rfl (HIX.out _) ?_)
          go_roundw
          case rel => first | exact ⟨j + 1, by omega, by go_num, ⟨x * 256 + y, hnx, by go_num⟩, trivial⟩ | ((repeat apply Exists.intro); exact ⟨⟨j + 1, by omega, by go_num, ⟨x * 256 + y, hnx, by go_num⟩, trivial⟩, rfl⟩)
          case measure => simp [intOf]; omega
        · have hj4 : j = 4 := by omega
          have hd : decide ((j : Int) < 4) = false := decide_eq_false (by omega)
          have hx16 : x = w16 B k := by rw [HX.out, hj4, word4_all]
          have hxm : x < m32 := by rw [hx16]; exact w16_lt B k HBX.out
          obtain ⟨s5, c5, W5, hrun, hM5, hb5⟩ := app_oneR (words16 B k) x _ W0.heap.size _ hM hbw.size hxm (by rw [words16_length]; omega)
          have hM6 : MineW W5 W0.heap.size (.slice s5 (k + 1) c5) (words16 B (k + 1)) := by
            rw [← words16_step, ← hx16]
            rw [words16_length] at hM5
            exact hM5
          rw [words16_length] at hrun
          have hbw2 := hbw.trans hb5
          clear hx16 hxm hM5 hb5 hj4 hM hbw
          go_wp2_with (at_builtin; refine wpList_appw (v1 := .slice sv k cv) (v := .slice s5 (k + 1) c5) rfl (.tmp 83) (.tmp 85) rfl rfl rfl rfl hrun ?_)
          go_roundw
          case rel => first | exact ⟨k + 1, by omega, by go_num, hbw2, hM6⟩ | ((repeat apply Exists.intro); exact ⟨⟨k + 1, by omega, by go_num, hbw2, hM6⟩, rfl⟩)
          case measure => simp [intOf]; omega
    · have hk16 : k = 16 := by omega
      subst hk16
      have hM0 : MineW wr W0.heap.size (.slice sv 16 cv) (sched B 0) := hM
      go_wp2_with fail
      exact HQQ.out _ _ _ _ _ _ _ _ _ _ _ _ _ _ _ _ _ _ _ _ _ _ _ _ _ _ _ _ _ _ hbw hM0
end Go.Proofs.YtmjiadfdmchhaaaDoor
