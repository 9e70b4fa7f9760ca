/-
  The other words of a block, in the walk through the document's Sum.
-/
import Derived.Test.YtmjiadfdmchhaaaDoorRefY
import Derived.Deep.RegionLaw
namespace Go.Proofs.YtmjiadfdmchhaaaDoor
open Go.RowKit
set_option linter.unusedVariables false

set_option maxRecDepth 100000 in
set_option maxHeartbeats 4000000 in
theorem loop_s (B : List Nat) (lo : Nat) (W0 : World) (s0 : Option Addr) (c0 : Nat) (v0 v1 v2 v3 v4 v5 v6 v7 v8 v10 v11 v12 v14 v15 v16 v17 v18 v19 v20 v21 v22 v23 v24 v25 v26 v27 v28 v29 v30 v31 v32 v33 v34 v35 v36 v37 v38 v39 v40 v41 v42 v43 v44 v45 v46 v47 v48 v49 v50 v51 v52 v53 v54 v55 v56 v57 v58 v59 v60 v61 v62 v63 v64 v65 v66 v67 v68 v69 v70 v71 v72 v73 v74 v75 v76 v77 v78 v79 v80 v81 v82 v83 v84 v85 v86 v87 v88 v89 v90 v91 v92 v93 v94 v95 v96 v97 v98 v99 v100 v101 v102 v103 v104 v105 v106 v107 v108 v109 v110 v111 v112 v113 v114 v115 v116 v117 v118 v119 v120 v121 v122 v123 v124 v125 v126 v127 v128 v129 v130 v131 v132 v133 v134 v135 v136 v137 v138 v139 v140 v141 v142 v143 v144 v145 v146 v147 v148 v149 v150 v151 v152 v153 v154 v155 v156 v157 v158 v159 v160 v161 v162 v163 v164 v165 v166 v167 v168 v169 v170 v171 v172 v173 v174 v175 v176 v177 v178 v179 v180 v181 v182 v183 v184 v185 v186 v187 v188 v189 v190 v191 v192 v193 v194 v195 v196 v197 v198 v199 v200 v201 v202 v203 v204 v205 v206 v207 v208 v209 v210 v211 v212 v213 v214 v215 v216 v217 v218 v219 v220 v221 v222 v223 v224 v225 v226 v227 v228 v229 v230 v231 v232 v233 v234 v235 v236 v237 v238 v239 v240 v241 v242 v243 v244 v245 v246 v247 v248 v249 v250 v251 v252 v253 v254 v255 v256 v257 v258 v259 v260 v261 v262 v263 v264 v265 v266 v267 v268 v269 v270 v271 v272 v273 v274 v275 v276 v277 v278 v279 v280 v281 v282 v283 v284 v285 v286 v287 v288 v289 v290 v291 v292 v293 v294 v295 v296 v297 v298 v299 v300 v301 v302 v303 v304 v305 : Value) (K : Act → World → Prop)
    (HBX : Hid (∀ x ∈ B, x < 256)) (hlo : lo ≤ W0.heap.size) (hM0 : MineW W0 lo (.slice s0 16 c0) (sched B 0))
    (hQ : ∀ (T c : Nat) (x13 x14 x15 x87 x88 x89 x90 x91 x92 x93 x94 x95 x96 x97 x98 x99 x100 x101 x102 x103 x104 x105 x106 x107 x108 x109 x110 x111 x112 x113 x114 x115 x116 x117 x118 x119 x120 x121 x122 x123 x124 x125 x126 x127 x128 x129 x130 x131 x132 x133 x134 x135 x136 x137 x138 x139 x140 x141 x142 x143 x144 x145 x146 x147 x148 : Value) (w' : World), Below lo W0 w' → lo ≤ T → 64 ≤ c → Row w' T (sched B 48) → K { tmps := List.toArray (v0 :: v1 :: v2 :: v3 :: v4 :: v5 :: v6 :: v7 :: v8 :: Value.slice (some { block := T, off := 0 }) 64 c :: v10 :: v11 :: v12 :: x13 :: x14 :: x15 :: v16 :: v17 :: v18 :: v19 :: v20 :: v21 :: v22 :: v23 :: v24 :: v25 :: v26 :: v27 :: v28 :: v29 :: v30 :: v31 :: v32 :: v33 :: v34 :: v35 :: v36 :: v37 :: v38 :: v39 :: v40 :: v41 :: v42 :: v43 :: v44 :: v45 :: v46 :: v47 :: v48 :: v49 :: v50 :: v51 :: v52 :: v53 :: v54 :: v55 :: v56 :: v57 :: v58 :: v59 :: v60 :: v61 :: v62 :: v63 :: v64 :: v65 :: v66 :: v67 :: v68 :: v69 :: v70 :: v71 :: v72 :: v73 :: v74 :: v75 :: v76 :: v77 :: v78 :: v79 :: v80 :: v81 :: v82 :: v83 :: v84 :: v85 :: v86 :: x87 :: x88 :: x89 :: x90 :: x91 :: x92 :: x93 :: x94 :: x95 :: x96 :: x97 :: x98 :: x99 :: x100 :: x101 :: x102 :: x103 :: x104 :: x105 :: x106 :: x107 :: x108 :: x109 :: x110 :: x111 :: x112 :: x113 :: x114 :: x115 :: x116 :: x117 :: x118 :: x119 :: x120 :: x121 :: x122 :: x123 :: x124 :: x125 :: x126 :: x127 :: x128 :: x129 :: x130 :: x131 :: x132 :: x133 :: x134 :: x135 :: x136 :: x137 :: x138 :: x139 :: x140 :: x141 :: x142 :: x143 :: x144 :: x145 :: x146 :: x147 :: x148 :: v149 :: v150 :: v151 :: v152 :: v153 :: v154 :: v155 :: v156 :: v157 :: v158 :: v159 :: v160 :: v161 :: v162 :: v163 :: v164 :: v165 :: v166 :: v167 :: v168 :: v169 :: v170 :: v171 :: v172 :: v173 :: v174 :: v175 :: v176 :: v177 :: v178 :: v179 :: v180 :: v181 :: v182 :: v183 :: v184 :: v185 :: v186 :: v187 :: v188 :: v189 :: v190 :: v191 :: v192 :: v193 :: v194 :: v195 :: v196 :: v197 :: v198 :: v199 :: v200 :: v201 :: v202 :: v203 :: v204 :: v205 :: v206 :: v207 :: v208 :: v209 :: v210 :: v211 :: v212 :: v213 :: v214 :: v215 :: v216 :: v217 :: v218 :: v219 :: v220 :: v221 :: v222 :: v223 :: v224 :: v225 :: v226 :: v227 :: v228 :: v229 :: v230 :: v231 :: v232 :: v233 :: v234 :: v235 :: v236 :: v237 :: v238 :: v239 :: v240 :: v241 :: v242 :: v243 :: v244 :: v245 :: v246 :: v247 :: v248 :: v249 :: v250 :: v251 :: v252 :: v253 :: v254 :: v255 :: v256 :: v257 :: v258 :: v259 :: v260 :: v261 :: v262 :: v263 :: v264 :: v265 :: v266 :: v267 :: v268 :: v269 :: v270 :: v271 :: v272 :: v273 :: v274 :: v275 :: v276 :: v277 :: v278 :: v279 :: v280 :: v281 :: v282 :: v283 :: v284 :: v285 :: v286 :: v287 :: v288 :: v289 :: v290 :: v291 :: v292 :: v293 :: v294 :: v295 :: v296 :: v297 :: v298 :: v299 :: v300 :: v301 :: v302 :: v303 :: v304 :: v305 :: []), defers := [] } w') :
    Code.wp Tryd.prog ((
(Code.region 28 (List.toArray ({ dst := some 87, op := Op.move (Operand.tmp 13), type := 3, pos := "ref.go:140", after := #[], guard := none } ::
{ dst := some 88, op := Op.binOp BinOp.lss 3 (Operand.tmp 87) (Operand.const (Value.int IntKind.i64 64)) 3, type := 4, pos := "ref.go:140", after := #[{ on := 0, ground := Ground.data }], guard := none } :: [])) false).seq (Code.cond (Operand.tmp 88) Code.skip (Code.exit 10))).seq ((Code.block 11 (
(Code.region 30 (List.toArray ({ dst := some 91, op := Op.move (Operand.tmp 9), type := 125, pos := "ref.go:141", after := #[], guard := none } ::
{ dst := some 92, op := Op.move (Operand.tmp 13), type := 3, pos := "ref.go:141", after := #[], guard := none } ::
{ dst := some 93, op := Op.binOp BinOp.sub 3 (Operand.tmp 92) (Operand.const (Value.int IntKind.i64 15)) 3, type := 3, pos := "ref.go:141", after := #[{ on := 1, ground := Ground.data }], guard := none } ::
{ dst := some 94, op := Op.indexAddr 125 (Operand.tmp 91) (Operand.tmp 93), type := 0, pos := "ref.go:141", after := #[{ on := 0, ground := Ground.data }, { on := 2, ground := Ground.data }], guard := none } ::
{ dst := some 95, op := Op.load 35 (Operand.tmp 94), type := 35, pos := "ref.go:141", after := #[{ on := 3, ground := Ground.data }], guard := none } ::
{ dst := some 96, op := Op.call { callee := Callee.value (Operand.func 72), args := #[Operand.tmp 95, Operand.const (Value.int IntKind.i64 7)], argTypes := #[35, 3] }, type := 35, pos := "ref.go:141", after := #[{ on := 4, ground := Ground.data }], guard := none } ::
{ dst := some 97, op := Op.move (Operand.tmp 9), type := 125, pos := "ref.go:141", after := #[], guard := none } ::
{ dst := some 98, op := Op.move (Operand.tmp 13), type := 3, pos := "ref.go:141", after := #[], guard := none } ::
{ dst := some 99, op := Op.binOp BinOp.sub 3 (Operand.tmp 98) (Operand.const (Value.int IntKind.i64 15)) 3, type := 3, pos := "ref.go:141", after := #[{ on := 7, ground := Ground.data }], guard := none } ::
{ dst := some 100, op := Op.indexAddr 125 (Operand.tmp 97) (Operand.tmp 99), type := 0, pos := "ref.go:141", after := #[{ on := 6, ground := Ground.data }, { on := 8, ground := Ground.data }], guard := none } ::
{ dst := some 101, op := Op.load 35 (Operand.tmp 100), type := 35, pos := "ref.go:141", after := #[{ on := 9, ground := Ground.data }], guard := none } ::
{ dst := some 102, op := Op.call { callee := Callee.value (Operand.func 72), args := #[Operand.tmp 101, Operand.const (Value.int IntKind.i64 18)], argTypes := #[35, 3] }, type := 35, pos := "ref.go:141", after := #[{ on := 10, ground := Ground.data }, { on := 5, ground := Ground.chain }], guard := none } ::
{ dst := some 103, op := Op.binOp BinOp.xor 35 (Operand.tmp 96) (Operand.tmp 102) 35, type := 35, pos := "ref.go:141", after := #[{ on := 5, ground := Ground.data }, { on := 11, ground := Ground.data }], guard := none } ::
{ dst := some 104, op := Op.move (Operand.tmp 9), type := 125, pos := "ref.go:141", after := #[], guard := none } ::
{ dst := some 105, op := Op.move (Operand.tmp 13), type := 3, pos := "ref.go:141", after := #[], guard := none } ::
{ dst := some 106, op := Op.binOp BinOp.sub 3 (Operand.tmp 105) (Operand.const (Value.int IntKind.i64 15)) 3, type := 3, pos := "ref.go:141", after := #[{ on := 14, ground := Ground.data }], guard := none } ::
{ dst := some 107, op := Op.indexAddr 125 (Operand.tmp 104) (Operand.tmp 106), type := 0, pos := "ref.go:141", after := #[{ on := 13, ground := Ground.data }, { on := 15, ground := Ground.data }], guard := none } ::
{ dst := some 108, op := Op.load 35 (Operand.tmp 107), type := 35, pos := "ref.go:141", after := #[{ on := 16, ground := Ground.data }], guard := none } ::
{ dst := some 109, op := Op.call { callee := Callee.value (Operand.func 73), args := #[Operand.tmp 108, Operand.const (Value.int IntKind.i64 3)], argTypes := #[35, 3] }, type := 35, pos := "ref.go:141", after := #[{ on := 17, ground := Ground.data }, { on := 11, ground := Ground.chain }], guard := none } ::
{ dst := some 110, op := Op.binOp BinOp.xor 35 (Operand.tmp 103) (Operand.tmp 109) 35, type := 35, pos := "ref.go:141", after := #[{ on := 12, ground := Ground.data }, { on := 18, ground := Ground.data }], guard := none } ::
{ dst := some 14, op := Op.assign (Operand.tmp 110), type := 35, pos := "ref.go:141", after := #[{ on := 19, ground := Ground.data }, { on := 18, ground := Ground.chain }, { on := 0, ground := Ground.phase }, { on := 1, ground := Ground.phase }, { on := 2, ground := Ground.phase }, { on := 3, ground := Ground.phase }, { on := 4, ground := Ground.phase }, { on := 5, ground := Ground.phase }, { on := 6, ground := Ground.phase }, { on := 7, ground := Ground.phase }, { on := 8, ground := Ground.phase }, { on := 9, ground := Ground.phase }, { on := 10, ground := Ground.phase }, { on := 11, ground := Ground.phase }, { on := 12, ground := Ground.phase }, { on := 13, ground := Ground.phase }, { on := 14, ground := Ground.phase }, { on := 15, ground := Ground.phase }, { on := 16, ground := Ground.phase }, { on := 17, ground := Ground.phase }, { on := 18, ground := Ground.phase }, { on := 19, ground := Ground.phase }], guard := none } :: [])) true).seq (
(Code.region 31 (List.toArray ({ dst := some 111, op := Op.move (Operand.tmp 9), type := 125, pos := "ref.go:142", after := #[], guard := none } ::
{ dst := some 112, op := Op.move (Operand.tmp 13), type := 3, pos := "ref.go:142", after := #[], guard := none } ::
{ dst := some 113, op := Op.binOp BinOp.sub 3 (Operand.tmp 112) (Operand.const (Value.int IntKind.i64 2)) 3, type := 3, pos := "ref.go:142", after := #[{ on := 1, ground := Ground.data }], guard := none } ::
{ dst := some 114, op := Op.indexAddr 125 (Operand.tmp 111) (Operand.tmp 113), type := 0, pos := "ref.go:142", after := #[{ on := 0, ground := Ground.data }, { on := 2, ground := Ground.data }], guard := none } ::
{ dst := some 115, op := Op.load 35 (Operand.tmp 114), type := 35, pos := "ref.go:142", after := #[{ on := 3, ground := Ground.data }], guard := none } ::
{ dst := some 116, op := Op.call { callee := Callee.value (Operand.func 72), args := #[Operand.tmp 115, Operand.const (Value.int IntKind.i64 17)], argTypes := #[35, 3] }, type := 35, pos := "ref.go:142", after := #[{ on := 4, ground := Ground.data }], guard := none } ::
{ dst := some 117, op := Op.move (Operand.tmp 9), type := 125, pos := "ref.go:142", after := #[], guard := none } ::
{ dst := some 118, op := Op.move (Operand.tmp 13), type := 3, pos := "ref.go:142", after := #[], guard := none } ::
{ dst := some 119, op := Op.binOp BinOp.sub 3 (Operand.tmp 118) (Operand.const (Value.int IntKind.i64 2)) 3, type := 3, pos := "ref.go:142", after := #[{ on := 7, ground := Ground.data }], guard := none } ::
{ dst := some 120, op := Op.indexAddr 125 (Operand.tmp 117) (Operand.tmp 119), type := 0, pos := "ref.go:142", after := #[{ on := 6, ground := Ground.data }, { on := 8, ground := Ground.data }], guard := none } ::
{ dst := some 121, op := Op.load 35 (Operand.tmp 120), type := 35, pos := "ref.go:142", after := #[{ on := 9, ground := Ground.data }], guard := none } ::
{ dst := some 122, op := Op.call { callee := Callee.value (Operand.func 72), args := #[Operand.tmp 121, Operand.const (Value.int IntKind.i64 19)], argTypes := #[35, 3] }, type := 35, pos := "ref.go:142", after := #[{ on := 10, ground := Ground.data }, { on := 5, ground := Ground.chain }], guard := none } ::
{ dst := some 123, op := Op.binOp BinOp.xor 35 (Operand.tmp 116) (Operand.tmp 122) 35, type := 35, pos := "ref.go:142", after := #[{ on := 5, ground := Ground.data }, { on := 11, ground := Ground.data }], guard := none } ::
{ dst := some 124, op := Op.move (Operand.tmp 9), type := 125, pos := "ref.go:142", after := #[], guard := none } ::
{ dst := some 125, op := Op.move (Operand.tmp 13), type := 3, pos := "ref.go:142", after := #[], guard := none } ::
{ dst := some 126, op := Op.binOp BinOp.sub 3 (Operand.tmp 125) (Operand.const (Value.int IntKind.i64 2)) 3, type := 3, pos := "ref.go:142", after := #[{ on := 14, ground := Ground.data }], guard := none } ::
{ dst := some 127, op := Op.indexAddr 125 (Operand.tmp 124) (Operand.tmp 126), type := 0, pos := "ref.go:142", after := #[{ on := 13, ground := Ground.data }, { on := 15, ground := Ground.data }], guard := none } ::
{ dst := some 128, op := Op.load 35 (Operand.tmp 127), type := 35, pos := "ref.go:142", after := #[{ on := 16, ground := Ground.data }], guard := none } ::
{ dst := some 129, op := Op.call { callee := Callee.value (Operand.func 73), args := #[Operand.tmp 128, Operand.const (Value.int IntKind.i64 10)], argTypes := #[35, 3] }, type := 35, pos := "ref.go:142", after := #[{ on := 17, ground := Ground.data }, { on := 11, ground := Ground.chain }], guard := none } ::
{ dst := some 130, op := Op.binOp BinOp.xor 35 (Operand.tmp 123) (Operand.tmp 129) 35, type := 35, pos := "ref.go:142", after := #[{ on := 12, ground := Ground.data }, { on := 18, ground := Ground.data }], guard := none } ::
{ dst := some 15, op := Op.assign (Operand.tmp 130), type := 35, pos := "ref.go:142", after := #[{ on := 19, ground := Ground.data }, { on := 18, ground := Ground.chain }, { on := 0, ground := Ground.phase }, { on := 1, ground := Ground.phase }, { on := 2, ground := Ground.phase }, { on := 3, ground := Ground.phase }, { on := 4, ground := Ground.phase }, { on := 5, ground := Ground.phase }, { on := 6, ground := Ground.phase }, { on := 7, ground := Ground.phase }, { on := 8, ground := Ground.phase }, { on := 9, ground := Ground.phase }, { on := 10, ground := Ground.phase }, { on := 11, ground := Ground.phase }, { on := 12, ground := Ground.phase }, { on := 13, ground := Ground.phase }, { on := 14, ground := Ground.phase }, { on := 15, ground := Ground.phase }, { on := 16, ground := Ground.phase }, { on := 17, ground := Ground.phase }, { on := 18, ground := Ground.phase }, { on := 19, ground := Ground.phase }], guard := none } :: [])) true).seq 
(Code.region 32 (List.toArray ({ dst := some 131, op := Op.move (Operand.tmp 9), type := 125, pos := "ref.go:143", after := #[], guard := none } ::
{ dst := some 132, op := Op.move (Operand.tmp 9), type := 125, pos := "ref.go:143", after := #[], guard := none } ::
{ dst := some 133, op := Op.move (Operand.tmp 13), type := 3, pos := "ref.go:143", after := #[], guard := none } ::
{ dst := some 134, op := Op.binOp BinOp.sub 3 (Operand.tmp 133) (Operand.const (Value.int IntKind.i64 16)) 3, type := 3, pos := "ref.go:143", after := #[{ on := 2, ground := Ground.data }], guard := none } ::
{ dst := some 135, op := Op.indexAddr 125 (Operand.tmp 132) (Operand.tmp 134), type := 0, pos := "ref.go:143", after := #[{ on := 1, ground := Ground.data }, { on := 3, ground := Ground.data }], guard := none } ::
{ dst := some 136, op := Op.load 35 (Operand.tmp 135), type := 35, pos := "ref.go:143", after := #[{ on := 4, ground := Ground.data }], guard := none } ::
{ dst := some 137, op := Op.move (Operand.tmp 14), type := 35, pos := "ref.go:143", after := #[], guard := none } ::
{ dst := some 138, op := Op.binOp BinOp.add 35 (Operand.tmp 136) (Operand.tmp 137) 35, type := 35, pos := "ref.go:143", after := #[{ on := 5, ground := Ground.data }, { on := 6, ground := Ground.data }], guard := none } ::
{ dst := some 139, op := Op.move (Operand.tmp 9), type := 125, pos := "ref.go:143", after := #[], guard := none } ::
{ dst := some 140, op := Op.move (Operand.tmp 13), type := 3, pos := "ref.go:143", after := #[], guard := none } ::
{ dst := some 141, op := Op.binOp BinOp.sub 3 (Operand.tmp 140) (Operand.const (Value.int IntKind.i64 7)) 3, type := 3, pos := "ref.go:143", after := #[{ on := 9, ground := Ground.data }], guard := none } ::
{ dst := some 142, op := Op.indexAddr 125 (Operand.tmp 139) (Operand.tmp 141), type := 0, pos := "ref.go:143", after := #[{ on := 8, ground := Ground.data }, { on := 10, ground := Ground.data }], guard := none } ::
{ dst := some 143, op := Op.load 35 (Operand.tmp 142), type := 35, pos := "ref.go:143", after := #[{ on := 11, ground := Ground.data }], guard := none } ::
{ dst := some 144, op := Op.binOp BinOp.add 35 (Operand.tmp 138) (Operand.tmp 143) 35, type := 35, pos := "ref.go:143", after := #[{ on := 7, ground := Ground.data }, { on := 12, ground := Ground.data }], guard := none } ::
{ dst := some 145, op := Op.move (Operand.tmp 15), type := 35, pos := "ref.go:143", after := #[], guard := none } ::
{ dst := some 146, op := Op.binOp BinOp.add 35 (Operand.tmp 144) (Operand.tmp 145) 35, type := 35, pos := "ref.go:143", after := #[{ on := 13, ground := Ground.data }, { on := 14, ground := Ground.data }], guard := none } ::
{ dst := some 147, op := Op.buildSlice 125 1 #[(0, Operand.tmp 146)], type := 125, pos := "ref.go:143", after := #[{ on := 15, ground := Ground.data }], guard := none } ::
{ dst := some 148, op := Op.call { callee := Callee.builtin Builtin.append, args := #[Operand.tmp 131, Operand.tmp 147], argTypes := #[125, 125] }, type := 125, pos := "ref.go:143", after := #[{ on := 0, ground := Ground.data }, { on := 16, ground := Ground.data }], guard := none } ::
{ dst := some 9, op := Op.assign (Operand.tmp 148), type := 125, pos := "ref.go:143", after := #[{ on := 17, ground := Ground.data }, { on := 17, ground := Ground.chain }, { on := 0, ground := Ground.phase }, { on := 1, ground := Ground.phase }, { on := 2, ground := Ground.phase }, { on := 3, ground := Ground.phase }, { on := 4, ground := Ground.phase }, { on := 5, ground := Ground.phase }, { on := 6, ground := Ground.phase }, { on := 7, ground := Ground.phase }, { on := 8, ground := Ground.phase }, { on := 9, ground := Ground.phase }, { on := 10, ground := Ground.phase }, { on := 11, ground := Ground.phase }, { on := 12, ground := Ground.phase }, { on := 13, ground := Ground.phase }, { on := 14, ground := Ground.phase }, { on := 15, ground := Ground.phase }, { on := 16, ground := Ground.phase }, { on := 17, ground := Ground.phase }], guard := none } :: [])) true)))).seq 
(Code.region 29 (List.toArray ({ dst := some 89, op := Op.move (Operand.tmp 13), type := 3, pos := "ref.go:140", after := #[], guard := none } ::
{ dst := some 90, op := Op.binOp BinOp.add 3 (Operand.tmp 89) (Operand.const (Value.int IntKind.i64 1)) 3, type := 3, pos := "ref.go:140", after := #[{ on := 0, ground := Ground.data }], guard := none } ::
{ dst := some 13, op := Op.assign (Operand.tmp 90), type := 3, pos := "ref.go:140", after := #[{ on := 1, ground := Ground.data }, { on := 0, ground := Ground.phase }, { on := 1, ground := Ground.phase }], guard := none } :: [])) false))).loop (Exit.inBlock 10 (OnN K)) { tmps := List.toArray (v0 :: v1 :: v2 :: v3 :: v4 :: v5 :: v6 :: v7 :: v8 :: Value.slice s0 16 c0 :: v10 :: v11 :: v12 :: Value.int IntKind.i64 16 :: v14 :: v15 :: v16 :: v17 :: v18 :: v19 :: v20 :: v21 :: v22 :: v23 :: v24 :: v25 :: v26 :: v27 :: v28 :: v29 :: v30 :: v31 :: v32 :: v33 :: v34 :: v35 :: v36 :: v37 :: v38 :: v39 :: v40 :: v41 :: v42 :: v43 :: v44 :: v45 :: v46 :: v47 :: v48 :: v49 :: v50 :: v51 :: v52 :: v53 :: v54 :: v55 :: v56 :: v57 :: v58 :: v59 :: v60 :: v61 :: v62 :: v63 :: v64 :: v65 :: v66 :: v67 :: v68 :: v69 :: v70 :: v71 :: v72 :: v73 :: v74 :: v75 :: v76 :: v77 :: v78 :: v79 :: v80 :: v81 :: v82 :: v83 :: v84 :: v85 :: v86 :: v87 :: v88 :: v89 :: v90 :: v91 :: v92 :: v93 :: v94 :: v95 :: v96 :: v97 :: v98 :: v99 :: v100 :: v101 :: v102 :: v103 :: v104 :: v105 :: v106 :: v107 :: v108 :: v109 :: v110 :: v111 :: v112 :: v113 :: v114 :: v115 :: v116 :: v117 :: v118 :: v119 :: v120 :: v121 :: v122 :: v123 :: v124 :: v125 :: v126 :: v127 :: v128 :: v129 :: v130 :: v131 :: v132 :: v133 :: v134 :: v135 :: v136 :: v137 :: v138 :: v139 :: v140 :: v141 :: v142 :: v143 :: v144 :: v145 :: v146 :: v147 :: v148 :: v149 :: v150 :: v151 :: v152 :: v153 :: v154 :: v155 :: v156 :: v157 :: v158 :: v159 :: v160 :: v161 :: v162 :: v163 :: v164 :: v165 :: v166 :: v167 :: v168 :: v169 :: v170 :: v171 :: v172 :: v173 :: v174 :: v175 :: v176 :: v177 :: v178 :: v179 :: v180 :: v181 :: v182 :: v183 :: v184 :: v185 :: v186 :: v187 :: v188 :: v189 :: v190 :: v191 :: v192 :: v193 :: v194 :: v195 :: v196 :: v197 :: v198 :: v199 :: v200 :: v201 :: v202 :: v203 :: v204 :: v205 :: v206 :: v207 :: v208 :: v209 :: v210 :: v211 :: v212 :: v213 :: v214 :: v215 :: v216 :: v217 :: v218 :: v219 :: v220 :: v221 :: v222 :: v223 :: v224 :: v225 :: v226 :: v227 :: v228 :: v229 :: v230 :: v231 :: v232 :: v233 :: v234 :: v235 :: v236 :: v237 :: v238 :: v239 :: v240 :: v241 :: v242 :: v243 :: v244 :: v245 :: v246 :: v247 :: v248 :: v249 :: v250 :: v251 :: v252 :: v253 :: v254 :: v255 :: v256 :: v257 :: v258 :: v259 :: v260 :: v261 :: v262 :: v263 :: v264 :: v265 :: v266 :: v267 :: v268 :: v269 :: v270 :: v271 :: v272 :: v273 :: v274 :: v275 :: v276 :: v277 :: v278 :: v279 :: v280 :: v281 :: v282 :: v283 :: v284 :: v285 :: v286 :: v287 :: v288 :: v289 :: v290 :: v291 :: v292 :: v293 :: v294 :: v295 :: v296 :: v297 :: v298 :: v299 :: v300 :: v301 :: v302 :: v303 :: v304 :: v305 :: []), defers := [] } W0 := by
  have HQQ := Lib.hid hQ
  clear hQ
  go_loopw [9, 13] (fun v i wr => ∃ j : Nat, 16 ≤ j ∧ j ≤ 64 ∧ i = .int .i64 j ∧ Below lo W0 wr ∧ (∃ ws, Hid (ws = sched B (j - 16)) ∧ MineW wr lo v ws)) (fun _ i _ => 64 - (intOf i).toNat)
  case atStart => exact ⟨16, by omega, by omega, rfl, Below.refl _ _, sched B 0, rfl, hM0⟩
  case round =>
    obtain ⟨j, hj0, hj, rfl, hbx, ws, HWS, hMx⟩ := hrel
    clear hM0
    have hwl : ws.length = j := by rw [HWS.out, sched_length]; omega
    have hwx : ∀ x ∈ ws, x < m32 := by rw [HWS.out]; exact sched_lt B HBX.out _
    obtain ⟨T, cT, rfl, hcT, hTlo, hRow⟩ := minew_row hMx (by intro e; rw [e] at hwl; simp at hwl; omega)
    have hcell := hRow.2
    rw [hwl] at hMx hcT hcell ⊢
    by_cases hlt2 : j < 64
    · have x0 : nth ws (j - 15) < 4294967296 := nth_lt ws _ m32 m32_pos hwx
      have x1 : nth ws (j - 2) < 4294967296 := nth_lt ws _ m32 m32_pos hwx
      have c0 := hcell (j - 15) (by omega)
      have c1 := hcell (j - 2) (by omega)
      have c2 := hcell (j - 7) (by omega)
      have c3 := hcell (j - 16) (by omega)
      have HWL := Lib.hid hwl
      have HWX := Lib.hid hwx
      clear hcell hwl hwx
      have j0 : (0 : Int) ≤ (j : Int) - 15 := by omega
      have j1 : (j : Int) - 15 < (j : Int) := by omega
      have j2 : (0 : Int) ≤ (j : Int) - 2 := by omega
      have j3 : (j : Int) - 2 < (j : Int) := by omega
      have j4 : (0 : Int) ≤ (j : Int) - 7 := by omega
      have j5 : (j : Int) - 7 < (j : Int) := by omega
      have j6 : (0 : Int) ≤ (j : Int) - 16 := by omega
      have j7 : (j : Int) - 16 < (j : Int) := by omega
      have j9 : (0 : Int) ≤ (j : Int) := by omega
      have j10 : (7 : Int) ≤ (j : Int) := by omega
      have j11 : (16 : Int) ≤ (j : Int) := by omega
      have j12 : 7 ≤ j := by omega
      have j13 : (2 : Int) ≤ (j : Int) := by omega
      have j14 : (15 : Int) ≤ (j : Int) := by omega
      go_wp2_with fail
      have q0 : IntKind.i64.wrap ((j : Int) - 15) = (j : Int) - 15 := IntWalk.i64_in _ (by omega)
      have q1 : IntKind.i64.wrap ((j : Int) - 2) = (j : Int) - 2 := IntWalk.i64_in _ (by omega)
      have q2 : IntKind.i64.wrap ((j : Int) - 7) = (j : Int) - 7 := IntWalk.i64_in _ (by omega)
      have q3 : IntKind.i64.wrap ((j : Int) - 16) = (j : Int) - 16 := IntWalk.i64_in _ (by omega)
      have n0 : ((j : Int) - 15).toNat = j - 15 := by omega
      have n1 : ((j : Int) - 2).toNat = j - 2 := by omega
      have n2 : ((j : Int) - 7).toNat = j - 7 := by omega
      have n3 : ((j : Int) - 16).toNat = j - 16 := by omega
      have Q1 := Lib.hid q1
      have N1 := Lib.hid n1
      have Q2 := Lib.hid q2
      have Q3 := Lib.hid q3
      have N2 := Lib.hid n2
      have N3 := Lib.hid n3
      clear q1 n1 q2 q3 n2 n3
      go_quiet ((first | (go_at_call 72; exact quiet_eq (rturn_at _ _ _ x0 (by decide) (by decide))) | (go_at_call 73; exact quiet_eq (rlow_at _ _ _ x0 (by decide) (by decide)))))
      rw [sg0_int x0]
      clear q0 n0 c0
      go_wp2_with fail
      refine wp_any (fun W => Below lo W0 W ∧ MineW W lo (.slice (some ⟨T, 0, none⟩) j cT) ws ∧ W.cell? ⟨T, j - 2, none⟩ = some (.int .u32 ((nth ws (j - 2) : Nat) : Int)) ∧ W.cell? ⟨T, j - 7, none⟩ = some (.int .u32 ((nth ws (j - 7) : Nat) : Int)) ∧ W.cell? ⟨T, j - 16, none⟩ = some (.int .u32 ((nth ws (j - 16) : Nat) : Int)))
        ⟨below_drewN hbx _, hMx, c1, c2, c3⟩ ?_
      clear hbx hMx c1 c2 c3
      rintro W2 ⟨hbx, hMx, c1, c2, c3⟩
      have q1 := Q1.out
      have n1 := N1.out
      go_quiet ((first | (go_at_call 72; exact quiet_eq (rturn_at _ _ _ x1 (by decide) (by decide))) | (go_at_call 73; exact quiet_eq (rlow_at _ _ _ x1 (by decide) (by decide)))))
      rw [sg1_int x1]
      clear q1 n1 c1
      go_wp2_with fail
      refine wp_any (fun W => Below lo W0 W ∧ MineW W lo (.slice (some ⟨T, 0, none⟩) j cT) ws ∧ W.cell? ⟨T, j - 7, none⟩ = some (.int .u32 ((nth ws (j - 7) : Nat) : Int)) ∧ W.cell? ⟨T, j - 16, none⟩ = some (.int .u32 ((nth ws (j - 16) : Nat) : Int)))
        ⟨below_drewN hbx _, hMx, c2, c3⟩ ?_
      clear hbx hMx c2 c3
      rintro W3 ⟨hbx, hMx, c2, c3⟩
      have q2 := Q2.out
      have q3 := Q3.out
      have n2 := N2.out
      have n3 := N3.out
      have hTl : T < W3.heap.size := by
        rcases hMx with ⟨h, _⟩ | ⟨T', cap, z, h, _, _, _, K⟩
        · cases h
        · cases h; exact K.lt
      have hlo3 := Nat.le_trans hlo hbx.size
      go_region_law (refine step_app_one (wb := W0) (w0 := W3.drew) ws (extw (nth ws (j - 15)) (nth ws (j - 2)) (nth ws (j - 7)) (nth ws (j - 16))) lo rfl (.tmp 131) (.tmp 147) rfl rfl rfl (by first | exact ext_nat3 _ _ _ _ | exact ext_nat _ _ _ _ | exact ext_nat2 _ _ _ _) j HWL.out.symm rfl rfl hMx (by first | exact hbx | exact hbx.drew | exact hbx.drew.drew | exact below_drewN hbx _) hlo3 (ext_lt _ _ _ _) (by rw [HWL.out]; omega) ?_; rintro s5 c5 W5 hM5 hb6)
      all_goals
        have hMn : ∃ ws, Hid (ws = sched B (j + 1 - 16)) ∧ MineW W5 lo (.slice s5 (j + 1) c5) ws := by
          refine ⟨_, ?_, hM5⟩
          show _ = _
          obtain ⟨m, rfl⟩ : ∃ m, j = m + 16 := ⟨j - 16, by omega⟩
          have e1 := HWS.out
          rw [show m + 16 - 16 = m from by omega] at e1
          rw [show m + 16 + 1 - 16 = m + 1 from by omega, show m + 16 - 15 = m + 1 from by omega, show m + 16 - 2 = m + 14 from by omega, show m + 16 - 7 = m + 9 from by omega, show m + 16 - 16 = m from by omega, ← sched_next, e1]
        clear hM5 q2 q3 n2 n3 c2 c3
        go_wp2_with fail
        go_roundw
        case rel => first | exact ⟨j + 1, by omega, by omega, by go_num, hb6, hMn⟩ | ((repeat apply Exists.intro); exact ⟨⟨j + 1, by omega, by omega, by go_num, hb6, hMn⟩, rfl⟩)
        case measure => simp [intOf]; omega
    · have hj64 : j = 64 := by omega
      subst hj64
      have hRow2 : Row wr T (sched B 48) := by
        have e := HWS.out
        rw [e] at hRow
        exact hRow
      clear hMx hcell hwx
      go_wp2_with fail
      exact HQQ.out _ _ _ _ _ _ _ _ _ _ _ _ _ _ _ _ _ _ _ _ _ _ _ _ _ _ _ _ _ _ _ _ _ _ _ _ _ _ _ _ _ _ _ _ _ _ _ _ _ _ _ _ _ _ _ _ _ _ _ _ _ _ _ _ _ _ _ _ hbx hTlo hcT hRow2
end Go.Proofs.YtmjiadfdmchhaaaDoor
