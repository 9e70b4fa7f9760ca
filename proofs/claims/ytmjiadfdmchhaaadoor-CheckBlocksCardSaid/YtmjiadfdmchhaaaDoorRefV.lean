/-
  The sixty-four rounds of a block, in the walk through the document's Sum.
-/
import Derived.Test.YtmjiadfdmchhaaaDoorRefY
import Derived.Deep.RegionLaw
namespace Go.Proofs.YtmjiadfdmchhaaaDoor
open Go.RowKit
set_option linter.unusedVariables false

set_option maxRecDepth 100000 in
set_option maxHeartbeats 4000000 in
theorem loop_v (ws : List Nat) (S0 : S8) (lo Kb T cT T2 c2 : Nat) (W0 : World) (v0 v1 v2 v4 v5 v6 v7 v8 v10 v11 v12 v13 v14 v15 v18 v19 v20 v21 v22 v23 v24 v25 v26 v27 v28 v29 v30 v31 v32 v33 v34 v35 v36 v37 v38 v39 v40 v41 v42 v43 v44 v45 v46 v47 v48 v49 v50 v51 v52 v53 v54 v55 v56 v57 v58 v59 v60 v61 v62 v63 v64 v65 v66 v67 v68 v69 v70 v71 v72 v73 v74 v75 v76 v77 v78 v79 v80 v81 v82 v83 v84 v85 v86 v87 v88 v89 v90 v91 v92 v93 v94 v95 v96 v97 v98 v99 v100 v101 v102 v103 v104 v105 v106 v107 v108 v109 v110 v111 v112 v113 v114 v115 v116 v117 v118 v119 v120 v121 v122 v123 v124 v125 v126 v127 v128 v129 v130 v131 v132 v133 v134 v135 v136 v137 v138 v139 v140 v141 v142 v143 v144 v145 v146 v147 v148 v149 v150 v151 v152 v153 v154 v155 v156 v157 v158 v159 v160 v161 v162 v163 v164 v165 v166 v167 v168 v169 v170 v171 v172 v173 v174 v175 v176 v177 v178 v179 v180 v181 v182 v183 v184 v185 v186 v187 v188 v189 v190 v191 v192 v193 v194 v195 v196 v197 v198 v199 v200 v201 v202 v203 v204 v205 v206 v207 v208 v209 v210 v211 v212 v213 v214 v215 v216 v217 v218 v219 v220 v221 v222 v223 v224 v225 v226 v227 v228 v229 v230 v231 v232 v233 v234 v235 v236 v237 v238 v239 v240 v241 v242 v243 v244 v245 v246 v247 v248 v249 v250 v251 v252 v253 v254 v255 v256 v257 v258 v259 v260 v261 v262 v263 v264 v265 v266 v267 v268 v269 v270 v271 v272 v273 v274 v275 v276 v277 v278 v279 v280 v281 v282 v283 v284 v285 v286 v287 v288 v289 v290 v291 v292 v293 v294 v295 v296 v297 v298 v299 v300 v301 v302 v303 v304 v305 : Value) (Q : Exit → Act → World → Prop)
    (HOK : Hid S0.ok) (HWL : Hid (ws.length = 64)) (hlo : lo ≤ W0.heap.size) (hKlo : Kb < lo) (HKB : Hid (Bk W0 Kb 35 (wA rkL))) (hRP : Row W0 T ws) (hT2 : lo ≤ T2) (hc2 : 8 ≤ c2) (hRow2 : Row W0 T2 S0.toL)
    (hQ : ∀ (T3 c3 : Nat) (x17 x18 x19 x20 x21 x152 x153 x154 x155 x156 x157 x158 x159 x160 x161 x162 x163 x164 x165 x166 x167 x168 x169 x170 x171 x172 x173 x174 x175 x176 x177 x178 x179 x180 x181 x182 x183 x184 x185 x186 x187 x188 x189 x190 x191 x192 x193 x194 x195 x196 x197 x198 x199 x200 x201 x202 x203 x204 x205 x206 x207 x208 x209 x210 x211 x212 x213 x214 x215 x216 x217 x218 x219 x220 x221 x222 x223 x224 x225 x226 x227 x228 x229 x230 x231 x232 x233 x234 x235 x236 x237 x238 x239 x240 x241 x242 x243 x244 x245 x246 x247 x248 x249 x250 x251 x252 x253 x254 x255 x256 x257 x258 x259 x260 x261 x262 x263 x264 x265 x266 x267 : Value) (w' : World), Below lo W0 w' → lo ≤ T3 → 8 ≤ c3 → Row w' T3 (rnds ws S0 64).toL → Q .normal { tmps := List.toArray (v0 :: v1 :: v2 :: Value.slice (some { block := Kb, off := 0 }) 64 64 :: v4 :: v5 :: v6 :: v7 :: v8 :: Value.slice (some { block := T, off := 0 }) 64 cT :: v10 :: v11 :: v12 :: v13 :: v14 :: v15 :: Value.slice (some { block := T3, off := 0 }) 8 c3 :: x17 :: x18 :: x19 :: x20 :: x21 :: v22 :: v23 :: v24 :: v25 :: v26 :: v27 :: v28 :: v29 :: v30 :: v31 :: v32 :: v33 :: v34 :: v35 :: v36 :: v37 :: v38 :: v39 :: v40 :: v41 :: v42 :: v43 :: v44 :: v45 :: v46 :: v47 :: v48 :: v49 :: v50 :: v51 :: v52 :: v53 :: v54 :: v55 :: v56 :: v57 :: v58 :: v59 :: v60 :: v61 :: v62 :: v63 :: v64 :: v65 :: v66 :: v67 :: v68 :: v69 :: v70 :: v71 :: v72 :: v73 :: v74 :: v75 :: v76 :: v77 :: v78 :: v79 :: v80 :: v81 :: v82 :: v83 :: v84 :: v85 :: v86 :: v87 :: v88 :: v89 :: v90 :: v91 :: v92 :: v93 :: v94 :: v95 :: v96 :: v97 :: v98 :: v99 :: v100 :: v101 :: v102 :: v103 :: v104 :: v105 :: v106 :: v107 :: v108 :: v109 :: v110 :: v111 :: v112 :: v113 :: v114 :: v115 :: v116 :: v117 :: v118 :: v119 :: v120 :: v121 :: v122 :: v123 :: v124 :: v125 :: v126 :: v127 :: v128 :: v129 :: v130 :: v131 :: v132 :: v133 :: v134 :: v135 :: v136 :: v137 :: v138 :: v139 :: v140 :: v141 :: v142 :: v143 :: v144 :: v145 :: v146 :: v147 :: v148 :: v149 :: v150 :: v151 :: x152 :: x153 :: x154 :: x155 :: x156 :: x157 :: x158 :: x159 :: x160 :: x161 :: x162 :: x163 :: x164 :: x165 :: x166 :: x167 :: x168 :: x169 :: x170 :: x171 :: x172 :: x173 :: x174 :: x175 :: x176 :: x177 :: x178 :: x179 :: x180 :: x181 :: x182 :: x183 :: x184 :: x185 :: x186 :: x187 :: x188 :: x189 :: x190 :: x191 :: x192 :: x193 :: x194 :: x195 :: x196 :: x197 :: x198 :: x199 :: x200 :: x201 :: x202 :: x203 :: x204 :: x205 :: x206 :: x207 :: x208 :: x209 :: x210 :: x211 :: x212 :: x213 :: x214 :: x215 :: x216 :: x217 :: x218 :: x219 :: x220 :: x221 :: x222 :: x223 :: x224 :: x225 :: x226 :: x227 :: x228 :: x229 :: x230 :: x231 :: x232 :: x233 :: x234 :: x235 :: x236 :: x237 :: x238 :: x239 :: x240 :: x241 :: x242 :: x243 :: x244 :: x245 :: x246 :: x247 :: x248 :: x249 :: x250 :: x251 :: x252 :: x253 :: x254 :: x255 :: x256 :: x257 :: x258 :: x259 :: x260 :: x261 :: x262 :: x263 :: x264 :: x265 :: x266 :: x267 :: v268 :: v269 :: v270 :: v271 :: v272 :: v273 :: v274 :: v275 :: v276 :: v277 :: v278 :: v279 :: v280 :: v281 :: v282 :: v283 :: v284 :: v285 :: v286 :: v287 :: v288 :: v289 :: v290 :: v291 :: v292 :: v293 :: v294 :: v295 :: v296 :: v297 :: v298 :: v299 :: v300 :: v301 :: v302 :: v303 :: v304 :: v305 :: []), defers := [] } w') :
    Code.wp Tryd.prog ((
(Code.region 35 (List.toArray ({ dst := some 152, op := Op.move (Operand.tmp 17), type := 3, pos := "ref.go:146", after := #[], guard := none } ::
{ dst := some 153, op := Op.binOp BinOp.lss 3 (Operand.tmp 152) (Operand.const (Value.int IntKind.i64 64)) 3, type := 4, pos := "ref.go:146", after := #[{ on := 0, ground := Ground.data }], guard := none } :: [])) false).seq (Code.cond (Operand.tmp 153) Code.skip (Code.exit 12))).seq ((Code.block 13 (
(Code.region 37 (List.toArray ({ dst := some 156, op := Op.move (Operand.tmp 16), type := 125, pos := "ref.go:147", after := #[], guard := none } ::
{ dst := some 157, op := Op.indexAddr 125 (Operand.tmp 156) (Operand.const (Value.int IntKind.i64 4)), type := 0, pos := "ref.go:147", after := #[{ on := 0, ground := Ground.data }], guard := none } ::
{ dst := some 158, op := Op.load 35 (Operand.tmp 157), type := 35, pos := "ref.go:147", after := #[{ on := 1, ground := Ground.data }], guard := none } ::
{ dst := some 159, op := Op.call { callee := Callee.value (Operand.func 72), args := #[Operand.tmp 158, Operand.const (Value.int IntKind.i64 6)], argTypes := #[35, 3] }, type := 35, pos := "ref.go:147", after := #[{ on := 2, ground := Ground.data }], guard := none } ::
{ dst := some 160, op := Op.move (Operand.tmp 16), type := 125, pos := "ref.go:147", after := #[], guard := none } ::
{ dst := some 161, op := Op.indexAddr 125 (Operand.tmp 160) (Operand.const (Value.int IntKind.i64 4)), type := 0, pos := "ref.go:147", after := #[{ on := 4, ground := Ground.data }], guard := none } ::
{ dst := some 162, op := Op.load 35 (Operand.tmp 161), type := 35, pos := "ref.go:147", after := #[{ on := 5, ground := Ground.data }], guard := none } ::
{ dst := some 163, op := Op.call { callee := Callee.value (Operand.func 72), args := #[Operand.tmp 162, Operand.const (Value.int IntKind.i64 11)], argTypes := #[35, 3] }, type := 35, pos := "ref.go:147", after := #[{ on := 6, ground := Ground.data }, { on := 3, ground := Ground.chain }], guard := none } ::
{ dst := some 164, op := Op.binOp BinOp.xor 35 (Operand.tmp 159) (Operand.tmp 163) 35, type := 35, pos := "ref.go:147", after := #[{ on := 3, ground := Ground.data }, { on := 7, ground := Ground.data }], guard := none } ::
{ dst := some 165, op := Op.move (Operand.tmp 16), type := 125, pos := "ref.go:147", after := #[], guard := none } ::
{ dst := some 166, op := Op.indexAddr 125 (Operand.tmp 165) (Operand.const (Value.int IntKind.i64 4)), type := 0, pos := "ref.go:147", after := #[{ on := 9, ground := Ground.data }], guard := none } ::
{ dst := some 167, op := Op.load 35 (Operand.tmp 166), type := 35, pos := "ref.go:147", after := #[{ on := 10, ground := Ground.data }], guard := none } ::
{ dst := some 168, op := Op.call { callee := Callee.value (Operand.func 72), args := #[Operand.tmp 167, Operand.const (Value.int IntKind.i64 25)], argTypes := #[35, 3] }, type := 35, pos := "ref.go:147", after := #[{ on := 11, ground := Ground.data }, { on := 7, ground := Ground.chain }], guard := none } ::
{ dst := some 169, op := Op.binOp BinOp.xor 35 (Operand.tmp 164) (Operand.tmp 168) 35, type := 35, pos := "ref.go:147", after := #[{ on := 8, ground := Ground.data }, { on := 12, ground := Ground.data }], guard := none } ::
{ dst := some 18, op := Op.assign (Operand.tmp 169), type := 35, pos := "ref.go:147", after := #[{ on := 13, ground := Ground.data }, { on := 12, ground := Ground.chain }, { on := 0, ground := Ground.phase }, { on := 1, ground := Ground.phase }, { on := 2, ground := Ground.phase }, { on := 3, ground := Ground.phase }, { on := 4, ground := Ground.phase }, { on := 5, ground := Ground.phase }, { on := 6, ground := Ground.phase }, { on := 7, ground := Ground.phase }, { on := 8, ground := Ground.phase }, { on := 9, ground := Ground.phase }, { on := 10, ground := Ground.phase }, { on := 11, ground := Ground.phase }, { on := 12, ground := Ground.phase }, { on := 13, ground := Ground.phase }], guard := none } :: [])) true).seq (
(Code.region 38 (List.toArray ({ dst := some 170, op := Op.move (Operand.tmp 16), type := 125, pos := "ref.go:148", after := #[], guard := none } ::
{ dst := some 171, op := Op.indexAddr 125 (Operand.tmp 170) (Operand.const (Value.int IntKind.i64 7)), type := 0, pos := "ref.go:148", after := #[{ on := 0, ground := Ground.data }], guard := none } ::
{ dst := some 172, op := Op.load 35 (Operand.tmp 171), type := 35, pos := "ref.go:148", after := #[{ on := 1, ground := Ground.data }], guard := none } ::
{ dst := some 173, op := Op.move (Operand.tmp 18), type := 35, pos := "ref.go:148", after := #[], guard := none } ::
{ dst := some 174, op := Op.binOp BinOp.add 35 (Operand.tmp 172) (Operand.tmp 173) 35, type := 35, pos := "ref.go:148", after := #[{ on := 2, ground := Ground.data }, { on := 3, ground := Ground.data }], guard := none } ::
{ dst := some 175, op := Op.move (Operand.tmp 16), type := 125, pos := "ref.go:148", after := #[], guard := none } ::
{ dst := some 176, op := Op.indexAddr 125 (Operand.tmp 175) (Operand.const (Value.int IntKind.i64 4)), type := 0, pos := "ref.go:148", after := #[{ on := 5, ground := Ground.data }], guard := none } ::
{ dst := some 177, op := Op.load 35 (Operand.tmp 176), type := 35, pos := "ref.go:148", after := #[{ on := 6, ground := Ground.data }], guard := none } ::
{ dst := some 178, op := Op.move (Operand.tmp 16), type := 125, pos := "ref.go:148", after := #[], guard := none } ::
{ dst := some 179, op := Op.indexAddr 125 (Operand.tmp 178) (Operand.const (Value.int IntKind.i64 5)), type := 0, pos := "ref.go:148", after := #[{ on := 8, ground := Ground.data }], guard := none } ::
{ dst := some 180, op := Op.load 35 (Operand.tmp 179), type := 35, pos := "ref.go:148", after := #[{ on := 9, ground := Ground.data }], guard := none } ::
{ dst := some 181, op := Op.binOp BinOp.and 35 (Operand.tmp 177) (Operand.tmp 180) 35, type := 35, pos := "ref.go:148", after := #[{ on := 7, ground := Ground.data }, { on := 10, ground := Ground.data }], guard := none } ::
{ dst := some 182, op := Op.move (Operand.tmp 16), type := 125, pos := "ref.go:148", after := #[], guard := none } ::
{ dst := some 183, op := Op.indexAddr 125 (Operand.tmp 182) (Operand.const (Value.int IntKind.i64 4)), type := 0, pos := "ref.go:148", after := #[{ on := 12, ground := Ground.data }], guard := none } ::
{ dst := some 184, op := Op.load 35 (Operand.tmp 183), type := 35, pos := "ref.go:148", after := #[{ on := 13, ground := Ground.data }], guard := none } ::
{ dst := some 185, op := Op.binOp BinOp.sub 35 (Operand.const (Value.int IntKind.u32 4294967295)) (Operand.tmp 184) 35, type := 35, pos := "ref.go:148", after := #[{ on := 14, ground := Ground.data }], guard := none } ::
{ dst := some 186, op := Op.move (Operand.tmp 16), type := 125, pos := "ref.go:148", after := #[], guard := none } ::
{ dst := some 187, op := Op.indexAddr 125 (Operand.tmp 186) (Operand.const (Value.int IntKind.i64 6)), type := 0, pos := "ref.go:148", after := #[{ on := 16, ground := Ground.data }], guard := none } ::
{ dst := some 188, op := Op.load 35 (Operand.tmp 187), type := 35, pos := "ref.go:148", after := #[{ on := 17, ground := Ground.data }], guard := none } ::
{ dst := some 189, op := Op.binOp BinOp.and 35 (Operand.tmp 185) (Operand.tmp 188) 35, type := 35, pos := "ref.go:148", after := #[{ on := 15, ground := Ground.data }, { on := 18, ground := Ground.data }], guard := none } ::
{ dst := some 190, op := Op.binOp BinOp.xor 35 (Operand.tmp 181) (Operand.tmp 189) 35, type := 35, pos := "ref.go:148", after := #[{ on := 11, ground := Ground.data }, { on := 19, ground := Ground.data }], guard := none } ::
{ dst := some 191, op := Op.binOp BinOp.add 35 (Operand.tmp 174) (Operand.tmp 190) 35, type := 35, pos := "ref.go:148", after := #[{ on := 4, ground := Ground.data }, { on := 20, ground := Ground.data }], guard := none } ::
{ dst := some 192, op := Op.move (Operand.tmp 3), type := 125, pos := "ref.go:148", after := #[], guard := none } ::
{ dst := some 193, op := Op.move (Operand.tmp 17), type := 3, pos := "ref.go:148", after := #[], guard := none } ::
{ dst := some 194, op := Op.indexAddr 125 (Operand.tmp 192) (Operand.tmp 193), type := 0, pos := "ref.go:148", after := #[{ on := 22, ground := Ground.data }, { on := 23, ground := Ground.data }], guard := none } ::
{ dst := some 195, op := Op.load 35 (Operand.tmp 194), type := 35, pos := "ref.go:148", after := #[{ on := 24, ground := Ground.data }], guard := none } ::
{ dst := some 196, op := Op.binOp BinOp.add 35 (Operand.tmp 191) (Operand.tmp 195) 35, type := 35, pos := "ref.go:148", after := #[{ on := 21, ground := Ground.data }, { on := 25, ground := Ground.data }], guard := none } ::
{ dst := some 197, op := Op.move (Operand.tmp 9), type := 125, pos := "ref.go:148", after := #[], guard := none } ::
{ dst := some 198, op := Op.move (Operand.tmp 17), type := 3, pos := "ref.go:148", after := #[], guard := none } ::
{ dst := some 199, op := Op.indexAddr 125 (Operand.tmp 197) (Operand.tmp 198), type := 0, pos := "ref.go:148", after := #[{ on := 27, ground := Ground.data }, { on := 28, ground := Ground.data }], guard := none } ::
{ dst := some 200, op := Op.load 35 (Operand.tmp 199), type := 35, pos := "ref.go:148", after := #[{ on := 29, ground := Ground.data }], guard := none } ::
{ dst := some 201, op := Op.binOp BinOp.add 35 (Operand.tmp 196) (Operand.tmp 200) 35, type := 35, pos := "ref.go:148", after := #[{ on := 26, ground := Ground.data }, { on := 30, ground := Ground.data }], guard := none } ::
{ dst := some 19, op := Op.assign (Operand.tmp 201), type := 35, pos := "ref.go:148", after := #[{ on := 31, ground := Ground.data }, { on := 0, ground := Ground.phase }, { on := 1, ground := Ground.phase }, { on := 2, ground := Ground.phase }, { on := 3, ground := Ground.phase }, { on := 4, ground := Ground.phase }, { on := 5, ground := Ground.phase }, { on := 6, ground := Ground.phase }, { on := 7, ground := Ground.phase }, { on := 8, ground := Ground.phase }, { on := 9, ground := Ground.phase }, { on := 10, ground := Ground.phase }, { on := 11, ground := Ground.phase }, { on := 12, ground := Ground.phase }, { on := 13, ground := Ground.phase }, { on := 14, ground := Ground.phase }, { on := 15, ground := Ground.phase }, { on := 16, ground := Ground.phase }, { on := 17, ground := Ground.phase }, { on := 18, ground := Ground.phase }, { on := 19, ground := Ground.phase }, { on := 20, ground := Ground.phase }, { on := 21, ground := Ground.phase }, { on := 22, ground := Ground.phase }, { on := 23, ground := Ground.phase }, { on := 24, ground := Ground.phase }, { on := 25, ground := Ground.phase }, { on := 26, ground := Ground.phase }, { on := 27, ground := Ground.phase }, { on := 28, ground := Ground.phase }, { on := 29, ground := Ground.phase }, { on := 30, ground := Ground.phase }, { on := 31, ground := Ground.phase }], guard := none } :: [])) true).seq (
(Code.region 39 (List.toArray ({ dst := some 202, op := Op.move (Operand.tmp 16), type := 125, pos := "ref.go:149", after := #[], guard := none } ::
{ dst := some 203, op := Op.indexAddr 125 (Operand.tmp 202) (Operand.const (Value.int IntKind.i64 0)), type := 0, pos := "ref.go:149", after := #[{ on := 0, ground := Ground.data }], guard := none } ::
{ dst := some 204, op := Op.load 35 (Operand.tmp 203), type := 35, pos := "ref.go:149", after := #[{ on := 1, ground := Ground.data }], guard := none } ::
{ dst := some 205, op := Op.call { callee := Callee.value (Operand.func 72), args := #[Operand.tmp 204, Operand.const (Value.int IntKind.i64 2)], argTypes := #[35, 3] }, type := 35, pos := "ref.go:149", after := #[{ on := 2, ground := Ground.data }], guard := none } ::
{ dst := some 206, op := Op.move (Operand.tmp 16), type := 125, pos := "ref.go:149", after := #[], guard := none } ::
{ dst := some 207, op := Op.indexAddr 125 (Operand.tmp 206) (Operand.const (Value.int IntKind.i64 0)), type := 0, pos := "ref.go:149", after := #[{ on := 4, ground := Ground.data }], guard := none } ::
{ dst := some 208, op := Op.load 35 (Operand.tmp 207), type := 35, pos := "ref.go:149", after := #[{ on := 5, ground := Ground.data }], guard := none } ::
{ dst := some 209, op := Op.call { callee := Callee.value (Operand.func 72), args := #[Operand.tmp 208, Operand.const (Value.int IntKind.i64 13)], argTypes := #[35, 3] }, type := 35, pos := "ref.go:149", after := #[{ on := 6, ground := Ground.data }, { on := 3, ground := Ground.chain }], guard := none } ::
{ dst := some 210, op := Op.binOp BinOp.xor 35 (Operand.tmp 205) (Operand.tmp 209) 35, type := 35, pos := "ref.go:149", after := #[{ on := 3, ground := Ground.data }, { on := 7, ground := Ground.data }], guard := none } ::
{ dst := some 211, op := Op.move (Operand.tmp 16), type := 125, pos := "ref.go:149", after := #[], guard := none } ::
{ dst := some 212, op := Op.indexAddr 125 (Operand.tmp 211) (Operand.const (Value.int IntKind.i64 0)), type := 0, pos := "ref.go:149", after := #[{ on := 9, ground := Ground.data }], guard := none } ::
{ dst := some 213, op := Op.load 35 (Operand.tmp 212), type := 35, pos := "ref.go:149", after := #[{ on := 10, ground := Ground.data }], guard := none } ::
{ dst := some 214, op := Op.call { callee := Callee.value (Operand.func 72), args := #[Operand.tmp 213, Operand.const (Value.int IntKind.i64 22)], argTypes := #[35, 3] }, type := 35, pos := "ref.go:149", after := #[{ on := 11, ground := Ground.data }, { on := 7, ground := Ground.chain }], guard := none } ::
{ dst := some 215, op := Op.binOp BinOp.xor 35 (Operand.tmp 210) (Operand.tmp 214) 35, type := 35, pos := "ref.go:149", after := #[{ on := 8, ground := Ground.data }, { on := 12, ground := Ground.data }], guard := none } ::
{ dst := some 20, op := Op.assign (Operand.tmp 215), type := 35, pos := "ref.go:149", after := #[{ on := 13, ground := Ground.data }, { on := 12, ground := Ground.chain }, { on := 0, ground := Ground.phase }, { on := 1, ground := Ground.phase }, { on := 2, ground := Ground.phase }, { on := 3, ground := Ground.phase }, { on := 4, ground := Ground.phase }, { on := 5, ground := Ground.phase }, { on := 6, ground := Ground.phase }, { on := 7, ground := Ground.phase }, { on := 8, ground := Ground.phase }, { on := 9, ground := Ground.phase }, { on := 10, ground := Ground.phase }, { on := 11, ground := Ground.phase }, { on := 12, ground := Ground.phase }, { on := 13, ground := Ground.phase }], guard := none } :: [])) true).seq (
(Code.region 40 (List.toArray ({ dst := some 216, op := Op.move (Operand.tmp 20), type := 35, pos := "ref.go:150", after := #[], guard := none } ::
{ dst := some 217, op := Op.move (Operand.tmp 16), type := 125, pos := "ref.go:150", after := #[], guard := none } ::
{ dst := some 218, op := Op.indexAddr 125 (Operand.tmp 217) (Operand.const (Value.int IntKind.i64 0)), type := 0, pos := "ref.go:150", after := #[{ on := 1, ground := Ground.data }], guard := none } ::
{ dst := some 219, op := Op.load 35 (Operand.tmp 218), type := 35, pos := "ref.go:150", after := #[{ on := 2, ground := Ground.data }], guard := none } ::
{ dst := some 220, op := Op.move (Operand.tmp 16), type := 125, pos := "ref.go:150", after := #[], guard := none } ::
{ dst := some 221, op := Op.indexAddr 125 (Operand.tmp 220) (Operand.const (Value.int IntKind.i64 1)), type := 0, pos := "ref.go:150", after := #[{ on := 4, ground := Ground.data }], guard := none } ::
{ dst := some 222, op := Op.load 35 (Operand.tmp 221), type := 35, pos := "ref.go:150", after := #[{ on := 5, ground := Ground.data }], guard := none } ::
{ dst := some 223, op := Op.binOp BinOp.and 35 (Operand.tmp 219) (Operand.tmp 222) 35, type := 35, pos := "ref.go:150", after := #[{ on := 3, ground := Ground.data }, { on := 6, ground := Ground.data }], guard := none } ::
{ dst := some 224, op := Op.move (Operand.tmp 16), type := 125, pos := "ref.go:150", after := #[], guard := none } ::
{ dst := some 225, op := Op.indexAddr 125 (Operand.tmp 224) (Operand.const (Value.int IntKind.i64 0)), type := 0, pos := "ref.go:150", after := #[{ on := 8, ground := Ground.data }], guard := none } ::
{ dst := some 226, op := Op.load 35 (Operand.tmp 225), type := 35, pos := "ref.go:150", after := #[{ on := 9, ground := Ground.data }], guard := none } ::
{ dst := some 227, op := Op.move (Operand.tmp 16), type := 125, pos := "ref.go:150", after := #[], guard := none } ::
{ dst := some 228, op := Op.indexAddr 125 (Operand.tmp 227) (Operand.const (Value.int IntKind.i64 2)), type := 0, pos := "ref.go:150", after := #[{ on := 11, ground := Ground.data }], guard := none } ::
{ dst := some 229, op := Op.load 35 (Operand.tmp 228), type := 35, pos := "ref.go:150", after := #[{ on := 12, ground := Ground.data }], guard := none } ::
{ dst := some 230, op := Op.binOp BinOp.and 35 (Operand.tmp 226) (Operand.tmp 229) 35, type := 35, pos := "ref.go:150", after := #[{ on := 10, ground := Ground.data }, { on := 13, ground := Ground.data }], guard := none } ::
{ dst := some 231, op := Op.binOp BinOp.xor 35 (Operand.tmp 223) (Operand.tmp 230) 35, type := 35, pos := "ref.go:150", after := #[{ on := 7, ground := Ground.data }, { on := 14, ground := Ground.data }], guard := none } ::
{ dst := some 232, op := Op.move (Operand.tmp 16), type := 125, pos := "ref.go:150", after := #[], guard := none } ::
{ dst := some 233, op := Op.indexAddr 125 (Operand.tmp 232) (Operand.const (Value.int IntKind.i64 1)), type := 0, pos := "ref.go:150", after := #[{ on := 16, ground := Ground.data }], guard := none } ::
{ dst := some 234, op := Op.load 35 (Operand.tmp 233), type := 35, pos := "ref.go:150", after := #[{ on := 17, ground := Ground.data }], guard := none } ::
{ dst := some 235, op := Op.move (Operand.tmp 16), type := 125, pos := "ref.go:150", after := #[], guard := none } ::
{ dst := some 236, op := Op.indexAddr 125 (Operand.tmp 235) (Operand.const (Value.int IntKind.i64 2)), type := 0, pos := "ref.go:150", after := #[{ on := 19, ground := Ground.data }], guard := none } ::
{ dst := some 237, op := Op.load 35 (Operand.tmp 236), type := 35, pos := "ref.go:150", after := #[{ on := 20, ground := Ground.data }], guard := none } ::
{ dst := some 238, op := Op.binOp BinOp.and 35 (Operand.tmp 234) (Operand.tmp 237) 35, type := 35, pos := "ref.go:150", after := #[{ on := 18, ground := Ground.data }, { on := 21, ground := Ground.data }], guard := none } ::
{ dst := some 239, op := Op.binOp BinOp.xor 35 (Operand.tmp 231) (Operand.tmp 238) 35, type := 35, pos := "ref.go:150", after := #[{ on := 15, ground := Ground.data }, { on := 22, ground := Ground.data }], guard := none } ::
{ dst := some 240, op := Op.binOp BinOp.add 35 (Operand.tmp 216) (Operand.tmp 239) 35, type := 35, pos := "ref.go:150", after := #[{ on := 0, ground := Ground.data }, { on := 23, ground := Ground.data }], guard := none } ::
{ dst := some 21, op := Op.assign (Operand.tmp 240), type := 35, pos := "ref.go:150", after := #[{ on := 24, ground := Ground.data }, { on := 0, ground := Ground.phase }, { on := 1, ground := Ground.phase }, { on := 2, ground := Ground.phase }, { on := 3, ground := Ground.phase }, { on := 4, ground := Ground.phase }, { on := 5, ground := Ground.phase }, { on := 6, ground := Ground.phase }, { on := 7, ground := Ground.phase }, { on := 8, ground := Ground.phase }, { on := 9, ground := Ground.phase }, { on := 10, ground := Ground.phase }, { on := 11, ground := Ground.phase }, { on := 12, ground := Ground.phase }, { on := 13, ground := Ground.phase }, { on := 14, ground := Ground.phase }, { on := 15, ground := Ground.phase }, { on := 16, ground := Ground.phase }, { on := 17, ground := Ground.phase }, { on := 18, ground := Ground.phase }, { on := 19, ground := Ground.phase }, { on := 20, ground := Ground.phase }, { on := 21, ground := Ground.phase }, { on := 22, ground := Ground.phase }, { on := 23, ground := Ground.phase }, { on := 24, ground := Ground.phase }], guard := none } :: [])) true).seq 
(Code.region 41 (List.toArray ({ dst := some 241, op := Op.move (Operand.tmp 19), type := 35, pos := "ref.go:151", after := #[], guard := none } ::
{ dst := some 242, op := Op.move (Operand.tmp 21), type := 35, pos := "ref.go:151", after := #[], guard := none } ::
{ dst := some 243, op := Op.binOp BinOp.add 35 (Operand.tmp 241) (Operand.tmp 242) 35, type := 35, pos := "ref.go:151", after := #[{ on := 0, ground := Ground.data }, { on := 1, ground := Ground.data }], guard := none } ::
{ dst := some 244, op := Op.move (Operand.tmp 16), type := 125, pos := "ref.go:151", after := #[], guard := none } ::
{ dst := some 245, op := Op.indexAddr 125 (Operand.tmp 244) (Operand.const (Value.int IntKind.i64 0)), type := 0, pos := "ref.go:151", after := #[{ on := 3, ground := Ground.data }], guard := none } ::
{ dst := some 246, op := Op.load 35 (Operand.tmp 245), type := 35, pos := "ref.go:151", after := #[{ on := 4, ground := Ground.data }], guard := none } ::
{ dst := some 247, op := Op.move (Operand.tmp 16), type := 125, pos := "ref.go:151", after := #[], guard := none } ::
{ dst := some 248, op := Op.indexAddr 125 (Operand.tmp 247) (Operand.const (Value.int IntKind.i64 1)), type := 0, pos := "ref.go:151", after := #[{ on := 6, ground := Ground.data }], guard := none } ::
{ dst := some 249, op := Op.load 35 (Operand.tmp 248), type := 35, pos := "ref.go:151", after := #[{ on := 7, ground := Ground.data }], guard := none } ::
{ dst := some 250, op := Op.move (Operand.tmp 16), type := 125, pos := "ref.go:151", after := #[], guard := none } ::
{ dst := some 251, op := Op.indexAddr 125 (Operand.tmp 250) (Operand.const (Value.int IntKind.i64 2)), type := 0, pos := "ref.go:151", after := #[{ on := 9, ground := Ground.data }], guard := none } ::
{ dst := some 252, op := Op.load 35 (Operand.tmp 251), type := 35, pos := "ref.go:151", after := #[{ on := 10, ground := Ground.data }], guard := none } ::
{ dst := some 253, op := Op.move (Operand.tmp 16), type := 125, pos := "ref.go:151", after := #[], guard := none } ::
{ dst := some 254, op := Op.indexAddr 125 (Operand.tmp 253) (Operand.const (Value.int IntKind.i64 3)), type := 0, pos := "ref.go:151", after := #[{ on := 12, ground := Ground.data }], guard := none } ::
{ dst := some 255, op := Op.load 35 (Operand.tmp 254), type := 35, pos := "ref.go:151", after := #[{ on := 13, ground := Ground.data }], guard := none } ::
{ dst := some 256, op := Op.move (Operand.tmp 19), type := 35, pos := "ref.go:151", after := #[], guard := none } ::
{ dst := some 257, op := Op.binOp BinOp.add 35 (Operand.tmp 255) (Operand.tmp 256) 35, type := 35, pos := "ref.go:151", after := #[{ on := 14, ground := Ground.data }, { on := 15, ground := Ground.data }], guard := none } ::
{ dst := some 258, op := Op.move (Operand.tmp 16), type := 125, pos := "ref.go:151", after := #[], guard := none } ::
{ dst := some 259, op := Op.indexAddr 125 (Operand.tmp 258) (Operand.const (Value.int IntKind.i64 4)), type := 0, pos := "ref.go:151", after := #[{ on := 17, ground := Ground.data }], guard := none } ::
{ dst := some 260, op := Op.load 35 (Operand.tmp 259), type := 35, pos := "ref.go:151", after := #[{ on := 18, ground := Ground.data }], guard := none } ::
{ dst := some 261, op := Op.move (Operand.tmp 16), type := 125, pos := "ref.go:151", after := #[], guard := none } ::
{ dst := some 262, op := Op.indexAddr 125 (Operand.tmp 261) (Operand.const (Value.int IntKind.i64 5)), type := 0, pos := "ref.go:151", after := #[{ on := 20, ground := Ground.data }], guard := none } ::
{ dst := some 263, op := Op.load 35 (Operand.tmp 262), type := 35, pos := "ref.go:151", after := #[{ on := 21, ground := Ground.data }], guard := none } ::
{ dst := some 264, op := Op.move (Operand.tmp 16), type := 125, pos := "ref.go:151", after := #[], guard := none } ::
{ dst := some 265, op := Op.indexAddr 125 (Operand.tmp 264) (Operand.const (Value.int IntKind.i64 6)), type := 0, pos := "ref.go:151", after := #[{ on := 23, ground := Ground.data }], guard := none } ::
{ dst := some 266, op := Op.load 35 (Operand.tmp 265), type := 35, pos := "ref.go:151", after := #[{ on := 24, ground := Ground.data }], guard := none } ::
{ dst := some 267, op := Op.buildSlice 125 8 #[(0, Operand.tmp 243), (1, Operand.tmp 246), (2, Operand.tmp 249), (3, Operand.tmp 252), (4, Operand.tmp 257), (5, Operand.tmp 260), (6, Operand.tmp 263), (7, Operand.tmp 266)], type := 125, pos := "ref.go:151", after := #[{ on := 2, ground := Ground.data }, { on := 5, ground := Ground.data }, { on := 8, ground := Ground.data }, { on := 11, ground := Ground.data }, { on := 16, ground := Ground.data }, { on := 19, ground := Ground.data }, { on := 22, ground := Ground.data }, { on := 25, ground := Ground.data }], guard := none } ::
{ dst := some 16, op := Op.assign (Operand.tmp 267), type := 125, pos := "ref.go:151", after := #[{ on := 26, ground := Ground.data }, { on := 0, ground := Ground.phase }, { on := 1, ground := Ground.phase }, { on := 2, ground := Ground.phase }, { on := 3, ground := Ground.phase }, { on := 4, ground := Ground.phase }, { on := 5, ground := Ground.phase }, { on := 6, ground := Ground.phase }, { on := 7, ground := Ground.phase }, { on := 8, ground := Ground.phase }, { on := 9, ground := Ground.phase }, { on := 10, ground := Ground.phase }, { on := 11, ground := Ground.phase }, { on := 12, ground := Ground.phase }, { on := 13, ground := Ground.phase }, { on := 14, ground := Ground.phase }, { on := 15, ground := Ground.phase }, { on := 16, ground := Ground.phase }, { on := 17, ground := Ground.phase }, { on := 18, ground := Ground.phase }, { on := 19, ground := Ground.phase }, { on := 20, ground := Ground.phase }, { on := 21, ground := Ground.phase }, { on := 22, ground := Ground.phase }, { on := 23, ground := Ground.phase }, { on := 24, ground := Ground.phase }, { on := 25, ground := Ground.phase }, { on := 26, ground := Ground.phase }], guard := none } :: [])) true)))))).seq 
(Code.region 36 (List.toArray ({ dst := some 154, op := Op.move (Operand.tmp 17), type := 3, pos := "ref.go:146", after := #[], guard := none } ::
{ dst := some 155, op := Op.binOp BinOp.add 3 (Operand.tmp 154) (Operand.const (Value.int IntKind.i64 1)) 3, type := 3, pos := "ref.go:146", after := #[{ on := 0, ground := Ground.data }], guard := none } ::
{ dst := some 17, op := Op.assign (Operand.tmp 155), type := 3, pos := "ref.go:146", after := #[{ on := 1, ground := Ground.data }, { on := 0, ground := Ground.phase }, { on := 1, ground := Ground.phase }], guard := none } :: [])) false))).loop (Exit.inBlock 12 Q) { tmps := List.toArray (v0 :: v1 :: v2 :: Value.slice (some { block := Kb, off := 0 }) 64 64 :: v4 :: v5 :: v6 :: v7 :: v8 :: Value.slice (some { block := T, off := 0 }) 64 cT :: v10 :: v11 :: v12 :: v13 :: v14 :: v15 :: Value.slice (some { block := T2, off := 0 }) 8 c2 :: Value.int IntKind.i64 0 :: v18 :: v19 :: v20 :: v21 :: v22 :: v23 :: v24 :: v25 :: v26 :: v27 :: v28 :: v29 :: v30 :: v31 :: v32 :: v33 :: v34 :: v35 :: v36 :: v37 :: v38 :: v39 :: v40 :: v41 :: v42 :: v43 :: v44 :: v45 :: v46 :: v47 :: v48 :: v49 :: v50 :: v51 :: v52 :: v53 :: v54 :: v55 :: v56 :: v57 :: v58 :: v59 :: v60 :: v61 :: v62 :: v63 :: v64 :: v65 :: v66 :: v67 :: v68 :: v69 :: v70 :: v71 :: v72 :: v73 :: v74 :: v75 :: v76 :: v77 :: v78 :: v79 :: v80 :: v81 :: v82 :: v83 :: v84 :: v85 :: v86 :: v87 :: v88 :: v89 :: v90 :: v91 :: v92 :: v93 :: v94 :: v95 :: v96 :: v97 :: v98 :: v99 :: v100 :: v101 :: v102 :: v103 :: v104 :: v105 :: v106 :: v107 :: v108 :: v109 :: v110 :: v111 :: v112 :: v113 :: v114 :: v115 :: v116 :: v117 :: v118 :: v119 :: v120 :: v121 :: v122 :: v123 :: v124 :: v125 :: v126 :: v127 :: v128 :: v129 :: v130 :: v131 :: v132 :: v133 :: v134 :: v135 :: v136 :: v137 :: v138 :: v139 :: v140 :: v141 :: v142 :: v143 :: v144 :: v145 :: v146 :: v147 :: v148 :: v149 :: v150 :: v151 :: v152 :: v153 :: v154 :: v155 :: v156 :: v157 :: v158 :: v159 :: v160 :: v161 :: v162 :: v163 :: v164 :: v165 :: v166 :: v167 :: v168 :: v169 :: v170 :: v171 :: v172 :: v173 :: v174 :: v175 :: v176 :: v177 :: v178 :: v179 :: v180 :: v181 :: v182 :: v183 :: v184 :: v185 :: v186 :: v187 :: v188 :: v189 :: v190 :: v191 :: v192 :: v193 :: v194 :: v195 :: v196 :: v197 :: v198 :: v199 :: v200 :: v201 :: v202 :: v203 :: v204 :: v205 :: v206 :: v207 :: v208 :: v209 :: v210 :: v211 :: v212 :: v213 :: v214 :: v215 :: v216 :: v217 :: v218 :: v219 :: v220 :: v221 :: v222 :: v223 :: v224 :: v225 :: v226 :: v227 :: v228 :: v229 :: v230 :: v231 :: v232 :: v233 :: v234 :: v235 :: v236 :: v237 :: v238 :: v239 :: v240 :: v241 :: v242 :: v243 :: v244 :: v245 :: v246 :: v247 :: v248 :: v249 :: v250 :: v251 :: v252 :: v253 :: v254 :: v255 :: v256 :: v257 :: v258 :: v259 :: v260 :: v261 :: v262 :: v263 :: v264 :: v265 :: v266 :: v267 :: v268 :: v269 :: v270 :: v271 :: v272 :: v273 :: v274 :: v275 :: v276 :: v277 :: v278 :: v279 :: v280 :: v281 :: v282 :: v283 :: v284 :: v285 :: v286 :: v287 :: v288 :: v289 :: v290 :: v291 :: v292 :: v293 :: v294 :: v295 :: v296 :: v297 :: v298 :: v299 :: v300 :: v301 :: v302 :: v303 :: v304 :: v305 :: []), defers := [] } W0 := by
  have HQQ := Lib.hid hQ
  clear hQ
  go_loopw [16, 17] (fun v i wr => ∃ k : Nat, k ≤ 64 ∧ i = .int .i64 k ∧ Below lo W0 wr ∧ Row wr T ws ∧ (∃ (S : S8) (T c : Nat), Hid (S = rnds ws S0 k) ∧ v = .slice (some ⟨T, 0, none⟩) 8 c ∧ 8 ≤ c ∧ lo ≤ T ∧ Row wr T S.toL)) (fun _ i _ => 64 - (intOf i).toNat)
  case atStart => exact ⟨0, Nat.zero_le _, rfl, Below.refl _ _, hRP, S0, T2, c2, rfl, rfl, hc2, hT2, hRow2⟩
  case round =>
    obtain ⟨k, hk, rfl, hbv, hRW, S, TV, cV, HSS, rfl, hcV, hTV, hRV⟩ := hrel
    clear hRP hRow2
    by_cases hlt4 : k < 64
    · have hok : S.ok := by rw [HSS.out]; exact rnds_ok _ _ HOK.out _
      have ha : S.a < 4294967296 := hok.a
      have he : S.e < 4294967296 := hok.e
      have hK5 := HKB.out.below hbv hKlo
      have hkj : (k : Int) < 64 := by omega
      have hkn : (k : Int) < 64 := by omega
      have hk0 : (0 : Int) ≤ (k : Int) := by omega
      have cK : wr.cell? ⟨Kb, k, none⟩ = some (.int .u32 ((nth rkL k : Nat) : Int)) := (hK5.cell k).trans (wA_get rkL k (by have : rkL.length = 64 := rfl; omega))
      have cW : wr.cell? ⟨T, k, none⟩ = some (.int .u32 ((nth ws k : Nat) : Int)) := hRW.2 k (by rw [HWL.out]; exact hlt4)
      obtain ⟨c0, c1, c2, c3, c4, c5, c6, c7⟩ := hRV.c8
      have HOK2 := Lib.hid hok
      clear hok hK5
      go_wp2_with fail
      go_quiet ((go_at_call 72; exact quiet_eq (rturn_at _ _ _ he (by decide) (by decide))))
      go_wp2_with fail
      go_quiet (fail)
      rw [rt1r_int (h := S.h) (e := S.e) (f := S.f) (g := S.g) (k := nth rkL k) (w := nth ws k) HOK2.out.e HOK2.out.f HOK2.out.g]
      go_wp2_with fail
      refine wp_any (fun W => Below lo W0 W ∧ Row W T ws ∧ Row W TV S.toL) ⟨by first | exact below_drewN hbv _ | exact below_drewN (below_drewN hbv _) _, hRW, hRV⟩ ?_
      clear hbv hRW hRV c0 c1 c2 c3 c4 c5 c6 c7 cK cW
      rintro W2 ⟨hbv, hRW, hRV⟩
      obtain ⟨c0, c1, c2, c3, c4, c5, c6, c7⟩ := hRV.c8
      go_quiet ((go_at_call 72; exact quiet_eq (rturn_at _ _ _ ha (by decide) (by decide))))
      go_wp2_with fail
      go_quiet (fail)
      rw [rt2_int (a := S.a) (b := S.b) (c := S.c) HOK2.out.a HOK2.out.b HOK2.out.c]
      go_wp2_with fail
      refine wp_any (fun W => Below lo W0 W ∧ Row W T ws ∧ Row W TV S.toL) ⟨by first | exact below_drewN hbv _ | exact below_drewN (below_drewN hbv _) _, hRW, hRV⟩ ?_
      clear hbv hRW hRV c0 c1 c2 c3 c4 c5 c6 c7
      rintro W3 ⟨hbv, hRW, hRV⟩
      obtain ⟨c0, c1, c2, c3, c4, c5, c6, c7⟩ := hRV.c8
      go_still_tail 26, (by kernel_rfl)
      change wpList _ _ _ _ _ W3.drew
      have hb4 : Below lo W0 W3.drew := hbv.drew
      have hRW4 : Row W3.drew T ws := hRW
      clear hbv hRW hRV c0 c1 c2 c3 c4 c5 c6 c7
      generalize W3.drew = W4 at *
      generalize hr1 : rt1 S.h S.e S.f S.g (nth rkL k) (nth ws k) = r1 at *
      generalize hr2 : rt2 S.a S.b S.c = r2 at *
      go_wp2_with fail
      go_roundw
      case rel =>
        rw [add32_int r1 r2, add32_int S.d r1]
        have hlo4 : lo ≤ W4.heap.size := Nat.le_trans hlo hb4.size
        have hnew := row_new W4 35 (rnd S (nth rkL k) (nth ws k)).toL
        have hb5 := hb4.alloc (Nat.le_trans hlo hb4.size) (.cells (wA (rnd S (nth rkL k) (nth ws k)).toL) 35)
        have hRW5 := hRW4.keep ((Below.refl _ _).alloc (Nat.le_refl _) (.cells (wA (rnd S (nth rkL k) (nth ws k)).toL) 35))
        have hss : Hid (rnd S (nth rkL k) (nth ws k) = rnds ws S0 (k + 1)) := by
          show _ = _
          rw [HSS.out]; rfl
        have earr : #[Value.int .u32 (((r1 + r2) % m32 : Nat) : Int), .int .u32 (S.a : Int), .int .u32 (S.b : Int), .int .u32 (S.c : Int), .int .u32 (((S.d + r1) % m32 : Nat) : Int), .int .u32 (S.e : Int), .int .u32 (S.f : Int), .int .u32 (S.g : Int)] = wA (rnd S (nth rkL k) (nth ws k)).toL := by
          rw [← hr1, ← hr2]; rfl
        rw [earr]
        first | exact ⟨k + 1, by omega, by go_num, hb5, hRW5, _, _, _, hss, rfl, Nat.le_refl _, hlo4, hnew⟩ | ((repeat apply Exists.intro); exact ⟨⟨k + 1, by omega, by go_num, hb5, hRW5, _, _, _, hss, rfl, Nat.le_refl _, hlo4, hnew⟩, rfl⟩)
      case measure => simp [intOf]; omega
    · have hk64 : k = 64 := by omega
      subst hk64
      rw [HSS.out] at hRV
      clear hRW
      go_wp2_with fail
      exact HQQ.out _ _ _ _ _ _ _ _ _ _ _ _ _ _ _ _ _ _ _ _ _ _ _ _ _ _ _ _ _ _ _ _ _ _ _ _ _ _ _ _ _ _ _ _ _ _ _ _ _ _ _ _ _ _ _ _ _ _ _ _ _ _ _ _ _ _ _ _ _ _ _ _ _ _ _ _ _ _ _ _ _ _ _ _ _ _ _ _ _ _ _ _ _ _ _ _ _ _ _ _ _ _ _ _ _ _ _ _ _ _ _ _ _ _ _ _ _ _ _ _ _ _ _ _ hbv hTV hcV hRV
end Go.Proofs.YtmjiadfdmchhaaaDoor
