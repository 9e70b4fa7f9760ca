/-
  The document's numbers, one by one.
-/
import Derived.Test.YtecmgojecjenmaaDoorRnM
namespace Go.Proofs.YtecmgojecjenmaaDoor
open Go.RowKit
theorem rd_137 : rdN 137 = 666307205 := by decide +kernel
theorem rd_139 : rdN 139 = 773529912 := by decide +kernel
theorem rd_149 : rdN 149 = 1294757372 := by decide +kernel
theorem rd_151 : rdN 151 = 1396182291 := by decide +kernel
theorem rd_157 : rdN 157 = 1695183700 := by decide +kernel
theorem rd_163 : rdN 163 = 1986661051 := by decide +kernel
theorem rd_167 : rdN 167 = 2177026350 := by decide +kernel
theorem rd_173 : rdN 173 = 2456956037 := by decide +kernel
theorem rd_179 : rdN 179 = 2730485921 := by decide +kernel
theorem rd_181 : rdN 181 = 2820302411 := by decide +kernel
theorem rd_191 : rdN 191 = 3259730800 := by decide +kernel
theorem rd_193 : rdN 193 = 3345764771 := by decide +kernel
theorem rd_197 : rdN 197 = 3516065817 := by decide +kernel
theorem rd_199 : rdN 199 = 3600352804 := by decide +kernel
theorem rd_211 : rdN 211 = 4094571909 := by decide +kernel
theorem rd_223 : rdN 223 = 275423344 := by decide +kernel
theorem rd_227 : rdN 227 = 430227734 := by decide +kernel
theorem rd_229 : rdN 229 = 506948616 := by decide +kernel
theorem rd_233 : rdN 233 = 659060556 := by decide +kernel
theorem rd_239 : rdN 239 = 883997877 := by decide +kernel
theorem rd_241 : rdN 241 = 958139571 := by decide +kernel
theorem rd_251 : rdN 251 = 1322822218 := by decide +kernel
theorem rd_257 : rdN 257 = 1537002063 := by decide +kernel
theorem rd_263 : rdN 263 = 1747873779 := by decide +kernel
theorem rd_269 : rdN 269 = 1955562222 := by decide +kernel
theorem rd_271 : rdN 271 = 2024104815 := by decide +kernel
theorem rd_277 : rdN 277 = 2227730452 := by decide +kernel
theorem rd_281 : rdN 281 = 2361852424 := by decide +kernel
theorem rd_283 : rdN 283 = 2428436474 := by decide +kernel
theorem rd_293 : rdN 293 = 2756734187 := by decide +kernel
theorem rd_307 : rdN 307 = 3204031479 := by decide +kernel
theorem rd_311 : rdN 311 = 3329325298 := by decide +kernel
end Go.Proofs.YtecmgojecjenmaaDoor
