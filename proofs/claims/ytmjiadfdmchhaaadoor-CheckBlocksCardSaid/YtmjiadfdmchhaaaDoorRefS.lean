/-
  The contract of the document's answer for layer 1: Sum of any text.
-/
import Derived.Test.YtmjiadfdmchhaaaDoorRefW
import Derived.Test.YtmjiadfdmchhaaaDoorRefX
import Derived.Test.YtmjiadfdmchhaaaDoorRefV
import Derived.Test.YtmjiadfdmchhaaaDoorRefO
namespace Go.Proofs.YtmjiadfdmchhaaaDoor
open Go.RowKit
set_option linter.unusedVariables false

set_option maxRecDepth 100000 in
set_option maxHeartbeats 4000000 in
theorem rsum_any (l : List Nat) (w : World) (hl : ∀ x ∈ l, x < 256) (hlen : l.length ≤ 100000) :
    Calls Tryd.prog 62 #[.string (strN l)] w fun e w' => e = .returned (.agg (idA (sha l))) ∧ Below w.heap.size w w' := by
  have hz0 : ((strN l).size : Int) = (l.length : Int) := by rw [strN_size]
  have hz1 : ((strN l).size) = (l.length) := by rw [strN_size]
  have HL := Lib.hid hl
  obtain ⟨n, hn⟩ : ∃ n, n = l.length := ⟨_, rfl⟩
  rw [← hn] at hlen hz0 hz1
  have HN := Lib.hid hn
  have HZ := Lib.hid hz1
  clear hl hn hz1
  go_enter Tryd.func62, Tryd.ntmps62
  go_wp2_with fail
  have hA : Below w.heap.size w (w.alloc (.cells (idA (zeros 32)) 22)) := (Below.refl _ _).alloc (Nat.le_refl _) _
  refine (rlist_any _).mono ?_
  rintro e w1 ⟨rfl, hb1, K1⟩
  have R1 : Bk w1 w.heap.size 22 (idA (zeros 32)) := Bk.keep (Bk.new _ _ _) hb1
  have hW1 : Below w.heap.size w w1 := below_step hA (by simp) hb1
  rw [World.size_alloc] at K1
  clear hb1 hA
  go_upto_region 4 with (refine wpList_cat rfl (.tmp 32) (.const (.string (ByteArray.mk #[128]))) rfl rfl rfl (by rw [HZ.out]; show n + 1 ≤ _; omega) (padL_zero l) ?_)
  obtain ⟨wa, rfl⟩ : ∃ wa : World, wa = w1 := ⟨_, rfl⟩
  go_loopw [0] (fun s wr => ∃ z : Nat, z ≤ padZ n ∧ s = .string (strN (padL l z)) ∧ wr = wa) (fun s _ => n + 200 - strLen s)
  case atStart => exact ⟨0, Nat.zero_le _, rfl, rfl⟩
  case round =>
    obtain ⟨z, hz, rfl, rfl⟩ := hrel
    have hsz : (strN (padL l z)).size = n + 1 + z := by rw [strN_size, padL_length, HN.out]
    have hpl := padZ_lt n
    have HS := Lib.hid hsz
    have hsi : ((strN (padL l z)).size : Int) = ((n + 1 + z : Nat) : Int) := by rw [hsz]
    clear hsz
    by_cases hlt : z < padZ n
    · have hr := padZ_first n z hlt
      have hr1 : ¬ (((n + 1 + z : Nat) : Int) % 64 = 56) := by omega
      go_wp2_with (refine wpList_cat rfl (.tmp 38) (.const (.string (ByteArray.mk #[0]))) rfl rfl rfl (by rw [HS.out]; show n + 1 + z + 1 ≤ _; omega) (padL_next l z) ?_)
      go_roundw
      case rel => exact ⟨z + 1, by omega, rfl, trivial⟩
      case measure => simp [strLen, strN_size, padL_length]; have := HN.out; omega
    · have hzz : z = padZ n := by omega
      have hr := padZ_mod n
      have hr1 : ((n + 1 + z : Nat) : Int) % 64 = 56 := by omega
      subst hzz
      clear hlt hz
      have hbb : ((((n : Int) + 1 + (padZ n : Int)) % 64) != 56) = false := by
        have : ((n : Int) + 1 + (padZ n : Int)) % 64 = 56 := by omega
        rw [this]; rfl
      go_wp2_with fail
      clear hr hr1 hsi
      have HS := Lib.hid (show (padL l (padZ n)).length = n + 1 + padZ n from by rw [padL_length, HN.out])
      have hm8 : n * 8 < 18446744073709551616 := by omega
      go_loopw [4, 5, 6] (fun m s i wr => ∃ k : Nat, k ≤ 8 ∧ i = .int .i64 k ∧ (∃ y : Nat, y < 18446744073709551616 ∧ Hid (y = n * 8 / 256 ^ k) ∧ m = .int .u64 (y : Int)) ∧ s = .string (strN (tailL (n * 8) k)) ∧
        Below w.heap.size w wr ∧ Bk wr w.heap.size 22 (idA (zeros 32)) ∧ Bk wr (w.heap.size + 1) 35 (wA rkL)) (fun _ _ i _ => 8 - (intOf i).toNat)
      case atStart => exact ⟨0, Nat.zero_le _, rfl, ⟨n * 8, hm8, by show _ = _; simp, by go_num⟩, rfl, hW1, R1, K1⟩
      case round =>
        obtain ⟨k, hk, rfl, ⟨y, hy, HY, rfl⟩, rfl, hbe, R2, K2⟩ := hrel
        clear hW1 R1 K1
        by_cases hlt : k < 8
        · have hcv : (convert 32 9 (.slice (some ⟨wr.heap.size, 0, none⟩) 1 1)).run Tryd.prog (wr.alloc (.cells #[.int .u8 ((y : Int) % 256)] 5)) = .ok (.string (strN [y % 256])) (wr.alloc (.cells #[.int .u8 ((y : Int) % 256)] 5)) := conv_bs (bs_oneR wr (y % 256) 5 (by omega))
          have hst : strN [y % 256] ++ strN (tailL (n * 8) k) = strN (tailL (n * 8) (k + 1)) := by
            rw [strN_append, HY.out]
            exact congrArg strN (tailL_step (n * 8) k hlt)
          have hsz : (strN [y % 256]).size + (strN (tailL (n * 8) k)).size ≤ 9223372036854775807 := by
            rw [strN_size, strN_size]
            unfold tailL
            rw [List.length_drop, be8_length]
            show 1 + _ ≤ _
            omega
          have HS2 := Lib.hid hsz
          have hy2 : y / 256 < 18446744073709551616 := by omega
          have HY2 : Hid (y / 256 = n * 8 / 256 ^ (k + 1)) := by
            show _ = _
            rw [HY.out, Nat.pow_succ, Nat.div_div_eq_div_mul]
          clear hsz
          go_wp2_with (refine wpList_cat rfl (.tmp 48) (.tmp 49) rfl rfl rfl HS2.out hst ?_)
          go_roundw
          case rel => first | exact ⟨k + 1, by omega, by go_num, ⟨y / 256, hy2, HY2, by go_num⟩, rfl, hbe.alloc hbe.size _, R2.alloc _, K2.alloc _⟩ | ((repeat apply Exists.intro); exact ⟨⟨k + 1, by omega, by go_num, ⟨y / 256, hy2, HY2, by go_num⟩, rfl, hbe.alloc hbe.size _, R2.alloc _, K2.alloc _⟩, rfl⟩)
          case measure => simp [intOf]; omega
        · have hk8 : k = 8 := by omega
          have hd : decide ((k : Int) < 8) = false := decide_eq_false (by omega)
          have hst : strN (padL l (padZ n)) ++ strN (tailL (n * 8) k) = strN (padded l) := by
            rw [strN_append, hk8, tailL_all, HN.out]
            rfl
          have HST := Lib.hid hst
          have hsz : (strN (padL l (padZ n))).size + (strN (tailL (n * 8) k)).size ≤ 9223372036854775807 := by
            rw [strN_size, strN_size, HS.out]
            unfold tailL
            have := padZ_lt n
            rw [List.length_drop, be8_length]
            omega
          have HS2 := Lib.hid hsz
          clear hsz hst hk8 hlt hk HY hy
          go_upto_region 13 with (refine wpList_cat rfl (.tmp 53) (.tmp 54) rfl rfl rfl HS2.out HST.out ?_)
          clear hm8
          generalize hPP : padded l = P
          have HPP := Lib.hid hPP
          clear hPP
          have hne : P ≠ [] := by
            intro e
            have := HPP.out
            rw [e] at this
            have := congrArg List.length this
            rw [padded_length] at this
            simp at this
          clear hd
          go_upto_region 14 with fail
          refine wp_any (fun W => Below w.heap.size w W ∧ Bk W w.heap.size 22 (idA (zeros 32)) ∧ Bk W (w.heap.size + 1) 35 (wA rkL) ∧ w.heap.size + 1 < wr.heap.size ∧ Bk W wr.heap.size 35 (wA sha0.toL))
            ⟨hbe.alloc hbe.size _, R2.alloc _, K2.alloc _, K2.lt, Bk.new _ _ _⟩ ?_
          generalize wr.heap.size = G at *
          rintro W ⟨hW, R3, K3, hG, H3⟩
          clear hbe R2 K2
          obtain ⟨q, hq, hPx, hPb⟩ := padded_x l HL.out
          have hq2 : q ≤ 2000 := by
            have h1 := padded_length l
            have h2 := padZ_lt l.length
            have := HN.out
            omega
          rw [HPP.out] at hq hPx hPb
          have hPs : ((strN P).size : Int) = 64 * (q : Int) := by rw [strN_size, hq]; omega
          have HPX := Lib.hid hPx
          have HPB := Lib.hid hPb
          have HQ := Lib.hid hq
          clear hPx hPb hq hne
          go_wp2_with fail
          go_loopw [8] (fun i wr => ∃ (b a : Nat), b ≤ q ∧ Hid (a = 64 * b) ∧ i = .int .i64 (a : Int) ∧ Below w.heap.size w wr ∧ Bk wr w.heap.size 22 (idA (zeros 32)) ∧ Bk wr (w.heap.size + 1) 35 (wA rkL) ∧ Bk wr G 35 (wA (blocks b sha0 P).toL)) (fun i _ => 64 * q - (intOf i).toNat)
          case atStart => exact ⟨0, 0, Nat.zero_le _, rfl, rfl, hW, R3, K3, H3⟩
          case round =>
            obtain ⟨b, a, hb, HA, rfl, hbe, R4, K4, H4⟩ := hrel
            clear hW R3 K3 H3
            have hG3 := H4.lt
            by_cases hlt : b < q
            · have hok : (blocks b sha0 P).ok := blocks_ok _ _ _ sha0_ok
              have HOK := Lib.hid hok
              have HNX := Lib.hid (blocks_next b sha0 P)
              clear hok
              generalize blocks b sha0 P = S0 at *
              obtain ⟨B, hB⟩ : ∃ B, B = blk P b := ⟨_, rfl⟩
              have hBl : B.length = 64 := by rw [hB]; exact blk_length P b (by have := HQ.out; omega)
              have HBX : Hid (∀ x ∈ B, x < 256) := by rw [hB]; exact blk_lt P b HPX.out
              have HBN : Hid (∀ i, i < 64 → nth P (64 * b + i) = nth B i) := by rw [hB]; exact fun i hi => (blk_nth P b i hi).symm
              rw [← hB] at HNX
              clear hB
              have HBL := Lib.hid hBl
              have hal : (a : Int) < 64 * (q : Int) := by have := HA.out; omega
              have hald : decide ((a : Int) < 64 * (q : Int)) = true := decide_eq_true hal
              clear hBl
              obtain ⟨wo, rfl⟩ : ∃ wo : World, wo = wr := ⟨_, rfl⟩
              go_wp2_with fail
              refine loop_w P B a b q wo _ _ _ _ _ _ _ _ _ _ _ _ _ _ _ _ _ _ _ _ _ _ _ _ _ _ _ _ _ _ _ _ _ _ _ _ _ _ _ _ _ _ _ _ _ _ _ _ _ _ _ _ _ _ _ _ _ _ _ _ _ _ _ _ _ _ _ _ _ _ _ _ _ _ _ _ _ _ _ _ _ _ _ _ _ _ _ _ _ _ _ _ _ _ _ _ _ _ _ _ _ _ _ _ _ _ _ _ _ _ _ _ _ _ _ _ _ _ _ _ _ _ _ _ _ _ _ _ _ _ _ _ _ _ _ _ _ _ _ _ _ _ _ _ _ _ _ _ _ _ _ _ _ _ _ _ _ _ _ _ _ _ _ _ _ _ _ _ _ _ _ _ _ _ _ _ _ _ _ _ _ _ _ _ _ _ _ _ _ _ _ _ _ _ _ _ _ _ _ _ _ _ _ _ _ _ _ _ _ _ _ _ _ _ _ _ _ _ _ _ _ _ _ _ _ _ _ _ _ _ _ _ _ _ _ _ _ _ _ _ _ _ _ _ _ _ _ _ _ _ _ _ _ _ _ _ _ _ _ _ _ _ _ _ _ _ _ _ _ _ _ _ _ _ _ _ _ _ _ _ _ _ _ _ _ _ _ _ _ _ _ _ _ _ _ _ _ _ _ _ _ _ _ HPX HQ hlt hq2 HA HBX HBN (fun s c x10 x11 x12 x63 x64 x65 x66 x67 x68 x69 x70 x71 x72 x73 x74 x75 x76 x77 x78 x79 x80 x81 x82 x83 x84 x85 x86 wa hbw hM => ?_)
              show Exit.then _ _ Exit.normal _ wa
              go_wp2_with fail
              refine Code.wp_mono onN_up ?_
              refine loop_s B wo.heap.size wa s c _ _ _ _ _ _ _ _ _ _ _ _ _ _ _ _ _ _ _ _ _ _ _ _ _ _ _ _ _ _ _ _ _ _ _ _ _ _ _ _ _ _ _ _ _ _ _ _ _ _ _ _ _ _ _ _ _ _ _ _ _ _ _ _ _ _ _ _ _ _ _ _ _ _ _ _ _ _ _ _ _ _ _ _ _ _ _ _ _ _ _ _ _ _ _ _ _ _ _ _ _ _ _ _ _ _ _ _ _ _ _ _ _ _ _ _ _ _ _ _ _ _ _ _ _ _ _ _ _ _ _ _ _ _ _ _ _ _ _ _ _ _ _ _ _ _ _ _ _ _ _ _ _ _ _ _ _ _ _ _ _ _ _ _ _ _ _ _ _ _ _ _ _ _ _ _ _ _ _ _ _ _ _ _ _ _ _ _ _ _ _ _ _ _ _ _ _ _ _ _ _ _ _ _ _ _ _ _ _ _ _ _ _ _ _ _ _ _ _ _ _ _ _ _ _ _ _ _ _ _ _ _ _ _ _ _ _ _ _ _ _ _ _ _ _ _ _ _ _ _ _ _ _ _ _ _ _ _ _ _ _ _ _ _ _ _ _ _ _ _ _ _ _ _ _ _ _ _ _ _ _ _ _ _ _ _ _ _ _ _ _ _ _ _ _ _ _ _ _ _ _ _ _ _ _ HBX hbw.size hM (fun T cT x13 x14 x15 x87 x88 x89 x90 x91 x92 x93 x94 x95 x96 x97 x98 x99 x100 x101 x102 x103 x104 x105 x106 x107 x108 x109 x110 x111 x112 x113 x114 x115 x116 x117 x118 x119 x120 x121 x122 x123 x124 x125 x126 x127 x128 x129 x130 x131 x132 x133 x134 x135 x136 x137 x138 x139 x140 x141 x142 x143 x144 x145 x146 x147 x148 wr hb2 hTlo hcT hRow => ?_)
              show Exit.then _ _ Exit.normal _ wr
              have hbx := hbw.trans hb2
              clear hbw hb2 hM
              obtain ⟨ws, hws⟩ : ∃ ws, ws = sched B 48 := ⟨_, rfl⟩
              have hwl64 : ws.length = 64 := by rw [hws, sched_length]
              rw [← hws] at hRow
              have HPL := Lib.hid hws
              have H5 := H4.below hbx hG3
              have hMH : MineW (wr.alloc (.cells #[] 35)) wr.heap.size (.slice (some ⟨wr.heap.size, 0, none⟩) 0 0) [] := .inr ⟨wr.heap.size, 0, 0, rfl, rfl, by omega, Nat.le_refl _, Bk.new _ _ _⟩
              have hGH : WsV (wr.alloc (.cells #[] 35)) (wr.alloc (.cells #[] 35)).heap.size (.slice (some ⟨G, 0, none⟩) 8 8) S0.toL :=
                ws_row (n := 8) (cap := 8) (H5.alloc _) (Nat.le_refl _) (Nat.le_refl _) (by omega) (toL_lt32 S0 HOK.out)
              obtain ⟨v6, W6, hrun, hM6, hb6⟩ := appw [] S0.toL _ _ wr.heap.size _ hMH (by simp) hGH (by rw [S8.toL_length]; simp)
              rw [List.nil_append] at hM6
              obtain ⟨T2, c2, rfl, hc2, hT2lo, hRow2⟩ := minew_row hM6 (by simp [S8.toL])
              rw [S8.toL_length] at hc2 hrun hM6
              have hb8 : Below wr.heap.size wr W6 := ((Below.refl wr.heap.size wr).alloc (Nat.le_refl _) _).trans hb6
              have hb7 : Below wo.heap.size wo W6 := below_step hbx hbx.size hb8
              have hRP : Row W6 T ws := hRow.keep hb8
              have hT3 : wo.heap.size ≤ T2 := Nat.le_trans hbx.size hT2lo
              have HWL := Lib.hid hwl64
              clear hb8 hT2lo hM6 hb6 hGH hMH H5 hRow hbx hwl64 hws
              go_upto_region 34 with (at_builtin; refine wpList_appw (v1 := .slice (some ⟨wr.heap.size, 0, none⟩) 0 0) (v2 := .slice (some ⟨G, 0, none⟩) 8 8) (v := .slice (some ⟨T2, 0, none⟩) 8 c2) rfl (.tmp 149) (.tmp 150) rfl rfl rfl rfl hrun ?_)
              clear hrun
              go_wp2_with fail
              refine loop_v ws S0 wo.heap.size (w.heap.size + 1) T cT T2 c2 W6 _ _ _ _ _ _ _ _ _ _ _ _ _ _ _ _ _ _ _ _ _ _ _ _ _ _ _ _ _ _ _ _ _ _ _ _ _ _ _ _ _ _ _ _ _ _ _ _ _ _ _ _ _ _ _ _ _ _ _ _ _ _ _ _ _ _ _ _ _ _ _ _ _ _ _ _ _ _ _ _ _ _ _ _ _ _ _ _ _ _ _ _ _ _ _ _ _ _ _ _ _ _ _ _ _ _ _ _ _ _ _ _ _ _ _ _ _ _ _ _ _ _ _ _ _ _ _ _ _ _ _ _ _ _ _ _ _ _ _ _ _ _ _ _ _ _ _ _ _ _ _ _ _ _ _ _ _ _ _ _ _ _ _ _ _ _ _ _ _ _ _ _ _ _ _ _ _ _ _ _ _ _ _ _ _ _ _ _ _ _ _ _ _ _ _ _ _ _ _ _ _ _ _ _ _ _ _ _ _ _ _ _ _ _ _ _ _ _ _ _ _ _ _ _ _ _ _ _ _ _ _ _ _ _ _ _ _ _ _ _ _ _ _ _ _ _ _ _ _ _ _ _ _ _ _ _ _ _ _ _ _ _ _ _ _ _ _ _ _ _ _ _ _ _ _ _ _ _ _ _ _ _ _ _ _ _ _ _ _ _ _ _ _ _ _ _ _ _ _ _ _ _ _ HOK HWL hb7.size K4.lt (Lib.hid (K4.below hb7 K4.lt)) hRP hT3 hc2 hRow2 (fun TV cV x17 x18 x19 x20 x21 x152 x153 x154 x155 x156 x157 x158 x159 x160 x161 x162 x163 x164 x165 x166 x167 x168 x169 x170 x171 x172 x173 x174 x175 x176 x177 x178 x179 x180 x181 x182 x183 x184 x185 x186 x187 x188 x189 x190 x191 x192 x193 x194 x195 x196 x197 x198 x199 x200 x201 x202 x203 x204 x205 x206 x207 x208 x209 x210 x211 x212 x213 x214 x215 x216 x217 x218 x219 x220 x221 x222 x223 x224 x225 x226 x227 x228 x229 x230 x231 x232 x233 x234 x235 x236 x237 x238 x239 x240 x241 x242 x243 x244 x245 x246 x247 x248 x249 x250 x251 x252 x253 x254 x255 x256 x257 x258 x259 x260 x261 x262 x263 x264 x265 x266 x267 wb hbv hTV hcV hRV => ?_)
              show Exit.then _ _ Exit.normal _ wb
              have hbv := hb7.trans hbv
              have hSF : ∃ S : S8, S = rnds ws S0 64 := ⟨_, rfl⟩
              obtain ⟨S, hSF⟩ := hSF
              rw [← hSF] at hRV
              have HSF := Lib.hid hSF
              have hbe2 := below_step hbe hbe.size hbv
              have R5 := R4.below hbv R4.lt
              have K5 := K4.below hbv K4.lt
              have H5 := H4.below hbv hG3
              have hTVG : TV ≠ G := by omega
              clear hSF hbv hb7 hRP hRow2
              go_wp2_with fail
              go_loopw [22] (fun i wr => ∃ k : Nat, k ≤ 8 ∧ i = .int .i64 k ∧ Below w.heap.size w wr ∧ Bk wr w.heap.size 22 (idA (zeros 32)) ∧ Bk wr (w.heap.size + 1) 35 (wA rkL) ∧ Row wr TV S.toL ∧ (∃ ls : List Nat, Hid (ls = pl S0 S k) ∧ Bk wr G 35 (wA ls))) (fun i _ => 8 - (intOf i).toNat)
              case atStart => exact ⟨0, Nat.zero_le _, rfl, hbe2, R5, K5, hRV, S0.toL, rfl, H5⟩
              case round =>
                obtain ⟨k, hk, rfl, hbe3, R6, K6, hRV6, ls, HLS, H6⟩ := hrel
                clear hbe2 R5 K5 H5 hRV
                have hll : ls.length = 8 := by rw [HLS.out]; exact pl_length _ _ _ hk
                by_cases hlt5 : k < 8
                · have c0 := (H6.cell k).trans (wA_get ls k (by omega))
                  have c1 := hRV6.2 k (by rw [S8.toL_length]; exact hlt5)
                  have hf := H6.frozen k
                  have hz := H6.lt
                  have j0 : (0 : Int) ≤ (k : Int) := by omega
                  have j1 : (k : Int) < 8 := by omega
                  have HLl := Lib.hid hll
                  clear hll
                  go_wp2_with fail
                  go_still_tail 10, (by kernel_rfl)
                  change wpList _ _ _ _ _ wr.drew
                  go_wp2_with fail
                  go_roundw
                  case rel =>
                    have e := H6.set_ k (.int .u32 ((nth (plus8 S0 S).toL k : Nat) : Int))
                    rw [wA_set, HLS.out, pl_step S0 S k hlt5] at e
                    have ev : (((nth ls k : Nat) : Int) + ((nth S.toL k : Nat) : Int)) % 4294967296 = ((nth (plus8 S0 S).toL k : Nat) : Int) := by rw [← pl_nth S0 S k hlt5, ← HLS.out]; rfl
                    rw [ev]
                    have g1 := (hbe3.setCell (p := ⟨G, k, none⟩) (by show w.heap.size ≤ G; omega) (.int .u32 ((nth (plus8 S0 S).toL k : Nat) : Int))).drew
                    have g2 := (R6.far (p := ⟨G, k, none⟩) (by show w.heap.size ≠ G; omega) (.int .u32 ((nth (plus8 S0 S).toL k : Nat) : Int))).drew
                    have g3 := (K6.far (p := ⟨G, k, none⟩) (by show w.heap.size + 1 ≠ G; omega) (.int .u32 ((nth (plus8 S0 S).toL k : Nat) : Int))).drew
                    have g4 := hRV6.far hTVG k (.int .u32 ((nth (plus8 S0 S).toL k : Nat) : Int))
                    have g5 := e.drew
                    first | exact ⟨k + 1, by omega, by go_num, g1, g2, g3, g4, pl S0 S (k + 1), rfl, g5⟩ | ((repeat apply Exists.intro); exact ⟨⟨k + 1, by omega, by go_num, g1, g2, g3, g4, pl S0 S (k + 1), rfl, g5⟩, rfl⟩)
                  case measure => simp [intOf]; omega
                · have hk8 : k = 8 := by omega
                  have hd : decide ((k : Int) < 8) = false := decide_eq_false (by omega)
                  have H7 : Bk wr G 35 (wA (blocks (b + 1) sha0 P).toL) := by
                    rw [HNX.out]
                    have e1 : ls = (plus8 S0 S).toL := by rw [HLS.out, hk8, pl_all]
                    rw [e1, HSF.out, HPL.out] at H6
                    exact H6
                  clear hk8 hlt5 hk hll H6
                  have hA2 : Hid (a + 64 = 64 * (b + 1)) := by
                    show _ = _
                    rw [HA.out]; omega
                  go_wp2_with fail
                  go_roundw
                  case rel => first | exact ⟨b + 1, a + 64, by omega, hA2, by go_num, hbe3, R6, K6, H7⟩ | ((repeat apply Exists.intro); exact ⟨⟨b + 1, a + 64, by omega, hA2, by go_num, hbe3, R6, K6, H7⟩, rfl⟩)
                  case measure => simp [intOf]; omega
            · have hbq : b = q := by omega
              have hd : decide ((a : Int) < 64 * (q : Int)) = false := decide_eq_false (by have := HA.out; omega)
              have hsh : sha l = outL (finW l) := rfl
              rw [hbq, HPB.out] at H4
              have hfb : blocks q sha0 P = finW l := HPB.out
              generalize finW l = F at *
              have HFB := Lib.hid hfb
              clear hfb
              have HSH := Lib.hid hsh
              clear hsh hbq hlt hb
              go_upto_region 47 with (refine wpList_store_mid rfl 22 (.tmp 23) (.tmp 282) rfl wr.heap.size 0 (idA (zeros 32)) rfl rfl (by rw [idA_size]; exact (Bk.new wr 22 (idA (zeros 32))).there 32 (by rw [idA_size]; decide)) (by rw [idA_size]; exact arr_info) (all_oneCell_toArray (by intro v hv; simp only [List.mem_map] at hv; obtain ⟨x, _, rfl⟩ := hv; rfl)) ?_)
              refine wp_any (fun W => Below w.heap.size w W ∧ Bk W w.heap.size 22 (idA (zeros 32)) ∧ Bk W G 35 (wA F.toL) ∧ Bk W wr.heap.size 22 (idA (outQ F 0)))
                ⟨Below.setCells hbe.size _ _ _ (hbe.alloc hbe.size _), (R4.alloc _).farCells (by have := R4.lt; omega) _ _, (H4.alloc _).farCells (by omega) _ _, (Bk.new wr 22 (idA (zeros 32))).setAll rfl⟩ ?_
              have hO0 := hbe.size
              have hGO := H4.lt
              have hG2 : w.heap.size < G := by omega
              have HFO : Hid F.ok := by
                rw [← HFB.out]
                exact blocks_ok _ _ _ sha0_ok
              clear hbe R4 K4 H4
              generalize wr.heap.size = O at *
              rintro Z ⟨hbe, R5, H5, O5⟩
              go_wp2_with fail
              refine loop_o F G O Z _ _ _ _ _ _ _ _ _ _ _ _ _ _ _ _ _ _ _ _ _ _ _ _ _ _ _ _ _ _ _ _ _ _ _ _ _ _ _ _ _ _ _ _ _ _ _ _ _ _ _ _ _ _ _ _ _ _ _ _ _ _ _ _ _ _ _ _ _ _ _ _ _ _ _ _ _ _ _ _ _ _ _ _ _ _ _ _ _ _ _ _ _ _ _ _ _ _ _ _ _ _ _ _ _ _ _ _ _ _ _ _ _ _ _ _ _ _ _ _ _ _ _ _ _ _ _ _ _ _ _ _ _ _ _ _ _ _ _ _ _ _ _ _ _ _ _ _ _ _ _ _ _ _ _ _ _ _ _ _ _ _ _ _ _ _ _ _ _ _ _ _ _ _ _ _ _ _ _ _ _ _ _ _ _ _ _ _ _ _ _ _ _ _ _ _ _ _ _ _ _ _ _ _ _ _ _ _ _ _ _ _ _ _ _ _ _ _ _ _ _ _ _ _ _ _ _ _ _ _ _ _ _ _ _ _ _ _ _ _ _ _ _ _ _ _ _ _ _ _ _ _ _ _ _ _ _ _ _ _ _ _ _ _ _ _ _ _ _ _ _ _ _ _ _ _ _ _ _ _ _ _ _ _ _ _ _ _ _ _ _ _ _ _ _ _ _ _ _ _ _ _ _ _ HFO hGO (Lib.hid H5) O5 (fun x24 x25 x26 x283 x284 x285 x286 x287 x288 x289 x290 x291 x292 x293 x294 x295 x296 x297 x298 x299 x300 x301 x302 x303 x304 wr hb8 O7 => ?_)
              show Exit.then _ _ Exit.normal _ wr
              have R6 := R5.below hb8 (Nat.lt_of_lt_of_le hG2 (Nat.le_of_lt hGO))
              have hbe6 := hbe.trans (hb8.mono hO0)
              obtain ⟨V, hV⟩ : ∃ V, V = outL F := ⟨_, rfl⟩
              have hol : V.length = 32 := by rw [hV]; rfl
              have hVs : sha l = V := by rw [HSH.out, hV]
              rw [← hV] at O7
              have HOL := Lib.hid hol
              have HVS := Lib.hid hVs
              clear hol hV hVs
              go_wp2_with (first
                | refine wpList_load_row rfl 22 (.tmp 23) rfl O rfl 22 (idA V) (0, 0) _ O7 Tryd.underlying22 rfl (by rw [idA_size, HOL.out]; exact arr_info) ?_
                | refine wpList_store_mid rfl 22 (.tmp 2) (.tmp 305) rfl w.heap.size 0 (idA V) rfl rfl (by rw [idA_size, HOL.out]; exact R6.there 32 (by rw [idA_size]; decide)) (by rw [idA_size, HOL.out]; exact arr_info) (all_oneCell_toArray (by intro v hv; simp only [List.mem_map] at hv; obtain ⟨x, _, rfl⟩ := hv; rfl)) ?_)
              refine bodyPost_ret (results_cell_row rfl _ _ w.heap.size 22 (idA V) (0, 0) _ rfl (R6.setAll (by rw [idA_size, idA_size, HOL.out]; rfl)) Tryd.underlying22 rfl (by rw [idA_size, HOL.out]; exact arr_info)) rfl ⟨?_, Below.setCells (Nat.le_refl _) _ _ _ hbe6⟩
              rw [HVS.out]
end Go.Proofs.YtmjiadfdmchhaaaDoor
