/-
  The contract of package head's Mine.
-/
import Derived.Test.YtljfhabhenaapaaDoorHeaF
import Derived.Test.YtljfhabhenaapaaDoorHeaD
import Derived.Test.YtljfhabhenaapaaDoorHeaD
namespace Go.Proofs.YtljfhabhenaapaaDoor
open Go.RowKit
set_option maxRecDepth 100000
set_option linter.unusedVariables false

/-- A header with a nonce so much greater. -/
def hAt (h : Hd) (k : Nat) : Hd := ⟨h.v, h.p, h.r, h.t, h.b, (h.n + k) % 4294967296⟩
theorem hAt_is {h : Hd} (i : IsHd h) (k : Nat) : IsHd (hAt h k) := ⟨i.v, i.pl, i.px, i.rl, i.rx, i.t, i.b, Nat.mod_lt _ (by omega)⟩
/-- The first one of so many behind which work stands. -/
def mineV (h : Hd) (l : Nat) : Nat → Nat → Option Hd
  | _, 0 => none
  | k, r + 1 => if provV (hAt h k) l = 0 then some (hAt h k) else mineV h l (k + 1) r
def mineN (t : Int) : Nat := (min t 65536).toNat
def mineR (o : Option Hd) : Value := .tuple #[hdv (o.getD hd0), .bool o.isSome]
theorem hd_nonce {h : Hd} (i : IsHd h) (k : Nat) : (hdA h).setIfInBounds 67 (.int .u32 (((h.n + k) % 4294967296 : Nat) : Int)) = hdA (hAt h k) := by
  have e : hdL h = (u32V h.v :: (h.p.map byteV ++ (h.r.map byteV ++ [u32V h.t, u32V h.b]))) ++ [u32V h.n] := by simp [hdL]
  have e2 : hdL (hAt h k) = (u32V h.v :: (h.p.map byteV ++ (h.r.map byteV ++ [u32V h.t, u32V h.b]))) ++ [u32V ((h.n + k) % 4294967296)] := by simp [hdL, hAt]
  have hl : (u32V h.v :: (h.p.map byteV ++ (h.r.map byteV ++ [u32V h.t, u32V h.b]))).length = 67 := by simp [i.pl, i.rl]
  unfold hdA
  rw [e, e2]
  generalize (u32V h.v :: (h.p.map byteV ++ (h.r.map byteV ++ [u32V h.t, u32V h.b]))) = L at *
  rw [← hl]
  simp [u32V]
set_option maxRecDepth 100000 in
set_option maxHeartbeats 4000000 in
theorem mine_any (h : Hd) (l : Nat) (t : Int) (w : World) (i : IsHd h) (hl : l < 4294967296) (ht : -9223372036854775808 ≤ t ∧ t ≤ 9223372036854775807) (hL : Laid w) :
    Calls Tryd.prog 9 #[hdv h, .int .u32 (l : Int), .int .i64 t] w fun e w' => e = .returned (mineR (mineV h l 0 (mineN t))) ∧ Below w.heap.size w w' := by
  have HPR := Lib.hid (fun k W (hLW : Laid W) => proved_any (hAt h k) l W (hAt_is i k) hl hLW)
  have HSET := Lib.hid (fun k => hd_nonce i k)
  have HSZ := Lib.hid (fun k => hdA_size (hAt_is i k))
  have HON := Lib.hid (fun k => hdA_one (hAt h k))
  have has := hdA_size i
  have hcn := hdA_n i
  have hone := hdA_one h
  have hnl := i.n
  obtain ⟨m, hm⟩ : ∃ m, m = min t 65536 := ⟨_, rfl⟩
  obtain ⟨M, hM⟩ : ∃ M, M = m.toNat := ⟨_, rfl⟩
  have hMN : mineN t = M := by unfold mineN; rw [← hm, hM]
  have hm1 : m ≤ 65536 ∧ -9223372036854775808 ≤ m := by omega
  rw [hMN]
  show Calls Tryd.prog _ #[.agg (hdA h), _, _] w _
  have HI := Lib.hid i
  have HL := Lib.hid hL
  obtain ⟨A, hA⟩ : ∃ A, A = hdA h := ⟨_, rfl⟩
  rw [← hA] at has hcn hone HSET ⊢
  have hzv := zero_hd
  have hne := hd_ne
  have has0 := hdA_size hd0_is
  have hone0 := hdA_one hd0
  have HEND : Hid (mineR none = .tuple #[.agg (hdA hd0), .bool false]) := rfl
  obtain ⟨A0, hA0⟩ : ∃ A0, A0 = hdA hd0 := ⟨_, rfl⟩
  rw [← hA0] at hzv hne has0 hone0 HEND
  obtain ⟨R, hR⟩ : ∃ R, R = mineR (mineV h l 0 M) := ⟨_, rfl⟩
  rw [← hR]
  have HR := Lib.hid hR
  clear i hL hA hA0 hMN hR
  go_enter Tryd.func9, Tryd.ntmps9
  go_wp2_with fail
  rw [← hm]
  have HSTEP : Hid (∀ k, k < M → mineV h l k (M - k) = if provV (hAt h k) l = 0 then some (hAt h k) else mineV h l (k + 1) (M - (k + 1))) := fun k hk => by
    rw [show M - k = (M - (k + 1)) + 1 by omega]
    rfl
  have HMM : Hid (∀ k : Nat, (k : Int) < m ↔ k < M) := fun k => by omega
  have hM6 : M ≤ 65536 := by omega
  clear hm hM
  go_loopw [12] (fun i wr => ∃ k : Nat, k ≤ M ∧ i = .int .i64 k ∧ Hid (Below w.heap.size w wr) ∧ Bk wr w.heap.size 32 A ∧ Bk wr (w.heap.size + 1) 32 A0 ∧ Hid (R = mineR (mineV h l k (M - k)))) (fun i _ => M - (intOf i).toNat)
  case atStart => exact ⟨0, Nat.zero_le _, rfl, ((Below.refl _ _).alloc (Nat.le_refl _) _).alloc (by simp) _, (Bk.new _ _ _).alloc _, Bk.new' _ _ _ (by simp), by rw [Nat.sub_zero]; exact HR.out⟩
  case round =>
    obtain ⟨k, hk, rfl, HB, K, K0, HRk⟩ := hrel
    by_cases hlt : k < M
    · have hdk : decide ((k : Int) < m) = true := decide_eq_true ((HMM.out k).2 hlt)
      have hst := HSTEP.out k hlt
      rw [hst] at HRk
      clear hst
      have hk32 : IntKind.u32.wrap (k : Int) = (k : Int) := by rw [IntKind.wrap_u32]; omega
      have hadd : IntKind.u32.wrap ((h.n : Int) + (k : Int)) = (((h.n + k) % 4294967296 : Nat) : Int) := by rw [IntKind.wrap_u32]; omega
      have hsk := HSET.out k
      have hz := K.lt
      have hz0 := K0.lt
      have N0 := Bk.new wr 32 A0
      have K1 := (K.alloc (.cells A0 32))
      go_upto_region 5 with (first
        | (refine wpList_load_row rfl 32 (.tmp 3) rfl w.heap.size rfl 32 A (0, 0) _ K Tryd.underlying32 rfl (by rw [has]; exact hd_info) ?_)
        | (refine wpList_load_row rfl 32 (.tmp 3) rfl w.heap.size rfl 32 A (0, 0) _ K1 Tryd.underlying32 rfl (by rw [has]; exact hd_info) ?_)
        | (refine wpList_store_mid rfl 32 (.tmp 9) (.tmp 15) rfl wr.heap.size 0 A rfl rfl (by rw [has]; exact N0.there 68 (by rw [has0]; exact Nat.le_refl _)) (by rw [has]; exact hd_info) hone ?_))
      refine wp_any (fun V => Below w.heap.size w V ∧ Bk V w.heap.size 32 A ∧ Bk V (w.heap.size + 1) 32 A0 ∧ Bk V wr.heap.size 32 A) ⟨Below.setCells HB.out.size _ _ _ (HB.out.alloc HB.out.size _), rowFar K1 (by omega) _ _, rowFar (K0.alloc _) (by omega) _ _, N0.setAll (by rw [has, has0])⟩ ?_
      clear HB K K0 N0 K1 hz
      generalize wr.heap.size = g at *
      rintro V ⟨hV, K, K0, T⟩
      have c67 := (T.cell 67).trans hcn
      have f67 := T.frozen 67
      have zt := T.lt
      go_upto_region 6 with fail
      obtain ⟨Ak, hAk⟩ : ∃ Ak, Ak = hdA (hAt h k) := ⟨_, rfl⟩
      have hse : (((h.n + k) % 4294967296 : Nat) : Int) = ((h.n : Int) + (k : Int)) % 4294967296 := by omega
      have T1 := T.set_ 67 (.int .u32 (((h.n : Int) + (k : Int)) % 4294967296))
      rw [hse] at hsk
      rw [hsk, ← hAk] at T1
      refine wp_any (fun V => Below w.heap.size w V ∧ Bk V w.heap.size 32 A ∧ Bk V (w.heap.size + 1) 32 A0 ∧ Bk V g 32 Ak) ⟨hV.setCell (by show w.heap.size ≤ g; omega) _, K.far (by show w.heap.size ≠ g; omega) _, K0.far (by show w.heap.size + 1 ≠ g; omega) _, T1⟩ ?_
      clear hV K K0 T T1 c67 f67 zt hsk hse hk32 hadd
      rintro X ⟨hX, K, K0, T⟩
      have hsz : Ak.size = 68 := by rw [hAk]; exact HSZ.out k
      have hon : Ak.all (·.oneCell') = true := by rw [hAk]; exact HON.out k
      have HP := Lib.hid (HPR.out k X (HL.out.below hX HL.out.size))
      change Hid (Calls _ _ #[.agg (hdA (hAt h k)), _] _ _) at HP
      rw [← hAk] at HP
      have HAK := Lib.hid hAk
      have hX := Lib.hid hX
      clear hAk
      go_wp2_with (refine wpList_load_row rfl 32 (.tmp 9) rfl g rfl 32 Ak (0, 0) _ T Tryd.underlying32 rfl (by rw [hsz]; exact hd_info) ?_)
      refine HP.out.mono ?_
      rintro e w3 ⟨rfl, hb3⟩
      have hW3 := Lib.hid (below_step hX.out hX.out.size hb3)
      have K := K.keep hb3
      have K0 := K0.keep hb3
      have T := T.keep hb3
      clear hb3 HP hX
      by_cases hp : provV (hAt h k) l = 0
      · rw [if_pos hp] at HRk
        rw [hp]
        have hRk : R = .tuple #[.agg Ak, .bool true] := by rw [HRk.out, HAK.out]; rfl
        clear HRk hp
        subst hRk
        go_wp2_with (first
          | (refine wpList_load_row rfl 32 (.tmp 9) rfl g rfl 32 Ak (0, 0) _ T Tryd.underlying32 rfl (by rw [hsz]; exact hd_info) ?_)
          | (refine wpList_store_mid rfl 32 (.tmp 6) (.tmp 26) rfl (w.heap.size + 1) 0 Ak rfl rfl (by rw [hsz]; exact K0.there 68 (by rw [has0]; exact Nat.le_refl _)) (by rw [hsz]; exact hd_info) hon ?_))
        exact hd_ret rfl rfl rfl rfl hsz (K0.setAll (by rw [hsz, has0])) ⟨rfl, Below.setCells (Nat.le_succ _) _ _ _ hW3.out⟩
      · rw [if_neg hp] at HRk
        have hd0 : decide (((provV (hAt h k) l : Nat) : Int) = 0) = false := decide_eq_false (by omega)
        have hd0' : decide (provV (hAt h k) l = 0) = false := decide_eq_false hp
        generalize provV (hAt h k) l = pv at *
        go_wp2_with fail
        go_roundw
        case rel => exact ⟨k + 1, by omega, by go_num, hW3.out, K, K0, HRk.out⟩
        case measure => simp [intOf]; omega
    · have hkM : k = M := by omega
      have hdk : decide ((k : Int) < m) = false := decide_eq_false (by rw [HMM.out k]; exact hlt)
      have hRk : R = .tuple #[.agg A0, .bool false] := by rw [HRk.out, hkM, Nat.sub_self, ← HEND.out]; rfl
      clear HRk hkM
      subst hRk
      go_wp2_with (refine wpList_store_mid rfl 32 (.tmp 6) (.tmp 28) rfl (w.heap.size + 1) 0 A0 rfl rfl (by rw [has0]; exact K0.there 68 (by rw [has0]; exact Nat.le_refl _)) (by rw [has0]; exact hd_info) hone0 ?_)
      exact hd_ret rfl rfl rfl rfl has0 (K0.setAll rfl) ⟨rfl, Below.setCells (Nat.le_succ _) _ _ _ HB.out⟩
end Go.Proofs.YtljfhabhenaapaaDoor
